import PyProof.Rows.All
import Wide.All
import OpenK.AllK
import Wide.FinOn
import Lean
import PyProof.EqAt
import PyProof.EqKinds
import PyProof.TupleCall
import PyProof.ZipIter
import PyProof.TupleIter
import PyProof.WalksMore
import KE.KWords
import PyProof.MinMaxWalk
import PyProof.SeqI3
import PyProof.MaxThree
import PyProof.AttrMissHeap
import PyProof.DictList
import PyProof.DictIter
import KE.KDictOf
import KE.KDictList
import PyProof.Rows.CallKwBuiltin
import PyProof.Rows.Range3
import PyProof.Rows.StrNews2
import PyProof.StrLawsIdx
import PyProof.StrBlockI
import KE.KRevSl
import PyProof.AutoListH
import PyProof.DictWalks
import PyProof.Draws
import PyProof.EnumMake
import PyProof.NeKinds
import PyProof.Rows.SetFrom
import KE.KSortTup
import PyProof.StrBlock2
import PyProof.DictItems
import KE.KPairComp
import PyProof.Rows.SumAny
import PyProof.ListStr
import PyProof.DictValues
import OpenK.KRaise
import PyProof.StationsW
import PyProof.ExcClass2
import OpenK.KOwn
import PyProof.Rows.FStr
import PyProof.NsDelKeeps
import PyProof.RulesAs
import KE.KIsNot
import PyProof.ExcArgsOwn
import PyProof.ExcAttrAll.ValueError
import KE.KLam
import PySem.Challenge.RW_twainkeep_k29_state_of_each_part
set_option Elab.async false
set_option linter.all false
set_option maxRecDepth 100000
namespace L2
open PySem PySem.Spec PyProof.Rows
noncomputable abbrev Key:=Sum Int Str
noncomputable def keyIs:Key→Value→Bool
  | .inl k,v=>Value.isInt k v
  | .inr x,v=>Value.isStrOf x v
noncomputable def keyH (w:World):Key→Int
  | .inl k=>hashInt k
  | .inr x=>hashStr w x
theorem keyIs_shape:∀ {k:Key} {v:Value},keyIs k v=true→(∃ i t,k=Sum.inl i∧v=Value.int i t)∨(∃ x t,k=Sum.inr x∧v=Value.str x t)
  | .inl i,v,h=>by
    obtain ⟨t,e⟩:=Value.isInt_shape (k:=i) (v:=v) h
    exact .inl ⟨i,t,rfl,e⟩
  | .inr x,v,h=>by
    obtain ⟨t,e⟩:=Value.isStrOf_shape (x:=x) (v:=v) h
    exact .inr ⟨x,t,rfl,e⟩
theorem keyIs_int (i:Int) (t:Tok):keyIs (.inl i) (.int i t)=true:=by simp [keyIs,Value.isInt]
theorem keyIs_str (x:Str) (t:Tok):keyIs (.inr x) (.str x t)=true:=by simp [keyIs,Value.isStrOf]
theorem key_ll (a b:Int):decide ((Sum.inl a:Key)=Sum.inl b)=(a == b):=by
  by_cases e:a=b
  · subst e; simp
  · have h:¬ (Sum.inl a:Key)=Sum.inl b:=fun q=>e (Sum.inl.inj q)
    rw [decide_eq_false h]
    exact (beq_eq_false_iff_ne.mpr e).symm
theorem key_rr (a b:Str):decide ((Sum.inr a:Key)=Sum.inr b)=decide (a=b):=by
  by_cases e:a=b
  · subst e; simp
  · have h:¬ (Sum.inr a:Key)=Sum.inr b:=fun q=>e (Sum.inr.inj q)
    rw [decide_eq_false h,decide_eq_false e]
theorem key_lr (a:Int) (b:Str):decide ((Sum.inl a:Key)=Sum.inr b)=false:=decide_eq_false (fun q=>nomatch q)
theorem key_rl (a:Str) (b:Int):decide ((Sum.inr a:Key)=Sum.inl b)=false:=decide_eq_false (fun q=>nomatch q)
noncomputable def mixKind (prog:Program) (w:World):PySem.KeyKind prog w Key where
  is:=keyIs
  hash:=keyH w
  inj:=fun v a b ha hb=>by
    rcases keyIs_shape ha with ⟨i,t,rfl,rfl⟩ | ⟨x,t,rfl,rfl⟩
    · rcases keyIs_shape hb with ⟨j,u,rfl,e⟩ | ⟨y,u,rfl,e⟩
      · injection e with e1 _; rw [e1]
      · exact nomatch e
    · rcases keyIs_shape hb with ⟨j,u,rfl,e⟩ | ⟨y,u,rfl,e⟩
      · exact nomatch e
      · injection e with e1 _; rw [e1]
  byValue:=fun k v h=>by
    rcases keyIs_shape h with ⟨i,t,rfl,rfl⟩ | ⟨x,t,rfl,rfl⟩ <;> rfl
  pyHash:=fun hv h=>by
    rcases keyIs_shape hv with ⟨i,t,rfl,rfl⟩ | ⟨x,t,rfl,rfl⟩
    · exact wpAny_pyHash_int h
    · exact wpAny_pyHash_str h
  eqBool:=fun hu hv h=>by
    rcases keyIs_shape hu with ⟨i,t,rfl,rfl⟩ | ⟨x,t,rfl,rfl⟩
    · rcases keyIs_shape hv with ⟨j,u,rfl,rfl⟩ | ⟨y,u,rfl,rfl⟩
      · rw [key_ll] at h; exact wpAny_eqBool_int h
      · rw [key_lr] at h; exact SeqAt.EqAt.int_str i t y u _ _ _ _ h
    · rcases keyIs_shape hv with ⟨j,u,rfl,rfl⟩ | ⟨y,u,rfl,rfl⟩
      · rw [key_rl] at h; exact SeqAt.EqAt.str_int x t j u _ _ _ _ h
      · rw [key_rr] at h; exact wpAny_eqBool_str h
  «strs»:=fun k x t v h=>by
    rcases keyIs_shape h with ⟨i,u,rfl,e⟩ | ⟨y,u,rfl,e⟩
    · exact nomatch e
    · injection e with e1 _
      subst e1
      cases v <;> rfl
theorem mixKind_int (prog:Program) (w:World) (i:Int) (t:Tok):(mixKind prog w).is (.inl i) (.int i t)=true:=keyIs_int i t
theorem mixKind_str (prog:Program) (w:World) (x:Str) (t:Tok):(mixKind prog w).is (.inr x) (.str x t)=true:=keyIs_str x t
end L2
namespace L2
open PySem PySem.Spec PyProof.Rows
inductive V where
  | non | bl (b:Bool) | int (i:Int) | str (x:Str) | byt (b:Array UInt8) | flt (b:UInt64) | ref (a:Addr) | ty (n:String)
  deriving DecidableEq
noncomputable def RelV:V→Value→Prop
  | .non,u=>u=Value.none
  | .bl b,u=>u=Value.bool b
  | .int i,u=>∃ t,u=Value.int i t
  | .str x,u=>∃ t,u=Value.str x t
  | .byt b,u=>∃ t,u=Value.bytes b t
  | .flt b,u=>∃ t,u=Value.float b t
  | .ref a,u=>u=Value.ref a
  | .ty n,u=>u=Value.type n
noncomputable abbrev Vals:List V→List Value→Prop:=Paired RelV
theorem Vals.length {xs:List V} {us:List Value} (r:Vals xs us):xs.length=us.length:=Paired.length r
theorem Vals.get:∀ {xs:List V} {us:List Value} {i:Nat} {x:V},Vals xs us→xs[i]?=some x→∃ u,us[i]?=some u∧RelV x u
  | _,_,_,_,.nil,e=>by simp at e
  | _,_,0,_,.cons r _,e=>by simp at e; subst e; exact ⟨_,rfl,r⟩
  | _,_,i+1,x,.cons _ t,e=>by
    obtain ⟨u,h1,h2⟩:=Vals.get (i:=i) (x:=x) t (by simpa using e)
    exact ⟨u,by simpa using h1,h2⟩
theorem Vals.set {x:V} {u:Value} (r:RelV x u):∀ {xs:List V} {us:List Value} (i:Nat),Vals xs us→Vals (xs.set i x) (us.set i u)
  | _,_,_,.nil=>.nil
  | _,_,0,.cons _ t=>.cons r t
  | _,_,i+1,.cons q t=>.cons q (Vals.set r i t)
theorem Vals.append:∀ {xs ys:List V} {us ws:List Value},Vals xs us→Vals ys ws→Vals (xs++ys) (us++ws)
  | _,_,_,_,.nil,s=>s
  | _,_,_,_,.cons r t,s=>.cons r (Vals.append t s)
theorem Vals.take:∀ {xs:List V} {us:List Value} (n:Nat),Vals xs us→Vals (xs.take n) (us.take n)
  | _,_,0,_=>.nil
  | _,_,_+1,.nil=>.nil
  | _,_,n+1,.cons r t=>.cons r (Vals.take n t)
theorem Vals.drop:∀ {xs:List V} {us:List Value} (n:Nat),Vals xs us→Vals (xs.drop n) (us.drop n)
  | _,_,0,r=>r
  | _,_,_+1,.nil=>.nil
  | _,_,n+1,.cons _ t=>Vals.drop n t
noncomputable def RelO:Option V→Option Value→Prop
  | some v,some u=>RelV v u
  | none,none=>True
  | _,_=>False
noncomputable def KV {κ:Type}:List (κ × V)→List (κ × Value)→Prop:=Paired fun (p:κ × V) (q:κ × Value)=>p.1=q.1∧RelV p.2 q.2
noncomputable def kV:Key→V
  | .inl i=>.int i
  | .inr x=>.str x
inductive HO where
  | lst (xs:List V)
  | tup (xs:List V)
  | dK (kvs:List (Key × V)) | dT (kvs:List (List Key × V))
  | set (S:Int→Bool) (n:Nat)
  | ins (C dx:Addr) (fs:List (Str × V))
  | own (x:Addr)
  | xd (fs:List (Str × V))
  | met (f x:Addr)
  | rng (lo hi:Int)
  | frz (o:Obj) (u:HO)
  | tbl (ps:Array Value)
  | ext (φ:Heap→Prop)
noncomputable abbrev Hp:=Addr→Option HO
noncomputable def upd (H:Hp) (a:Addr) (o:HO):Hp:=fun b=>if b=a then some o else H b
theorem upd_same {H:Hp} {a:Addr} {o:HO}:upd H a o a=some o:=by unfold upd; rw [if_pos rfl]
theorem upd_ne {H:Hp} {a b:Addr} {o:HO} (h:b≠a):upd H a o b=H b:=by unfold upd; rw [if_neg h]
theorem upd_upd {H:Hp} {a:Addr} {o u:HO}:upd (upd H a o) a u=upd H a u:=by
  funext b; unfold upd; split <;> rfl
theorem ne_of {H:Hp} {a b:Addr} {o u:HO} (h:H a=some o) (h':H b=some u) (d:o≠u):a≠b:=by
  intro e; subst e; rw [h] at h'; exact d (Option.some.inj h')
theorem ne_of_none {H:Hp} {a b:Addr} {o:HO} (h:H a=some o) (h':H b=none):a≠b:=by
  intro e; subst e; rw [h] at h'; cases h'
section
variable (P:Program) (w:World)
noncomputable def ObjOk (H:Hp) (h:Heap) (a:Addr):HO→Prop
  | .lst xs=>xs.length≤sizeLine∧∃ (its:List Value) (n:Nat),Vals xs its∧h.get? a=some { cls:=.type "list",data:=.seq its.toArray n }
  | .tup xs=>xs.length≤sizeLine∧∃ its:List Value,Vals xs its∧IsTup h a its.toArray
  | .dK kvs=>kvs.length≤sizeLine∧(a == sysModules)=false∧∃ vs,KV kvs vs∧h.DictOf (mixKind P w) a vs
  | .dT kvs=>kvs.length≤sizeLine∧(a == sysModules)=false∧∃ xs:List (List Key × Addr × Value),
      Paired (fun (p:List Key × V) (q:List Key × Addr × Value)=>p.1=q.1∧H q.2.1=some (.tup (p.1.map kV))∧RelV p.2 q.2.2) kvs xs ∧
      ∃ o es ep,h.get? a=some o∧o.ExactDict∧o.data=.dict es ep∧es.toList=xs.map (entryOfKey (tupleKind (mixKind P w)))∧(xs.map (·.1)).Nodup
  | .set S n=>h.SetOf (intKind P w) a S n
  | .ins C dx fs=>H dx=some (.own a)∧fs.length≤1000∧dx≠a∧h.get? a=some (PySem.W.instObj C dx) ∧
      ∃ mA,h.Ns1 dx mA∧(∀ f,RelO (fs.lookup f) (mA f))∧PySem.Within mA (fs.map (·.1))
  | .own _=>∃ o,h.get? a=some o
  | .xd fs=>∃ mA,h.Ns1 a mA∧∀ f,RelO (fs.lookup f) (mA f)
  | .rng lo hi=>∃ t u v,h.get? a=some { cls:=.type "range",data:=.fields #[.int lo t,.int hi u,.int 1 v] }
  | .frz o u=>h.get? a=some o∧ObjOk H h a u
  | .tbl ps=>h.get? a=some { cls:=.none,data:=.fields ps }
  | .met f x=>h.get? a=some (PySem.W.methodObj (.ref f) (.ref x))
  | .ext φ=>φ h∧(∃ o,h.get? a=some o)∧∀ h1 h2:Heap,φ h1→(∀ o,h1.get? a=some o→h2.get? a=some o)→φ h2
noncomputable def HOk (H:Hp) (h:Heap):Prop:=∀ a o,H a=some o→ObjOk P w H h a o
end
section
variable {P:Program} {w:World} {H H':Hp} {h h':Heap} {a:Addr} {o:HO}
theorem ObjOk.lt (x:ObjOk P w H h a o):a < h.objs.size:=by
  cases o with
  | lst xs=>obtain ⟨_,_,_,_,e⟩:=x; exact Heap.lt_size e
  | tup xs=>obtain ⟨_,_,_,p⟩:=x; exact p.lt
  | dK kvs=>obtain ⟨_,_,_,_,o,_,_,e,_⟩:=x; exact Heap.lt_size e
  | dT kvs=>obtain ⟨_,_,_,_,o,_,_,e,_⟩:=x; exact Heap.lt_size e
  | set S n=>obtain ⟨o,_,_,_,e,_⟩:=x; exact Heap.lt_size e
  | ins C dx fs=>obtain ⟨_,_,_,e,_⟩:=x; exact Heap.lt_size e
  | own y=>obtain ⟨_,e⟩:=x; exact Heap.lt_size e
  | xd fs=>obtain ⟨_,⟨_,_,_,e,_⟩,_⟩:=x; exact Heap.lt_size e
  | rng lo hi=>obtain ⟨_,_,_,e⟩:=x; exact Heap.lt_size e
  | frz ob u=>obtain ⟨e,_⟩:=x; exact Heap.lt_size e
  | tbl ps=>exact Heap.lt_size (show h.get? a=some _ from x)
  | met f y=>exact Heap.lt_size (show h.get? a=some _ from x)
  | ext φ=>obtain ⟨_,⟨_,e⟩,_⟩:=x; exact Heap.lt_size e
theorem Paired.mapP {α β:Type} {F G:α→β→Prop}:∀ {l₁:List α} {l₂:List β},Paired F l₁ l₂→(∀ a b,F a b→G a b)→Paired G l₁ l₂
  | _,_,.nil,_=>.nil
  | _,_,.cons r t,f=>.cons (f _ _ r) (Paired.mapP t f)
theorem ObjOk.stay (x:ObjOk P w H h a o) (k:∀ b u,(b=a∨H b=some (.own a))→h.get? b=some u→h'.get? b=some u)
    (ho:∀ b,H b=some (.own a)→H' b=some (.own a)) (ht:∀ b xs,H b=some (.tup xs)→H' b=some (.tup xs)):ObjOk P w H' h' a o:=by
  induction o with
  | lst xs=>obtain ⟨z,its,n,r,e⟩:=x; exact ⟨z,its,n,r,k _ _ (.inl rfl) e⟩
  | tup xs=>obtain ⟨z,its,r,ob,e,c⟩:=x; exact ⟨z,its,r,ob,k _ _ (.inl rfl) e,c⟩
  | dK kvs=>obtain ⟨z,y,vs,r,ob,es,ep,e,c⟩:=x; exact ⟨z,y,vs,r,ob,es,ep,k _ _ (.inl rfl) e,c⟩
  | dT kvs =>
    obtain ⟨z,y,xs,r,ob,es,ep,e,c⟩:=x
    exact ⟨z,y,xs,Paired.mapP r fun p q z=>⟨z.1,ht _ _ z.2.1,z.2.2⟩,ob,es,ep,k _ _ (.inl rfl) e,c⟩
  | set S n=>obtain ⟨ob,es,ep,t,e,c⟩:=x; exact ⟨ob,es,ep,t,k _ _ (.inl rfl) e,c⟩
  | ins C dx fs =>
    obtain ⟨d,z,ne,e,mA,⟨od,es,ep,e2,c⟩,r⟩:=x
    exact ⟨ho _ d,z,ne,k _ _ (.inl rfl) e,mA,⟨od,es,ep,k _ _ (.inr d) e2,c⟩,r⟩
  | own y=>obtain ⟨ob,e⟩:=x; exact ⟨ob,k _ _ (.inl rfl) e⟩
  | xd fs=>obtain ⟨mA,⟨od,es,ep,e,c⟩,r⟩:=x; exact ⟨mA,⟨od,es,ep,k _ _ (.inl rfl) e,c⟩,r⟩
  | rng lo hi=>obtain ⟨t,u,v,e⟩:=x; exact ⟨t,u,v,k _ _ (.inl rfl) e⟩
  | frz ob u ih=>obtain ⟨e,q⟩:=x; exact ⟨k _ _ (.inl rfl) e,ih q⟩
  | tbl ps =>
    have e:h.get? a=some { cls:=.none,data:=.fields ps }:=x
    show h'.get? a=some { cls:=.none,data:=.fields ps }
    exact k a _ (.inl rfl) e
  | met f y =>
    have e:h.get? a=some (PySem.W.methodObj (.ref f) (.ref y)):=x
    show h'.get? a=some (PySem.W.methodObj (.ref f) (.ref y))
    exact k a _ (.inl rfl) e
  | ext φ=>obtain ⟨p,⟨o,e⟩,st⟩:=x; exact ⟨st _ _ p fun o q=>k _ _ (.inl rfl) q,⟨o,k _ _ (.inl rfl) e⟩,st⟩
theorem HOk.lt (x:HOk P w H h) (e:H a=some o):a < h.objs.size:=(x a o e).lt
theorem HOk.fresh (x:HOk P w H h) (e:h.objs.size≤a):H a=none:=by
  cases q:H a with
  | none=>rfl
  | some u=>exact absurd (Nat.lt_of_lt_of_le (x.lt q) e) (Nat.lt_irrefl _)
theorem HOk.kept (x:HOk P w H h) (k:∀ b u,h.get? b=some u→h'.get? b=some u):HOk P w H h':=fun a o e =>
  (x a o e).stay (fun b u _ q=>k b u q) (fun _ q=>q) fun _ _ q=>q
theorem HOk.laid (x:HOk P w H h) (k:∀ b u,h.get? b=some u→h'.get? b=some u) (hp:h.objs.size≤a) (new:ObjOk P w (upd H a o) h' a o):HOk P w (upd H a o) h':=fun b u e=>by
  have hn:=x.fresh hp
  by_cases hb:b=a
  · subst hb; rw [upd_same] at e; cases e; exact new
  · rw [upd_ne hb] at e
    exact (x b u e).stay (fun c v _ q=>k c v q) (fun c q=>by rw [upd_ne (ne_of_none q hn)]; exact q) fun c xs q=>by rw [upd_ne (ne_of_none q hn)]; exact q
end
noncomputable def Rd (H:Hp) (a:Addr) (u:HO):Prop:=H a=some u∨∃ o,H a=some (.frz o u)
theorem Rd.ok {P:Program} {w:World} {H:Hp} {h:Heap} {a:Addr} {u:HO} (r:Rd H a u) (x:HOk P w H h):ObjOk P w H h a u:=by
  rcases r with r | ⟨o,r⟩
  · exact x a u r
  · obtain ⟨_,q⟩:=x a _ r
    exact q
noncomputable def Mut:Option HO→Prop
  | some (.lst _)=>True
  | some (.dK _)=>True
  | some (.dT _)=>True
  | some (.set _ _)=>True
  | some (.ins _ _ _)=>True
  | some (.ext _)=>True
  | _=>False
section
variable {P:Program} {w:World} {H:Hp} {h h':Heap} {x e:Addr} {o':HO}
theorem HOk.write (ok:HOk P w H h) (mu:Mut (H x)) (he:e=x∨H e=some (.own x)) (k:∀ b u,b≠e→h.get? b=some u→h'.get? b=some u) (heo:∃ u,h'.get? e=some u)
    (new:ObjOk P w (upd H x o') h' x o'):HOk P w (upd H x o') h':=fun b u q=>by
  have nown:∀ c y,H c=some (.own y)→c≠x:=fun c y r z=>by subst z; rw [r] at mu; exact mu
  have ntup:∀ c xs,H c=some (.tup xs)→c≠x:=fun c xs r z=>by subst z; rw [r] at mu; exact mu
  by_cases hb:b=x
  · subst hb; rw [upd_same] at q; cases q; exact new
  · rw [upd_ne hb] at q
    by_cases hbe:b=e
    · have q':H b=some (.own x):=by
        rcases he with z | z
        · exact absurd (hbe.trans z) hb
        · rw [hbe]; exact z
      rw [q] at q'; cases q'
      obtain ⟨v,hv⟩:=heo
      exact ⟨v,by rw [hbe]; exact hv⟩
    · refine (ok b u q).stay (fun c v hc r=>k c v ?_ r) (fun c r=>by rw [upd_ne (nown c b r)]; exact r) fun c xs r=>by rw [upd_ne (ntup c xs r)]; exact r
      rcases hc with rfl | hc
      · exact hbe
      · rintro rfl
        rcases he with z | z
        · exact nown c b hc z
        · rw [hc] at z; cases z; exact hb rfl
end
structure Un (fs ex:List Addr) (H H':Hp) (h h':Heap):Prop where
  keep:∀ b o,h.get? b=some o→H b=none→b ∉ fs→b ∉ ex→h'.get? b=some o
  slot:∀ b o,h.get? b=some o→H b=none→b∈fs→b ∉ ex→∃ sl,h'.get? b=some { o with slots:=sl }
  free:∀ b o,h.get? b=some o→H b=none→b ∉ ex→H' b=none
  there:∀ b o,h.get? b=some o→b ∉ ex→∃ o',h'.get? b=some o'
  tups:∀ b xs,H b=some (.tup xs)→H' b=some (.tup xs)
  frzs:∀ b o u,H b=some (.frz o u)→H' b=some (.frz o u)
  tbls:∀ b ps,H b=some (.tbl ps)→∃ more,H' b=some (.tbl (ps++more))
section
variable {fs fs' ex ex':List Addr} {H H1 H2:Hp} {h h1 h2 h':Heap} {a x e:Addr} {o:HO}
theorem Un.any (u:Un fs ex H H1 h h1) {b:Addr} {ob:Obj} (q:h.get? b=some ob) (n:H b=none) (hx:b ∉ ex):∃ sl,h1.get? b=some { ob with slots:=sl }:=by
  by_cases hb:b∈fs
  · exact u.slot b ob q n hb hx
  · exact ⟨ob.slots,u.keep b ob q n hb hx⟩
theorem Un.trans (a:Un fs ex H H1 h h1) (b:Un fs ex H1 H2 h1 h2):Un fs ex H H2 h h2 where
  keep:=fun c ob q n hc hx=>b.keep c ob (a.keep c ob q n hc hx) (a.free c ob q n hx) hc hx
  slot:=fun c ob q n hc hx=>by
    obtain ⟨sl,e1⟩:=a.slot c ob q n hc hx
    obtain ⟨sl',e2⟩:=b.slot c _ e1 (a.free c ob q n hx) hc hx
    exact ⟨sl',e2⟩
  free:=fun c ob q n hx=>by
    obtain ⟨o',e1⟩:=a.there c ob q hx
    exact b.free c o' e1 (a.free c ob q n hx) hx
  there:=fun c ob q hx=>by
    obtain ⟨o',e1⟩:=a.there c ob q hx
    exact b.there c o' e1 hx
  tups:=fun c xs q=>b.tups c xs (a.tups c xs q)
  frzs:=fun c ob xs q=>b.frzs c ob xs (a.frzs c ob xs q)
  tbls:=fun c ps q=>by
    obtain ⟨m1,e1⟩:=a.tbls c ps q
    obtain ⟨m2,e2⟩:=b.tbls c _ e1
    exact ⟨m1++m2,by rw [e2,Array.append_assoc]⟩
theorem Un.kept (k:∀ b u,h.get? b=some u→h'.get? b=some u):Un fs ex H H h h' :=
  ⟨fun b ob q _ _ _=>k b ob q,fun b ob q _ _ _=>⟨ob.slots,k b ob q⟩,fun _ _ _ n _=>n,fun b ob q _=>⟨ob,k b ob q⟩,fun _ _ q=>q,fun _ _ _ q=>q,fun _ ps q=>⟨#[],by rw [q]; simp⟩⟩
theorem Un.refl:Un fs ex H H h h:=Un.kept fun _ _ q=>q
theorem Un.laid (k:∀ b u,h.get? b=some u→h'.get? b=some u) (hp:h.objs.size≤a) (hn:H a=none):Un fs ex H (upd H a o) h h' where
  keep:=fun b u q _ _ _=>k b u q
  slot:=fun b u q _ _ _=>⟨u.slots,k b u q⟩
  free:=fun b u q n _=>by rw [upd_ne (Nat.ne_of_lt (Nat.lt_of_lt_of_le (Heap.lt_size q) hp))]; exact n
  there:=fun b u q _=>⟨u,k b u q⟩
  tups:=fun b xs q=>by rw [upd_ne (ne_of_none q hn)]; exact q
  frzs:=fun b u xs q=>by rw [upd_ne (ne_of_none q hn)]; exact q
  tbls:=fun b ps q=>⟨#[],by rw [upd_ne (ne_of_none q hn),q]; simp⟩
theorem Un.write (mu:Mut (H x)) (he:e=x∨H e=some (.own x)) (k:∀ b u,b≠e→h.get? b=some u→h'.get? b=some u) (heo:∃ u,h'.get? e=some u):Un fs ex H (upd H x o) h h':=by
  have hx:∀ b,H b=none→b≠x:=fun b n z=>by subst z; rw [n] at mu; exact mu
  have hb:∀ b,H b=none→b≠e:=fun b n z=>by
    subst z
    rcases he with r | r
    · exact hx b n r
    · rw [n] at r; cases r
  have hm:∀ b u,H b=some u→¬ Mut (some u)→b≠x:=fun b u q nm z=>by subst z; rw [q] at mu; exact nm mu
  refine ⟨fun b u q n _ _=>k b u (hb b n) q,fun b u q n _ _=>⟨u.slots,k b u (hb b n) q⟩,fun b u q n _=>by rw [upd_ne (hx b n)]; exact n,fun b u q _=>?_,
    fun b xs q=>by rw [upd_ne (hm b _ q fun z=>z)]; exact q,fun b u xs q=>by rw [upd_ne (hm b _ q fun z=>z)]; exact q,fun b ps q=>⟨#[],by rw [upd_ne (hm b _ q fun z=>z),q]; simp⟩⟩
  by_cases hbe:b=e
  · subst hbe; exact heo
  · exact ⟨u,k b u hbe q⟩
theorem Un.mono (u:Un fs ex H H1 h h1) (hs:∀ b∈fs,b∈fs') (hx:∀ b∈ex,b∈ex'):Un fs' ex' H H1 h h1 :=
  ⟨fun b ob q n hb he=>u.keep b ob q n (fun z=>hb (hs b z)) fun z=>he (hx b z),fun _ _ q n _ he=>u.any q n fun z=>he (hx _ z),fun b ob q n he=>u.free b ob q n fun z=>he (hx b z),fun b ob q he=>u.there b ob q fun z=>he (hx b z),u.tups,u.frzs,u.tbls⟩
end
noncomputable def trk (h:Heap) (H:Hp):List Addr:=(List.range h.objs.size).filter fun a=>(H a).isSome
noncomputable def hidT (h:Heap) (H:Hp):Heap:=PySem.W.hideAll h (trk h H)
theorem hidT_size (h:Heap) (H:Hp):(hidT h H).objs.size=h.objs.size:=PySem.W.hideAll_size _ _
theorem hidT_get {h:Heap} {H:Hp} {b:Addr} {o:Obj} (e:h.get? b=some o) (n:H b=none):(hidT h H).get? b=some o :=
  PySem.W.hideAll_get _ e fun hm=>by
    have q:(H b).isSome=true:=(List.mem_filter.mp hm).2
    rw [n] at q; simp at q
theorem of_hidT {h:Heap} {H:Hp} {b:Addr} {o:Obj} (e:(hidT h H).get? b=some o):h.get? b=some o∧H b=none:=by
  have e':h.get? b=some o:=PySem.W.of_hideAll (trk h H) e
  refine ⟨e',?_⟩
  cases q:H b with
  | none=>rfl
  | some x =>
    have hm:b∈trk h H:=List.mem_filter.mpr ⟨List.mem_range.mpr (Heap.lt_size e'),by simp [q]⟩
    have z:(hidT h H).get? b=none:=PySem.W.hideAll_none (trk h H) hm
    rw [z] at e; cases e
noncomputable def allNews (g h:Heap) (L:Addr):List (Addr × Obj):=(List.range h.objs.size).filterMap fun a=>if a=L∨(g.get? a).isSome=true then none else (h.get? a).map fun o=>(a,o)
noncomputable def rest (g h:Heap) (L d:Addr):List (Addr × Obj):=(allNews g h L).filter fun p=>decide (p.1≠d)
end L2
namespace L2
open PySem PySem.Spec PyProof.Rows
structure Mod (K:PySem.W.Frag) (mg:Str→Option Value) (base:Heap):Prop where
  kin:K.In base
  glob:base.Ns mainGlobals mg
  blt:∃ mb,base.Ns builtinsNs mb∧∀ x:Str,x ≠ "__name__"→mb x=bootBuiltins x
  nolimit:base.NoLimit
set_option genInjectivity false in
structure Cx where
  prog:Program
  w:World
  K:PySem.W.Frag
  mg:Str→Option Value
  base:Heap
  A:Around
  N:List Str
  s₀:Shared
  H₀:Hp
  env:Env
  outer:List Env
  stack:List Env
  ex:List Addr
  fn:Str→Bool
  calm:Bool
  pn:List (Addr × Obj)
  xe:Value→Shared→Prop
noncomputable def frs (l:List Env):List Addr:=l.filterMap (·.frame)
noncomputable abbrev Cx.fs (X:Cx):List Addr:=frs X.outer
noncomputable def Vis (sc:Scope) (x:Str):Prop:=sc.names.lookup x=some .local∨sc.names.lookup x=some .cell∨sc.names.lookup x=some .free
noncomputable def Loc (sc:Scope) (x:Str):Prop:=sc.names.lookup x=some .local∨sc.names.lookup x=some .cell
noncomputable def Look (env:Env) (h:Heap) (m:Str→Option Value) (x:Str) (u:Value):Prop :=
  (env.kindOf x=some .local∧m x=some u)∨((env.kindOf x=some .cell∨env.kindOf x=some .free)∧∃ c,env.cells.lookup x=some c∧h.IsCell c (some u))
set_option genInjectivity false in
structure Cx.Ok (X:Cx):Prop where
  mod:Mod X.K X.mg X.base
  kind:X.env.scope.kind=.function
  glob:X.env.globals=mainGlobals
  blt:X.env.builtins=builtinsNs
  above:X.s₀.heap.objs.size≤X.env.locals
  inj:∀ x y c,X.env.cells.lookup x=some c→X.env.cells.lookup y=some c→x=y
  has:∀ x,(X.env.kindOf x=some .cell∨X.env.kindOf x=some .free)→∃ c,X.env.cells.lookup x=some c
  cab:∀ x c,X.fn x=true→X.env.cells.lookup x=some c→X.s₀.heap.objs.size≤c
  hd:X.calm=true→X.A.handled=none
  frames:X.A.frames=some X.stack
  stk:X.stack=X.outer∨(X.stack=X.env :: X.outer∧X.env.frame=some X.env.locals)
  exf:∀ b∈X.ex,b≠X.env.locals∧∀ x c,X.env.cells.lookup x=some c→c≠b
  bs:∀ b o,X.base.get? b=some o→X.s₀.heap.get? b=some o∧X.H₀ b=none
  bsz:X.base.objs.size≤X.s₀.heap.objs.size
  noex:∀ b o,X.base.get? b=some o→b ∉ X.ex
  exfs:∀ b∈X.ex,b ∉ X.fs
  funs:X.s₀.heap.FunFrames X.base X.outer
  frf:∀ b∈X.fs,X.H₀ b=none
structure Inv (X:Cx) (pins:List (Addr × Obj)) (σ:List (Option V)) (H:Hp) (s:Shared):Prop where
  ok:X.Ok
  os:s.os=X.s₀.os
  bare:AllBare s.gens
  base:Un X.fs X.ex X.H₀ H X.s₀.heap s.heap
  loc:∃ m,s.heap.Ns X.env.locals m∧∀ (i:Nat) (x:Str) (v:V),X.N[i]?=some x→σ[i]?=some (some v)→Vis X.env.scope x→∃ u,RelV v u∧Look X.env s.heap m x u
  cell:∀ x c,X.env.cells.lookup x=some c→∃ v,s.heap.IsCell c v
  free:H X.env.locals=none
  freeC:∀ x c,X.env.cells.lookup x=some c→H c=none
  pin:∀ p∈X.pn++pins,s.heap.get? p.1=some p.2∧H p.1=none∧p.1≠X.env.locals∧p.1 ∉ X.fs∧∀ v,p.2.data≠.cell v
  hok:HOk X.prog X.w H s.heap
  len:σ.length=X.N.length
section
variable {X:Cx} {pins:List (Addr × Obj)} {σ:List (Option V)} {H H':Hp} {s:Shared} {h':Heap}
theorem Cx.Ok.nofr (ok:X.Ok) {b:Addr} {o:Obj} (e:X.base.get? b=some o):b ∉ X.fs:=fun hb=>by
  have:=(ok.funs.mem hb).1
  rw [e] at this; cases this
theorem Inv.bs (I:Inv X pins σ H s):∀ b o,X.base.get? b=some o→s.heap.get? b=some o∧H b=none:=fun b o e =>
  ⟨I.base.keep b o (I.ok.bs b o e).1 (I.ok.bs b o e).2 (I.ok.nofr e) (I.ok.noex b o e),I.base.free b o (I.ok.bs b o e).1 (I.ok.bs b o e).2 (I.ok.noex b o e)⟩
theorem Inv.bk (I:Inv X pins σ H s):∀ b o,X.base.get? b=some o→s.heap.get? b=some o:=fun b o e=>(I.bs b o e).1
theorem Inv.mod (I:Inv X pins σ H s):Mod X.K X.mg X.base:=I.ok.mod
theorem Inv.kIn (I:Inv X pins σ H s):X.K.In s.heap:=I.ok.mod.kin.keeps I.bk
theorem Inv.lt (I:Inv X pins σ H s):X.env.locals < s.heap.objs.size:=let ⟨_,hn,_⟩:=I.loc; hn.lt
theorem Inv.sz (I:Inv X pins σ H s):X.s₀.heap.objs.size≤s.heap.objs.size:=Nat.le_trans I.ok.above (Nat.le_of_lt I.lt)
theorem Inv.nofs (I:Inv X pins σ H s) {a:Addr} (h:s.heap.objs.size≤a):a ∉ X.fs:=fun hb=>by
  obtain ⟨_,o,ho,_⟩:=I.ok.funs.mem hb
  exact absurd (Nat.lt_of_lt_of_le (Heap.lt_size ho) (Nat.le_trans I.sz h)) (Nat.lt_irrefl _)
theorem Inv.cne (I:Inv X pins σ H s):∀ x c,X.env.cells.lookup x=some c→c≠X.env.locals:=fun x c e z=>by
  obtain ⟨v,o,ho,hd⟩:=I.cell x c e
  obtain ⟨m,⟨o',es,ep,ho',hd',_⟩,_⟩:=I.loc
  rw [z,ho'] at ho; cases ho; rw [hd'] at hd; cases hd
theorem Inv.funs (I:Inv X pins σ H s):s.heap.FunFrames X.base X.outer:=by
  have all:∀ (l:List Env),(∀ b∈frs l,b∈X.fs)→X.s₀.heap.FunFrames X.base l→s.heap.FunFrames X.base l:=by
    intro l
    induction l with
    | nil=>intro _ _; trivial
    | cons env r ih =>
      intro hs hl
      obtain ⟨hk,⟨L,o,hf,hn,ho,hd⟩,hr⟩:=hl
      have hL:L∈X.fs:=hs L (by unfold frs; rw [List.filterMap_cons,hf]; exact List.mem_cons_self)
      obtain ⟨sl,e⟩:=I.base.slot L o ho (I.ok.frf L hL) hL fun z=>I.ok.exfs L z hL
      exact ⟨hk,⟨L,_,hf,hn,e,hd⟩,ih (fun b hb=>hs b (by unfold frs; rw [List.filterMap_cons,hf]; exact List.mem_cons_of_mem _ hb)) hr⟩
  exact all X.outer (fun _ hb=>hb) I.ok.funs
theorem Inv.stack (I:Inv X pins σ H s):s.heap.FunFrames X.base X.stack:=by
  rcases I.ok.stk with e | ⟨e,hf⟩
  · rw [e]; exact I.funs
  · rw [e]
    obtain ⟨m,hn,_⟩:=I.loc
    refine .cons (by rw [I.ok.kind]; decide) hf hn ?_ I.funs
    exact Heap.get?_none_of_le (Nat.le_trans I.ok.bsz I.ok.above)
theorem Inv.stkSub (I:Inv X pins σ H s):∀ b∈frs X.stack,b∈X.env.locals :: X.fs:=fun b hb=>by
  rcases I.ok.stk with e | ⟨e,hf⟩
  · rw [e] at hb; exact List.mem_cons_of_mem _ hb
  · rw [e] at hb
    unfold frs at hb
    rw [List.filterMap_cons,hf] at hb
    exact hb
theorem Inv.stkFree (I:Inv X pins σ H s):∀ b∈frs X.stack,H b=none:=fun b hb=>by
  rcases List.mem_cons.mp (I.stkSub b hb) with e | hb
  · rw [e]; exact I.free
  · obtain ⟨_,o,ho,_⟩:=I.ok.funs.mem hb
    exact I.base.free b o ho (I.ok.frf b hb) fun z=>I.ok.exfs b z hb
theorem Inv.step {g':Array GenState} {t':Nat} {d':Drawn} {ch:List Addr} (I:Inv X pins σ H s)
    (hch:∀ b∈ch,(b∈X.ex∨X.s₀.heap.objs.size≤b)∧b≠X.env.locals∧(∀ x c,X.env.cells.lookup x=some c→c≠b)∧∀ p∈X.pn++pins,p.1≠b)
    (keep:∀ b o,b≠X.env.locals→b ∉ X.fs→b ∉ ch→s.heap.get? b=some o→H b=none→h'.get? b=some o)
    (slot:∀ b o,b≠X.env.locals→b∈X.fs→b ∉ ch→s.heap.get? b=some o→H b=none→∃ sl,h'.get? b=some { o with slots:=sl }) (free:∀ b o,b ∉ ch→s.heap.get? b=some o→H b=none→H' b=none)
    (there:∀ b o,b ∉ ch→s.heap.get? b=some o→∃ o',h'.get? b=some o')
    (tups:∀ b xs,H b=some (.tup xs)→H' b=some (.tup xs)) (frzs:∀ b o u,H b=some (.frz o u)→H' b=some (.frz o u)) (tbls:∀ b ps,H b=some (.tbl ps)→∃ more,H' b=some (.tbl (ps++more)))
    (ns:∀ m,s.heap.Ns X.env.locals m→h'.Ns X.env.locals m) (hok:HOk X.prog X.w H' h') (hg:AllBare g') :
    Inv X pins σ H' { s with heap:=h',gens:=g',drawn:=d',toks:=t' }:=by
  have neL:∀ b o,X.s₀.heap.get? b=some o→b≠X.env.locals:=fun b o e=>Nat.ne_of_lt (Nat.lt_of_lt_of_le (Heap.lt_size e) I.ok.above)
  have neC:∀ b o,X.s₀.heap.get? b=some o→b ∉ X.ex→b ∉ ch:=fun b o e hx hb=>by
    rcases (hch b hb).1 with z | z
    · exact hx z
    · exact absurd (Nat.lt_of_lt_of_le (Heap.lt_size e) z) (Nat.lt_irrefl _)
  have cellK:∀ x c,X.env.cells.lookup x=some c→∀ v,s.heap.IsCell c v→h'.IsCell c v:=fun x c e v ⟨o,ho,hd⟩=>by
    have nch:c ∉ ch:=fun z=>(hch c z).2.2.1 x c e rfl
    by_cases hc:c∈X.fs
    · obtain ⟨sl,q⟩:=slot c o (I.cne x c e) hc nch ho (I.freeC x c e)
      exact ⟨_,q,hd⟩
    · exact ⟨o,keep c o (I.cne x c e) hc nch ho (I.freeC x c e),hd⟩
  refine ⟨I.ok,I.os,hg,⟨fun b o e n hb hx=>?_,fun b o e n hb hx=>?_,fun b o e n hx=>?_,fun b o e hx=>?_,fun b xs e=>tups b xs (I.base.tups b xs e),fun b o xs e=>frzs b o xs (I.base.frzs b o xs e),fun b ps e=>?_⟩,?_,fun x c e=>?_,?_,fun x c e=>?_,fun p hp=>?_,hok,I.len⟩
  · exact keep b o (neL b o e) hb (neC b o e hx) (I.base.keep b o e n hb hx) (I.base.free b o e n hx)
  · obtain ⟨sl,e1⟩:=I.base.slot b o e n hb hx
    obtain ⟨sl',e2⟩:=slot b _ (neL b o e) hb (neC b o e hx) e1 (I.base.free b o e n hx)
    exact ⟨sl',e2⟩
  · obtain ⟨o',e1⟩:=I.base.there b o e hx
    exact free b o' (neC b o e hx) e1 (I.base.free b o e n hx)
  · obtain ⟨o',e1⟩:=I.base.there b o e hx
    exact there b o' (neC b o e hx) e1
  · obtain ⟨m1,e1⟩:=I.base.tbls b ps e
    obtain ⟨m2,e2⟩:=tbls b _ e1
    exact ⟨m1++m2,by rw [e2,Array.append_assoc]⟩
  · obtain ⟨m,hn,hl⟩:=I.loc
    refine ⟨m,ns m hn,fun i x v e1 e2 e3=>?_⟩
    obtain ⟨u,r,l⟩:=hl i x v e1 e2 e3
    refine ⟨u,r,?_⟩
    rcases l with l | ⟨k,c,e,z⟩
    · exact .inl l
    · exact .inr ⟨k,c,e,cellK x c e _ z⟩
  · obtain ⟨v,z⟩:=I.cell x c e
    exact ⟨v,cellK x c e v z⟩
  · obtain ⟨m,⟨o,_,_,ho,_⟩,_⟩:=I.loc
    exact free _ o (fun z=>(hch _ z).2.1 rfl) ho I.free
  · obtain ⟨v,o,ho,hd⟩:=I.cell x c e
    exact free c o (fun z=>(hch c z).2.2.1 x c e rfl) ho (I.freeC x c e)
  · obtain ⟨e,n,ne,nf,d⟩:=I.pin p hp
    have nch:p.1 ∉ ch:=fun z=>(hch p.1 z).2.2.2 p hp rfl
    exact ⟨keep p.1 p.2 ne nf nch e n,free p.1 p.2 nch e n,ne,nf,d⟩
theorem Inv.un {t':Nat} (I:Inv X pins σ H s) (u:Un X.fs [] H H' s.heap h') (hok:HOk X.prog X.w H' h'):Inv X pins σ H' { s with heap:=h',toks:=t' }:=by
  obtain ⟨m,⟨o,es,ep,ho,r⟩,_⟩:=id I.loc
  obtain ⟨sl,hL⟩:=u.any ho I.free (by simp)
  exact I.step (g':=s.gens) (d':=s.drawn) (ch:=[]) (fun _ z=>nomatch z) (fun b o _ hb _ e n=>u.keep b o e n hb (by simp)) (fun b o _ hb _ e n=>u.slot b o e n hb (by simp)) (fun b o _ e n=>u.free b o e n (by simp)) (fun b o _ e=>u.there b o e (by simp)) u.tups u.frzs u.tbls (fun m' hm=>by
    obtain ⟨o',es',ep',ho',r'⟩:=hm
    rw [ho] at ho'; cases ho'
    exact ⟨_,es',ep',hL,r'⟩) hok I.bare
theorem Inv.call {g':Array GenState} {t':Nat} {d':Drawn} {ch:List Addr} (I:Inv X pins σ H s) (u:Un (frs X.stack) ch H H' s.heap h') (hok:HOk X.prog X.w H' h') (hg:AllBare g')
    (hch:∀ b∈ch,(b∈X.ex∨X.s₀.heap.objs.size≤b)∧b≠X.env.locals∧(∀ x c,X.env.cells.lookup x=some c→c≠b)∧∀ p∈X.pn++pins,p.1≠b) :
    Inv X pins σ H' { s with heap:=h',gens:=g',drawn:=d',toks:=t' }:=by
  obtain ⟨m,⟨o,es,ep,ho,r⟩,_⟩:=id I.loc
  obtain ⟨sl,hL⟩:=u.any ho I.free fun z=>(hch _ z).2.1 rfl
  exact I.step (ch:=ch) hch (fun b o hL hb hc e n=>u.keep b o e n (fun z=>(List.mem_cons.mp (I.stkSub b z)).elim hL hb) hc) (fun b o _ _ hc e n=>u.any e n hc) (fun b o hc e n=>u.free b o e n hc) (fun b o hc e=>u.there b o e hc) u.tups u.frzs u.tbls (fun m' hm=>by
    obtain ⟨o',es',ep',ho',r'⟩:=hm
    rw [ho] at ho'; cases ho'
    exact ⟨_,es',ep',hL,r'⟩) hok hg
theorem Inv.turned {t':Nat} {it:Addr} (I:Inv X pins σ H s) (k:∀ b o,b≠it→s.heap.get? b=some o→h'.get? b=some o) (hn:H it=none) (hL:it≠X.env.locals)
    (h1:it∈X.ex∨X.s₀.heap.objs.size≤it) (h2:∀ x c,X.env.cells.lookup x=some c→c≠it) (h3:∀ p∈X.pn++pins,p.1≠it):Inv X pins σ H { s with heap:=h',toks:=t' }:=by
  have nit:∀ b u,H b=some u→b≠it:=fun b u e z=>by rw [z,hn] at e; cases e
  refine I.step (g':=s.gens) (d':=s.drawn) (ch:=[it]) (fun b hb=>?_) (fun b o _ _ hc e _=>k b o (fun z=>hc (by simp [z])) e) (fun b o _ _ hc e _=>⟨o.slots,k b o (fun z=>hc (by simp [z])) e⟩) (fun _ _ _ _ n=>n)
    (fun b o hc e=>⟨o,k b o (fun z=>hc (by simp [z])) e⟩) (fun _ _ e=>e) (fun _ _ _ e=>e) (fun b ps e=>⟨#[],by rw [e]; simp⟩) (fun m hm=>?_) (fun b u e=>?_) I.bare
  · have e:b=it:=by simpa using hb
    subst e
    exact ⟨h1,hL,h2,h3⟩
  · obtain ⟨o,es,ep,ho,r⟩:=hm
    exact ⟨o,es,ep,k _ o (Ne.symm hL) ho,r⟩
  · refine (I.hok b u e).stay (fun c v hc q=>k c v ?_ q) (fun _ q=>q) fun _ _ q=>q
    rcases hc with z | z
    · rw [z]; exact nit b u e
    · exact nit c _ z
theorem Inv.tok (I:Inv X pins σ H s) (t:Nat):Inv X pins σ H { s with toks:=t }:=I.un (h':=s.heap) (t':=t) Un.refl I.hok
theorem Inv.kept {t':Nat} (I:Inv X pins σ H s) (k:∀ b u,s.heap.get? b=some u→h'.get? b=some u):Inv X pins σ H { s with heap:=h',toks:=t' }:=I.un (Un.kept k) (I.hok.kept k)
theorem Inv.laid {a:Addr} {o:HO} {t':Nat} (I:Inv X pins σ H s) (k:∀ b u,s.heap.get? b=some u→h'.get? b=some u) (hp:s.heap.objs.size≤a) (new:ObjOk X.prog X.w (upd H a o) h' a o) :
    Inv X pins σ (upd H a o) { s with heap:=h',toks:=t' }:=I.un (Un.laid k hp (I.hok.fresh hp)) (I.hok.laid k hp new)
theorem Inv.write {x e:Addr} {o:HO} {t':Nat} (I:Inv X pins σ H s) (mu:Mut (H x)) (he:e=x∨H e=some (.own x)) (k:∀ b u,b≠e→s.heap.get? b=some u→h'.get? b=some u) (heo:∃ u,h'.get? e=some u)
    (new:ObjOk X.prog X.w (upd H x o) h' x o):Inv X pins σ (upd H x o) { s with heap:=h',toks:=t' }:=I.un (Un.write mu he k heo) (I.hok.write mu he k heo new)
theorem Inv.pins_of {pins':List (Addr × Obj)} (I:Inv X pins σ H s) (h:∀ p∈pins',s.heap.get? p.1=some p.2∧H p.1=none∧p.1≠X.env.locals∧p.1 ∉ X.fs∧∀ v,p.2.data≠.cell v):Inv X pins' σ H s :=
  ⟨I.ok,I.os,I.bare,I.base,I.loc,I.cell,I.free,I.freeC,fun p hp=>(List.mem_append.mp hp).elim (fun z=>I.pin p (List.mem_append_left _ z)) (h p),I.hok,I.len⟩
theorem nodup_ix {N:List Str} (hN:N.Nodup) {i j:Nat} {x:Str} (a:N[i]?=some x) (b:N[j]?=some x):i=j:=by
  obtain ⟨h1,e1⟩:=List.getElem?_eq_some_iff.mp a
  obtain ⟨h2,e2⟩:=List.getElem?_eq_some_iff.mp b
  exact (List.getElem_inj hN).mp (e1.trans e2.symm)
theorem store_ok2 {M:Model} {A:Around} {E:Value→Shared→Prop} {i:Nat} {x:Str} {v:V} {u:Value} {Q:Unit→Shared→Prop} (I:Inv X pins σ H s) (hN:X.N.Nodup) (hi:X.N[i]?=some x) (hx:Loc X.env.scope x) (r:RelV v u)
    (h:∀ s',Inv X pins (σ.set i (some v)) H s'→(∃ a,Heap.SameBut a s.heap s'.heap∧(a=X.env.locals∨X.env.cells.lookup x=some a))→Q () s') (hf:X.fn x=true∨X.env.scope.names.lookup x=some .local):wpAny M A (storeName X.env x u) Q E s:=by
  obtain ⟨m,hn,hl⟩:=id I.loc
  have hcls:(X.env.scope.kind == .class || (X.env.scope.kind == .module && X.env.locals != X.env.globals))=false:=by rw [I.ok.kind]; rfl
  have hiσ:i < σ.length:=by rw [I.len]; exact (List.getElem?_eq_some_iff.mp hi).1
  have cne:=I.cne
  have tracked:∀ {a:Addr} {h':Heap},(∃ o,s.heap.get? a=some o∧H a=none)→Heap.SameBut a s.heap h'→HOk X.prog X.w H h':=fun {a h'} ha hs b ob e=>by
    obtain ⟨_,_,hfree⟩:=ha
    refine (I.hok b ob e).stay (fun c w' hc q=>(hs.2 c ?_).trans q) (fun _ q=>q) fun _ _ q=>q
    rintro rfl
    rcases hc with rfl | hc
    · rw [hfree] at e; cases e
    · rw [hfree] at hc; cases hc
  rcases hx with hk | hk
  · refine wpAny_storeName_local hk hn (fun h' hn' hs=>?_) hcls
    obtain ⟨oL,_,_,hoL,_⟩:=id hn
    refine h _ ⟨I.ok,I.os,I.bare,⟨fun b o e n hb hx=>?_,fun b o e n hb hx=>?_,I.base.free,fun b o e hx=>?_,I.base.tups,I.base.frzs,I.base.tbls⟩,⟨_,hn',fun j y v' e1 e2 e3=>?_⟩,fun y c e=>?_,I.free,I.freeC,fun p hp=>?_,tracked ⟨oL,hoL,I.free⟩ hs,by simpa using I.len⟩ ⟨_,hs,.inl rfl⟩
    · exact (hs.2 b (Nat.ne_of_lt (Nat.lt_of_lt_of_le (Heap.lt_size e) I.ok.above))).trans (I.base.keep b o e n hb hx)
    · obtain ⟨sl,e1⟩:=I.base.slot b o e n hb hx
      exact ⟨sl,(hs.2 b (Nat.ne_of_lt (Nat.lt_of_lt_of_le (Heap.lt_size e) I.ok.above))).trans e1⟩
    · obtain ⟨o',e1⟩:=I.base.there b o e hx
      exact ⟨o',(hs.2 b (Nat.ne_of_lt (Nat.lt_of_lt_of_le (Heap.lt_size e) I.ok.above))).trans e1⟩
    · by_cases hj:j=i
      · subst hj
        rw [hi] at e1; cases e1
        rw [List.getElem?_set_self hiσ] at e2
        cases e2
        exact ⟨u,r,.inl ⟨hk,by simp⟩⟩
      · rw [List.getElem?_set_ne (Ne.symm hj)] at e2
        obtain ⟨u',r',q⟩:=hl j y v' e1 e2 e3
        refine ⟨u',r',?_⟩
        rcases q with ⟨k,e⟩ | ⟨k,c,e,z⟩
        · refine .inl ⟨k,?_⟩
          have:y≠x:=fun e=>hj (nodup_ix hN e1 (e ▸ hi))
          simp [this,e]
        · exact .inr ⟨k,c,e,z.sameBut hs (cne y c e)⟩
    · obtain ⟨w',z⟩:=I.cell y c e
      exact ⟨w',z.sameBut hs (cne y c e)⟩
    · obtain ⟨e,n,ne,nf,d⟩:=I.pin p hp
      exact ⟨(hs.2 p.1 ne).trans e,n,ne,nf,d⟩
  · have hfn:X.fn x=true:=by
      rcases hf with z | z
      · exact z
      · rw [z] at hk; cases hk
    obtain ⟨c,hc⟩:=I.ok.has x (.inl hk)
    obtain ⟨w',z⟩:=I.cell x c hc
    refine wpAny_storeName_cell I.ok.kind hk hc z (fun h' hc' hs=>?_)
    obtain ⟨oc,hoc,hocd⟩:=id z
    refine h { s with heap:=h' } ⟨I.ok,I.os,I.bare,⟨fun b o e n hb hx=>?_,fun b o e n hb hx=>?_,I.base.free,fun b o e hx=>?_,I.base.tups,I.base.frzs,I.base.tbls⟩,⟨m,hn.sameBut hs (Ne.symm (cne x c hc)),fun j y v' e1 e2 e3=>?_⟩,fun y c' e=>?_,I.free,I.freeC,fun p hp=>?_,tracked ⟨oc,hoc,I.freeC x c hc⟩ hs,by simpa using I.len⟩ ⟨c,hs,.inr hc⟩
    · exact (hs.2 b (Nat.ne_of_lt (Nat.lt_of_lt_of_le (Heap.lt_size e) (I.ok.cab x c hfn hc)))).trans (I.base.keep b o e n hb hx)
    · obtain ⟨sl,e1⟩:=I.base.slot b o e n hb hx
      exact ⟨sl,(hs.2 b (Nat.ne_of_lt (Nat.lt_of_lt_of_le (Heap.lt_size e) (I.ok.cab x c hfn hc)))).trans e1⟩
    · obtain ⟨o',e1⟩:=I.base.there b o e hx
      exact ⟨o',(hs.2 b (Nat.ne_of_lt (Nat.lt_of_lt_of_le (Heap.lt_size e) (I.ok.cab x c hfn hc)))).trans e1⟩
    · by_cases hj:j=i
      · subst hj
        rw [hi] at e1; cases e1
        rw [List.getElem?_set_self hiσ] at e2
        cases e2
        exact ⟨u,r,.inr ⟨.inl hk,c,hc,hc'⟩⟩
      · rw [List.getElem?_set_ne (Ne.symm hj)] at e2
        obtain ⟨u',r',q⟩:=hl j y v' e1 e2 e3
        refine ⟨u',r',?_⟩
        rcases q with q | ⟨k,c',e,z'⟩
        · exact .inl q
        · refine .inr ⟨k,c',e,z'.sameBut hs ?_⟩
          rintro rfl
          exact hj (nodup_ix hN e1 (I.ok.inj _ _ _ e hc ▸ hi))
    · by_cases hcc:c'=c
      · subst hcc; exact ⟨_,hc'⟩
      · obtain ⟨w2,z2⟩:=I.cell y c' e
        exact ⟨w2,z2.sameBut hs hcc⟩
    · obtain ⟨e,n,ne,nf,d⟩:=I.pin p hp
      refine ⟨(hs.2 p.1 ?_).trans e,n,ne,nf,d⟩
      intro q
      rw [q,hoc] at e
      have q':oc=p.2:=Option.some.inj e
      exact d w' (by rw [← q']; exact hocd)
theorem store_ok {M:Model} {A:Around} {E:Value→Shared→Prop} {i:Nat} {x:Str} {v:V} {u:Value} {Q:Unit→Shared→Prop} (I:Inv X pins σ H s) (hN:X.N.Nodup) (hi:X.N[i]?=some x) (hx:Loc X.env.scope x) (r:RelV v u)
    (h:∀ s',Inv X pins (σ.set i (some v)) H s'→Q () s') (hf:X.fn x=true∨X.env.scope.names.lookup x=some .local):wpAny M A (storeName X.env x u) Q E s :=
  store_ok2 I hN hi hx r (fun s' I' _=>h s' I') hf
theorem Inv.call' {s':Shared} {ch:List Addr} (I:Inv X pins σ H s) (ho:s'.os=s.os) (u:Un (frs X.stack) ch H H' s.heap s'.heap) (hok:HOk X.prog X.w H' s'.heap) (hg:AllBare s'.gens)
    (hch:∀ b∈ch,(b∈X.ex∨X.s₀.heap.objs.size≤b)∧b≠X.env.locals∧(∀ x c,X.env.cells.lookup x=some c→c≠b)∧∀ p∈X.pn++pins,p.1≠b):Inv X pins σ H' s':=by
  obtain ⟨h',g',d',t',o'⟩:=s'
  have e:o'=s.os:=ho
  subst e
  exact I.call (g':=g') (t':=t') (d':=d') u hok hg hch
end
noncomputable abbrev XK:=Value→Option Addr→Hp→Prop
noncomputable abbrev St:=List (Option V)
noncomputable abbrev VK:=V→Hp→Prop
noncomputable abbrev TE:=St→Hp→VK→Prop
noncomputable abbrev TT:=St→Hp→(Bool→Hp→Prop)→Prop
noncomputable abbrev TA:=St→Hp→(List V→Hp→Prop)→Prop
set_option genInjectivity false in
structure Ends where
  nx:St→Hp→Prop
  rt:VK
  bk:St→Hp→Prop:=fun _ _=>False
  ct:St→Hp→Prop:=fun _ _=>False
noncomputable abbrev TS:=Ends→St→Hp→Prop
noncomputable def EP (X:Cx) (pins:List (Addr × Obj)) (σ:St) (Q:VK) (u:Value) (s':Shared):Prop:=∃ v H',Inv X pins σ H' s'∧RelV v u∧Q v H'
noncomputable def TP (X:Cx) (pins:List (Addr × Obj)) (σ:St) (Q:Bool→Hp→Prop) (b:Bool) (s':Shared):Prop:=∃ H',Inv X pins σ H' s'∧Q b H'
noncomputable def AP (X:Cx) (pins:List (Addr × Obj)) (σ:St) (Q:List V→Hp→Prop) (us:List Value) (s':Shared):Prop:=∃ vs H',Inv X pins σ H' s'∧Vals vs us∧Q vs H'
noncomputable def SP (X:Cx) (pins:List (Addr × Obj)) (D:Ends) (f:Flow) (s':Shared):Prop :=
  match f with
  | .next=>∃ σ' H',Inv X pins σ' H' s'∧D.nx σ' H'
  | .brk=>∃ σ' H',Inv X pins σ' H' s'∧D.bk σ' H'
  | .cont=>∃ σ' H',Inv X pins σ' H' s'∧D.ct σ' H'
  | .ret u=>∃ v σ' H',Inv X pins σ' H' s'∧RelV v u∧D.rt v H'
noncomputable def PE (X:Cx) (e:Expr) (t:TE):Prop :=
  ∀ (pins:List (Addr × Obj)) (s:Shared) (σ:St) (H:Hp) (Q:VK),Inv X pins σ H s→t σ H Q→wpAny (model X.prog X.w) X.A (eval e X.env) (EP X pins σ Q) X.xe s
noncomputable def PT (X:Cx) (e:Expr) (t:TT):Prop :=
  ∀ (pins:List (Addr × Obj)) (s:Shared) (σ:St) (H:Hp) (Q:Bool→Hp→Prop),Inv X pins σ H s→t σ H Q→wpAny (model X.prog X.w) X.A (isTrue e X.env (eval e X.env)) (TP X pins σ Q) X.xe s
noncomputable def PW (X:Cx) (e:Expr) (t:TT):Prop :=
  ∀ (whole:Sem Value) (pins:List (Addr × Obj)) (s:Shared) (σ:St) (H:Hp) (Q:Bool→Hp→Prop),Inv X pins σ H s→t σ H Q→wpAny (model X.prog X.w) X.A (isTrue e X.env whole) (TP X pins σ Q) X.xe s
theorem PW.pt {X:Cx} {e:Expr} {t:TT} (h:PW X e t):PT X e t:=h _
noncomputable def PA (X:Cx) (es:List Expr) (t:TA):Prop :=
  ∀ (pos:Pos) (pins:List (Addr × Obj)) (s:Shared) (σ:St) (H:Hp) (Q:List V→Hp→Prop),Inv X pins σ H s→t σ H Q→wpAny (model X.prog X.w) X.A (spliced (backTo pos (starEach es X.env))) (AP X pins σ Q) X.xe s
noncomputable def PS (X:Cx) (st:Stmt) (t:TS):Prop :=
  ∀ (pins:List (Addr × Obj)) (s:Shared) (σ:St) (H:Hp) (D:Ends),Inv X pins σ H s→t D σ H→wpAny (model X.prog X.w) X.A (exec st X.env) (SP X pins D) X.xe s
noncomputable def PSs (X:Cx) (st:List Stmt) (t:TS):Prop :=
  ∀ (pins:List (Addr × Obj)) (s:Shared) (σ:St) (H:Hp) (D:Ends),Inv X pins σ H s→t D σ H→wpAny (model X.prog X.w) X.A (execs st X.env) (SP X pins D) X.xe s
theorem thn {α:Type} {t:Sem α} {Q Q':α→Shared→Prop} {M:Model} {A:Around} {E:Value→Shared→Prop} {s:Shared} (h:wpAny M A t Q E s) (hQ:∀ a s,Q a s→Q' a s):wpAny M A t Q' E s:=wpAny_mono h hQ fun _ _ x=>x
end L2
namespace L2
open PySem PySem.Spec PyProof.Rows
section
variable {X:Cx}
noncomputable def tVar (i:Nat):TE:=fun σ H Q=>∃ v,σ[i]?=some (some v)∧Q v H
noncomputable def tC (v:V):TE:=fun _ H Q=>Q v H
theorem pe_var {i:Nat} {x:Str} {pos:Pos} (hN:X.N[i]?=some x) (hv:Vis X.env.scope x) (hd:(x == ("__debug__" : Str))=false) (hcd:(x == ("__classdict__" : Str))=false):PE X (.Name x pos) (tVar i):=by
  intro pins s σ H Q I h
  obtain ⟨v,e,h⟩:=h
  obtain ⟨m,hn,hl⟩:=I.loc
  obtain ⟨u,r,l⟩:=hl i x v hN e hv
  have fin:EP X pins σ Q u s:=⟨v,H,I,r,h⟩
  rcases l with ⟨hk,hm⟩ | ⟨hk,c,hc,hcell⟩
  · exact wpAny_Name (wpAny_loadName_local I.ok.kind hk hn hm fin) hd
  · rcases hk with hk | hk
    · exact wpAny_Name (wpAny_loadName_cell I.ok.kind hk hc hcell fin) hd
    · exact wpAny_Name (wpAny_loadName_free I.ok.kind hk hc hcell fin hcd) hd
theorem pe_int {i j pos}:PE X (.Constant (.int i) j pos) (tC (.int i)):=fun _ _ _ H _ I h=>wpAny_Constant_int ⟨.int i,H,I.tok _,⟨_,rfl⟩,h⟩
theorem pe_bl {b j pos}:PE X (.Constant (.bool b) j pos) (tC (.bl b)):=fun _ _ _ H _ I h=>Constant_bool ⟨.bl b,H,I,rfl,h⟩
theorem pe_non {j pos}:PE X (.Constant .none j pos) (tC .non):=fun _ _ _ H _ I h=>Constant_none ⟨.non,H,I,rfl,h⟩
theorem pe_str {x j pos}:PE X (.Constant (.str x) j pos) (tC (.str x)):=fun _ _ _ H _ I h=>Calls.Constant_str ⟨.str x,H,I.tok _,⟨_,rfl⟩,h⟩
noncomputable def Gl (X:Cx) (x:Str):Prop:=X.env.kindOf x=some .globalImplicit
theorem ld_glob {E:Value→Shared→Prop} {pins:List (Addr × Obj)} {s:Shared} {σ:St} {H:Hp} {x:Str} {u:Value} {pos:Pos} {Q:Value→Shared→Prop} (I:Inv X pins σ H s) (hg:Gl X x) (hm:X.mg x=some u) (h:Q u s)
    (hd:(x == ("__debug__" : Str))=false:=by decide):wpAny (model X.prog X.w) X.A (eval (.Name x pos) X.env) Q E s :=
  Calls.Name_function_global I.ok.kind hg (Calls.loadGlobal_global (by rw [I.ok.glob]; exact I.mod.glob.keeps I.bk) hm h) hd
theorem ld_blt {E:Value→Shared→Prop} {pins:List (Addr × Obj)} {s:Shared} {σ:St} {H:Hp} {x:Str} {u:Value} {pos:Pos} {Q:Value→Shared→Prop} (I:Inv X pins σ H s) (hg:Gl X x) (hm:X.mg x=none) (hv:bootBuiltins x=some u) (h:Q u s)
    (hn:x ≠ "__name__":=by decide) (hd:(x == ("__debug__" : Str))=false:=by decide):wpAny (model X.prog X.w) X.A (eval (.Name x pos) X.env) Q E s:=by
  obtain ⟨mb,h1,h2⟩:=I.mod.blt
  exact Calls.Name_function_global I.ok.kind hg (Calls.loadGlobal_builtin (by rw [I.ok.glob]; exact I.mod.glob.keeps I.bk) hm (by rw [I.ok.blt]; exact h1.keeps I.bk) ((h2 x hn).trans hv) h) hd
theorem pe_glob {x:Str} {v:V} {u:Value} {pos:Pos} (hg:Gl X x) (hm:X.mg x=some u) (r:RelV v u) (hd:(x == ("__debug__" : Str))=false:=by decide):PE X (.Name x pos) (tC v) :=
  fun _ _ _ H _ I h=>ld_glob I hg hm ⟨v,H,I,r,h⟩ hd
theorem pe_bltn {x:Str} {v:V} {u:Value} {pos:Pos} (hg:Gl X x) (hm:X.mg x=none) (hv:bootBuiltins x=some u) (r:RelV v u) (hn:x ≠ "__name__":=by decide) (hd:(x == ("__debug__" : Str))=false:=by decide):PE X (.Name x pos) (tC v) :=
  fun _ _ _ H _ I h=>ld_blt I hg hm hv ⟨v,H,I,r,h⟩ hn hd
variable {a b:Expr} {ta tb:TE} {pos:Pos}
noncomputable def tB (t:TE):TT:=fun σ H Q=>t σ H fun x H1=>∃ c,x=.bl c∧Q c H1
theorem pt_val {e:Expr} {t:TE} (h:PE X e t) (he:(fun whole=>isTrue e X.env whole)=(fun whole=>(do let v ← whole; standAt e.pos; holding [v] (truthy v))):=by rfl):PT X e (tB t):=by
  intro pins s σ H Q I hw
  refine isTrue_plain (thn (h pins s σ H _ I hw) fun v s1 ⟨x,H1,I1,r1,q1⟩=>?_) (congrFun he _)
  obtain ⟨d,rfl,q⟩:=q1
  cases r1
  exact wpAny_truthy_bool ⟨H1,I1,q⟩
variable {tA tB':TT} {rest:List Expr}
noncomputable def tAnd (t u:TT):TT:=fun σ H Q=>t σ H fun c H1=>if c=true then u σ H1 Q else Q false H1
noncomputable def tOr (t u:TT):TT:=fun σ H Q=>t σ H fun c H1=>if c=true then Q true H1 else u σ H1 Q
noncomputable def tNot (t:TT):TT:=fun σ H Q=>t σ H fun c H1=>Q (!c) H1
theorem pw_and1 (ha:PT X a tA):PW X (.BoolOp .And [a] pos) tA:=by
  intro wh pins s σ H Q I h
  refine isTrue_and (thn (ha pins s σ H Q I h) fun c s1 e=>?_)
  cases c with
  | true=>exact isTrue_and_nil e
  | false=>exact e
theorem pw_or1 (ha:PT X a tA):PW X (.BoolOp .Or [a] pos) tA:=by
  intro wh pins s σ H Q I h
  refine isTrue_or (thn (ha pins s σ H Q I h) fun c s1 e=>?_)
  cases c with
  | false=>exact isTrue_or_nil e
  | true=>exact e
theorem pw_and (ha:PT X a tA) (hb:PW X (.BoolOp .And (b :: rest) pos) tB'):PW X (.BoolOp .And (a :: b :: rest) pos) (tAnd tA tB'):=by
  intro wh pins s σ H Q I h
  refine isTrue_and (thn (ha pins s σ H _ I h) fun c s1 ⟨H1,I1,q1⟩=>?_)
  cases c with
  | true=>exact hb wh pins s1 σ H1 Q I1 q1
  | false=>exact ⟨H1,I1,q1⟩
theorem pw_or (ha:PT X a tA) (hb:PW X (.BoolOp .Or (b :: rest) pos) tB'):PW X (.BoolOp .Or (a :: b :: rest) pos) (tOr tA tB'):=by
  intro wh pins s σ H Q I h
  refine isTrue_or (thn (ha pins s σ H _ I h) fun c s1 ⟨H1,I1,q1⟩=>?_)
  cases c with
  | true=>exact ⟨H1,I1,q1⟩
  | false=>exact hb wh pins s1 σ H1 Q I1 q1
theorem pt_not (ha:PT X a tA):PT X (.UnaryOp .Not a pos) (tNot tA):=by
  intro pins s σ H Q I h
  exact isTrue_not (ha pins s σ H (fun c H1=>Q (!c) H1) I h)
noncomputable def tAndV (ta tb:TE):TE:=fun σ H Q=>ta σ H fun x H1=>∃ c,x=.bl c∧if c=true then tb σ H1 Q else Q (.bl false) H1
noncomputable def tNotV (ta:TE):TE:=fun σ H Q=>ta σ H fun x H1=>∃ c,x=.bl c∧Q (.bl (!c)) H1
theorem pe_one {op} {t:TE} (h:PE X a t):PE X (.BoolOp op [a] pos) t:=fun pins s σ H Q I hw=>BoolOp_one (h pins s σ H Q I hw)
theorem pe_and (ha:PE X a ta) (hb:PE X (.BoolOp .And (b :: rest) pos) tb):PE X (.BoolOp .And (a :: b :: rest) pos) (tAndV ta tb):=by
  intro pins s σ H Q I h
  refine BoolOp_and (thn (ha pins s σ H _ I h) fun v s1 ⟨x,H1,I1,r1,q1⟩=>?_)
  obtain ⟨c,rfl,q1⟩:=q1
  cases r1
  refine wpAny_truthy_bool ?_
  cases c with
  | true=>exact hb pins s1 σ H1 Q I1 q1
  | false=>exact ⟨.bl false,H1,I1,rfl,q1⟩
theorem pe_not (ha:PE X a ta):PE X (.UnaryOp .Not a pos) (tNotV ta):=by
  intro pins s σ H Q I h
  refine UnaryOp_ (thn (ha pins s σ H _ I h) fun v s1 ⟨x,H1,I1,r1,q1⟩=>?_)
  obtain ⟨c,rfl,q1⟩:=q1
  cases r1
  exact not_of (wpAny_truthy_bool ⟨.bl (!c),H1,I1,rfl,q1⟩)
noncomputable def tIf (t:TT) (ta tb:TE):TE:=fun σ H Q=>t σ H fun c H1=>if c=true then ta σ H1 Q else tb σ H1 Q
theorem pe_ifExp {c:Expr} (hc:PT X c tA) (ha:PE X a ta) (hb:PE X b tb):PE X (.IfExp c a b pos) (tIf tA ta tb):=by
  intro pins s σ H Q I h
  refine wpAny_IfExp (thn (hc pins s σ H _ I h) fun d s1 ⟨H1,I1,q1⟩=>?_)
  cases d with
  | true=>exact ha pins s1 σ H1 Q I1 q1
  | false=>exact hb pins s1 σ H1 Q I1 q1
end
end L2
namespace L2
open PySem PySem.Spec PyProof.Rows
noncomputable def SqL (K:PySem.W.Frag) (H:Hp) (a:Addr) (xs:List V):Prop :=
  Rd H a (.lst xs) ∨
    ∃ (o:Obj) (its:Array Value) (n:Nat),K.lookup a=some o∧o.cls=.type "list"∧o.dict=none∧o.data=.seq its n∧its.size≤sizeLine∧Vals xs its.toList
noncomputable def SqT (K:PySem.W.Frag) (H:Hp) (a:Addr) (xs:List V):Prop :=
  Rd H a (.tup xs) ∨
    ∃ (o:Obj) (its:Array Value) (n:Nat),K.lookup a=some o∧o.cls=.type "tuple"∧o.data=.seq its n∧its.size≤sizeLine∧Vals xs its.toList
noncomputable def absV:Value→Option V
  | .none=>some .non
  | .bool b=>some (.bl b)
  | .int i _=>some (.int i)
  | .str x _=>some (.str x)
  | .bytes b _=>some (.byt b)
  | .float b _=>some (.flt b)
  | .ref a=>some (.ref a)
  | .type n=>some (.ty n)
  | _=>none
theorem RelV.abs {x:V} {u:Value} (r:RelV x u):absV u=some x:=by
  cases x with
  | non=>cases r; rfl
  | bl _=>cases r; rfl
  | int _=>obtain ⟨t,rfl⟩:=r; rfl
  | str _=>obtain ⟨t,rfl⟩:=r; rfl
  | byt _=>obtain ⟨t,rfl⟩:=r; rfl
  | flt _=>obtain ⟨t,rfl⟩:=r; rfl
  | ref _=>cases r; rfl
  | ty _=>cases r; rfl
theorem RelV.inj {x y:V} {u:Value} (r:RelV x u) (q:RelV y u):x=y:=Option.some.inj (r.abs.symm.trans q.abs)
theorem Vals.inj:∀ {xs ys:List V} {us:List Value},Vals xs us→Vals ys us→xs=ys
  | _,_,_,.nil,.nil=>rfl
  | _,_,_,.cons r t,.cons r' t'=>by rw [r.inj r',Vals.inj t t']
section
variable {X:Cx} {pins:List (Addr × Obj)} {σ:St} {H:Hp} {s:Shared} {a:Addr} {xs ys:List V}
theorem SqL.of {K:PySem.W.Frag} (h:H a=some (.lst xs)):SqL K H a xs:=.inl (.inl h)
theorem SqT.of {K:PySem.W.Frag} (h:H a=some (.tup xs)):SqT K H a xs:=.inl (.inl h)
theorem Inv.list (I:Inv X pins σ H s) (h:SqL X.K H a xs):∃ its:List Value,Vals xs its∧PlainL s.heap a its.toArray∧xs.length≤sizeLine:=by
  rcases h with h | ⟨o,its,n,hk,hc,hd,hs,hz,r⟩
  · obtain ⟨z,its,n,r,e⟩:=h.ok I.hok
    exact ⟨its,r,⟨_,n,e,rfl,rfl,rfl⟩,z⟩
  · refine ⟨its.toList,r,⟨o,n,I.kIn a o hk,hc,hd,by simpa using hs⟩,?_⟩
    have e:=r.length
    simp only [Array.length_toList] at e
    omega
theorem Inv.tuple (I:Inv X pins σ H s) (h:SqT X.K H a xs):∃ its:List Value,Vals xs its∧IsTup s.heap a its.toArray∧xs.length≤sizeLine:=by
  rcases h with h | ⟨o,its,n,hk,hc,hs,hz,r⟩
  · obtain ⟨z,its,r,p⟩:=h.ok I.hok
    exact ⟨its,r,p,z⟩
  · refine ⟨its.toList,r,⟨o,I.kIn a o hk,hc,n,by simpa using hs⟩,?_⟩
    have e:=r.length
    simp only [Array.length_toList] at e
    omega
theorem Inv.list_inj (I:Inv X pins σ H s) (h:SqL X.K H a xs) (h':SqL X.K H a ys):xs=ys:=by
  obtain ⟨its,r,⟨o,n,e,_,_,d⟩,_⟩:=I.list h
  obtain ⟨its',r',⟨o',n',e',_,_,d'⟩,_⟩:=I.list h'
  rw [e] at e'; cases e'
  rw [d] at d'
  injection d' with d1 _
  have:its=its':=by simpa using congrArg Array.toList d1
  subst this
  exact r.inj r'
theorem Inv.tuple_inj (I:Inv X pins σ H s) (h:SqT X.K H a xs) (h':SqT X.K H a ys):xs=ys:=by
  obtain ⟨its,r,⟨o,e,_,n,d⟩,_⟩:=I.tuple h
  obtain ⟨its',r',⟨o',e',_,n',d'⟩,_⟩:=I.tuple h'
  rw [e] at e'; cases e'
  rw [d] at d'
  injection d' with d1 _
  have:its=its':=by simpa using congrArg Array.toList d1
  subst this
  exact r.inj r'
end
noncomputable abbrev Cx.wish (X:Cx) (E:Value→Shared→Prop):Cx:={ X with xe:=E }
noncomputable abbrev Cx.nox (X:Cx):Cx:=X.wish fun _ _=>False
theorem Cx.Ok.wish {X:Cx} (ok:X.Ok) (E:Value→Shared→Prop):(X.wish E).Ok :=
  ⟨ok.mod,ok.kind,ok.glob,ok.blt,ok.above,ok.inj,ok.has,ok.cab,ok.hd,ok.frames,ok.stk,ok.exf,ok.bs,ok.bsz,ok.noex,ok.exfs,ok.funs,ok.frf⟩
theorem Cx.Ok.unwish {X:Cx} {E:Value→Shared→Prop} (ok:(X.wish E).Ok):X.Ok :=
  ⟨ok.mod,ok.kind,ok.glob,ok.blt,ok.above,ok.inj,ok.has,ok.cab,ok.hd,ok.frames,ok.stk,ok.exf,ok.bs,ok.bsz,ok.noex,ok.exfs,ok.funs,ok.frf⟩
section
variable {X:Cx} {pins:List (Addr × Obj)} {σ:St} {H:Hp} {s:Shared} {E:Value→Shared→Prop}
theorem Inv.wish (I:Inv X pins σ H s) (E:Value→Shared→Prop):Inv (X.wish E) pins σ H s:=⟨I.ok.wish E,I.os,I.bare,I.base,I.loc,I.cell,I.free,I.freeC,I.pin,I.hok,I.len⟩
theorem Inv.unwish (I:Inv (X.wish E) pins σ H s):Inv X pins σ H s:=⟨I.ok.unwish,I.os,I.bare,I.base,I.loc,I.cell,I.free,I.freeC,I.pin,I.hok,I.len⟩
theorem SP.unwish {D:Ends} {f:Flow} {s':Shared} (h:SP (X.wish E) pins D f s'):SP X pins D f s':=by
  cases f with
  | next=>obtain ⟨σ',H',I,q⟩:=h; exact ⟨σ',H',I.unwish,q⟩
  | brk=>obtain ⟨σ',H',I,q⟩:=h; exact ⟨σ',H',I.unwish,q⟩
  | cont=>obtain ⟨σ',H',I,q⟩:=h; exact ⟨σ',H',I.unwish,q⟩
  | ret u=>obtain ⟨v,σ',H',I,r,q⟩:=h; exact ⟨v,σ',H',I.unwish,r,q⟩
theorem PSs.nox {st:List Stmt} {t:TS} (h:PSs X.nox st t):PSs X st t:=fun pins s σ H D I hw =>
  wpAny_mono (h pins s σ H D (I.wish _) hw) (fun _ _ q=>q.unwish) fun _ _ z=>False.elim z
end
section
variable {X:Cx} {st:Stmt} {rest:List Stmt} {t u:TS} {e:Expr} {te:TE} {pos:Pos}
noncomputable def tNext:TS:=fun D σ H=>D.nx σ H
noncomputable def tSeq (t u:TS):TS:=fun D σ H=>t { D with nx:=u D } σ H
theorem pss_nil:PSs X [] tNext:=fun _ _ σ H _ I h=>wpAny_execs_nil ⟨σ,H,I,h⟩
theorem pss_cons (h1:PS X st t) (h2:PSs X rest u):PSs X (st :: rest) (tSeq t u):=by
  intro pins s σ H D I h
  refine wpAny_execs_cons (thn (h1 pins s σ H { D with nx:=u D } I h) fun f s1 q=>?_)
  cases f with
  | next =>
    obtain ⟨σ',H',I',q⟩:=q
    exact h2 pins s1 σ' H' D I' q
  | ret v=>exact q
  | brk=>exact q
  | cont=>exact q
theorem pss_one (h1:PS X st t):PSs X [st] t:=by
  intro pins s σ H D I h
  refine wpAny_execs_cons (thn (h1 pins s σ H D I h) fun f s1 q=>?_)
  cases f with
  | next=>exact wpAny_execs_nil q
  | ret v=>exact q
  | brk=>exact q
  | cont=>exact q
noncomputable def tCont:TS:=fun D σ H=>D.ct σ H
theorem ps_continue:PS X (.Continue pos) tCont:=fun _ _ σ H _ I h=>wpAny_Continue ⟨σ,H,I,h⟩
theorem Inv.quiet {pins:List (Addr × Obj)} {σ:St} {H:Hp} {s:Shared} (I:Inv X pins σ H s):interactive X.env=false:=by simp [interactive,I.ok.kind]
noncomputable def tDrop (te:TE):TS:=fun D σ H=>te σ H fun _ H1=>D.nx σ H1
theorem ps_expr (he:PE X e te) (hs:swapsWith e none pos.line X.env=pure false:=by rfl):PS X (.Expr e pos) (tDrop te):=by
  intro pins s σ H D I h
  exact wpAny_Expr_any (thn (he pins s σ H _ I h) fun v s1 ⟨x,H1,I1,r1,q1⟩=>⟨σ,H1,I1,q1⟩) I.quiet hs
noncomputable def tRet (te:TE):TS:=fun D σ H=>te σ H D.rt
theorem ps_ret (he:PE X e te):PS X (.Return (some e) pos) (tRet te):=by
  intro pins s σ H D I h
  exact wpAny_Return_some (thn (he pins s σ H _ I h) fun v s1 ⟨x,H1,I1,r1,q1⟩=>⟨x,σ,H1,I1,r1,q1⟩)
noncomputable def tIfS (c:TT) (t u:TS):TS:=fun D σ H=>c σ H fun b H1=>if b=true then t D σ H1 else u D σ H1
theorem ps_if {c:Expr} {a b:List Stmt} {tc:TT} (hc:PT X c tc) (ha:PSs X a t) (hb:PSs X b u):PS X (.If c a b pos) (tIfS tc t u):=by
  intro pins s σ H D I h
  refine wpAny_If (thn (hc pins s σ H _ I h) fun d s1 ⟨H1,I1,q1⟩=>?_)
  cases d with
  | true=>exact ha pins s1 σ H1 D I1 q1
  | false=>exact hb pins s1 σ H1 D I1 q1
end
noncomputable abbrev TG:=V→St→Hp→(St→Hp→Prop)→Prop
noncomputable abbrev TGs:=List V→St→Hp→(St→Hp→Prop)→Prop
noncomputable def PG (X:Cx) (target:Expr) (t:TG):Prop :=
  ∀ (pins:List (Addr × Obj)) (s:Shared) (σ:St) (H:Hp) (v:V) (u:Value) (Q:St→Hp→Prop),Inv X pins σ H s→RelV v u→t v σ H Q →
    wpAny (model X.prog X.w) X.A (assign target X.env u) (fun _ s'=>∃ σ' H',Inv X pins σ' H' s'∧Q σ' H') X.xe s
noncomputable def PGs (X:Cx) (ts:List Expr) (t:TGs):Prop :=
  ∀ (pins:List (Addr × Obj)) (s:Shared) (σ:St) (H:Hp) (vs:List V) (us:List Value) (Q:St→Hp→Prop),Inv X pins σ H s→Vals vs us→t vs σ H Q →
    wpAny (model X.prog X.w) X.A (assignInOrder ((assignEach ts X.env).map (·.2)) us) (fun _ s'=>∃ σ' H',Inv X pins σ' H' s'∧Q σ' H') X.xe s
noncomputable abbrev TSet:=V→V→V→Hp→(Hp→Prop)→Prop
noncomputable def PSet (X:Cx) (t:TSet):Prop :=
  ∀ (pins:List (Addr × Obj)) (s:Shared) (σ:St) (H:Hp) (o i v:V) (ov iv u:Value) (Q:Hp→Prop),Inv X pins σ H s→RelV o ov→RelV i iv→RelV v u→t o i v H Q →
    wpAny (model X.prog X.w) X.A (setItem ov iv u) (fun _ s'=>∃ H',Inv X pins σ H' s'∧Q H') X.xe s
noncomputable abbrev TIp:=V→V→Hp→VK→Prop
noncomputable def PIp (X:Cx) (op:Operator) (t:TIp):Prop :=
  ∀ (pins:List (Addr × Obj)) (s:Shared) (σ:St) (H:Hp) (x y:V) (v u:Value) (Q:VK),Inv X pins σ H s→RelV x v→RelV y u→t x y H Q →
    wpAny (model X.prog X.w) X.A (inplaceOp op v u) (EP X pins σ Q) X.xe s
section
variable {X:Cx} {pos:Pos}
noncomputable def gName (i:Nat):TG:=fun v σ H Q=>Q (σ.set i (some v)) H
theorem pg_name {i:Nat} {x:Str} (hN:X.N.Nodup) (hi:X.N[i]?=some x) (hx:Loc X.env.scope x) (hf:X.fn x=true∨X.env.scope.names.lookup x=some .local:=by first | exact .inl rfl | exact .inr rfl | assumption):PG X (.Name x pos) (gName i):=by
  intro pins s σ H v u Q I r h
  exact wpAny_assign_Name (store_ok I hN hi hx r (fun s' I'=>⟨_,H,I',h⟩) hf)
noncomputable def gNil:TGs:=fun vs σ H Q=>vs=[]∧Q σ H
noncomputable def gCons (t:TG) (u:TGs):TGs:=fun vs σ H Q=>∃ v r,vs=v :: r∧t v σ H fun σ' H'=>u r σ' H' Q
theorem pgs_nil:PGs X [] gNil:=by
  intro pins s σ H vs us Q I r h
  obtain ⟨e,h⟩:=h
  subst e
  cases r
  exact assignInOrder_nil ⟨σ,H,I,h⟩
theorem pgs_cons {e:Expr} {es:List Expr} {t:TG} {u:TGs} (h1:PG X e t) (h2:PGs X es u)
    (hs:(assignEach (e :: es) X.env).map (·.2)=assign e X.env :: (assignEach es X.env).map (·.2):=by rfl):PGs X (e :: es) (gCons t u):=by
  intro pins s σ H vs us Q I r h
  obtain ⟨v,vr,e1,h⟩:=h
  subst e1
  cases r with
  | cons r rr =>
    rw [hs]
    refine assignInOrder_cons (thn (h1 pins s σ H _ _ _ I r h) fun _ s1 ⟨σ1,H1,I1,q1⟩=>?_)
    exact h2 pins s1 σ1 H1 _ _ Q I1 rr q1
noncomputable def gTup (K:PySem.W.Frag) (n:Nat) (t:TGs):TG:=fun v σ H Q=>∃ a xs,v=.ref a∧SqT K H a xs∧xs.length=n∧t xs σ H Q
theorem pg_tup {es:List Expr} {k:Nat} {t:TGs} {n:Nat} (hc:X.calm=true) (h:PGs X es t)
    (hn:(assignEach es X.env).length=n:=by rfl) (hst:(assignEach es X.env).findIdx? (·.1)=none:=by rfl):PG X (.Tuple es k pos) (gTup X.K n t):=by
  intro pins s σ H v u Q I r hw
  obtain ⟨a,xs,e1,hq,hl,hw⟩:=hw
  subst e1
  cases r
  obtain ⟨its,rv,ht,hz⟩:=I.tuple hq
  refine assign_Tuple_tuple (I.ok.hd hc) ht (by simp [hn,← hl,rv.length]) hst fun h' hx=>?_
  have I1:Inv X pins σ H { s with heap:=h' }:=I.kept (t':=s.toks) fun b o e=>hx b o (Nat.ne_of_lt (Heap.lt_size e)) e
  exact h pins _ σ H xs _ Q I1 (by simpa using rv) hw
noncomputable def tAsg (te:TE) (g:TG):TS:=fun D σ H=>te σ H fun x H1=>g x σ H1 D.nx
theorem ps_set {i:Nat} {x:Str} {e:Expr} {te:TE} {pos':Pos} (hN:X.N.Nodup) (hi:X.N[i]?=some x) (hx:Loc X.env.scope x) (he:PE X e te) (hs:swapsWith e (some (.Name x pos')) pos.line X.env=pure false:=by rfl) (hf:X.fn x=true∨X.env.scope.names.lookup x=some .local:=by first | exact .inl rfl | exact .inr rfl | assumption) :
    PS X (.Assign [.Name x pos'] e pos) (tAsg te (gName i)):=by
  intro pins s σ H D I h
  refine wpAny_Assign_Name (thn (he pins s σ H _ I h) fun v s1 ⟨y,H1,I1,r1,q1⟩=>?_) hs
  exact store_ok I1 hN hi hx r1 (fun s2 I2=>⟨_,H1,I2,q1⟩) hf
noncomputable def tAugS (to ti te:TE) (tget:V→V→Hp→VK→Prop) (tip:TIp) (tset:TSet):TS:=fun D σ H=>to σ H fun o H1=>ti σ H1 fun i H2=>tget o i H2 fun x H3=>te σ H3 fun y H4=>tip x y H4 fun z H5=>tset o i z H5 fun H6=>D.nx σ H6
noncomputable def PGet (X:Cx) (t:V→V→Hp→VK→Prop):Prop :=
  ∀ (pins:List (Addr × Obj)) (s:Shared) (σ:St) (H:Hp) (o i:V) (ov iv:Value) (Q:VK),Inv X pins σ H s→RelV o ov→RelV i iv→t o i H Q →
    wpAny (model X.prog X.w) X.A (getItem ov iv) (EP X pins σ Q) X.xe s
theorem ps_augS {o i e:Expr} {to ti te:TE} {tget:V→V→Hp→VK→Prop} {tip:TIp} {tset:TSet} {op:Operator} {tpos:Pos} (ho:PE X o to) (hi:PE X i ti) (hg:PGet X tget) (he:PE X e te) (hp:PIp X op tip) (hs:PSet X tset)
    (ha:∀ ov iv new,augStore i ov iv new=(do holding [new,ov,iv] (setItem ov iv new); release [new,ov,iv] []; pure .next):=by intros; rfl):PS X (.AugAssign (.Subscript o i tpos) op e pos) (tAugS to ti te tget tip tset):=by
  intro pins s σ H D I h
  refine wpAny_AugAssign_SubscriptAny (thn (ho pins s σ H _ I h) fun ov s1 ⟨x1,H1,I1,r1,q1⟩=>?_) ha
  refine thn (hi pins s1 σ H1 _ I1 q1) fun iv s2 ⟨x2,H2,I2,r2,q2⟩=>?_
  refine thn (hg pins s2 σ H2 x1 x2 ov iv _ I2 r1 r2 q2) fun old s3 ⟨x3,H3,I3,r3,q3⟩=>?_
  refine thn (he pins s3 σ H3 _ I3 q3) fun v s4 ⟨x4,H4,I4,r4,q4⟩=>?_
  refine thn (hp pins s4 σ H4 x3 x4 old v _ I4 r3 r4 q4) fun new s5 ⟨x5,H5,I5,r5,q5⟩=>?_
  exact thn (hs pins s5 σ H5 x1 x2 x5 ov iv new _ I5 r1 r2 r5 q5) fun _ s6 ⟨H6,I6,q6⟩=>⟨σ,H6,I6,q6⟩
end
section
variable {X:Cx} {pos:Pos}
end
set_option genInjectivity false in
structure It where
  go:Nat→Hp→Prop
  yld:Nat→Hp→V→Hp→Prop
  stop:Nat→Hp→Prop
noncomputable def FpOk (X:Cx) (pins:List (Addr × Obj)) (H:Hp) (b:Addr):Prop :=
  H b=none∧b≠X.env.locals∧b ∉ X.fs∧(b∈X.ex∨X.s₀.heap.objs.size≤b)∧(∀ x c,X.env.cells.lookup x=some c→c≠b)∧∀ p∈X.pn++pins,p.1≠b
theorem Inv.fpOk {X:Cx} {pins:List (Addr × Obj)} {σ:St} {H H':Hp} {s:Shared} {b:Addr} (I:Inv X pins σ H s) (hb:s.heap.objs.size≤b) (hn:H' b=none):FpOk X pins H' b:=by
  refine ⟨hn,Nat.ne_of_gt (Nat.lt_of_lt_of_le I.lt hb),I.nofs hb,.inr (Nat.le_trans I.sz hb),fun x c e z=>?_,fun p hp z=>?_⟩
  · obtain ⟨v,q⟩:=I.cell x c e
    exact absurd (Nat.lt_of_lt_of_le q.lt (by rw [z]; exact hb)) (Nat.lt_irrefl _)
  · exact absurd (Nat.lt_of_lt_of_le (Heap.lt_size (I.pin p hp).1) (by rw [z]; exact hb)) (Nat.lt_irrefl _)
structure Turn (P:Program) (w:World) (K:PySem.W.Frag) (tg:Expr) (J:It) (fp:List Addr) (it:Addr) (tn:Nat→Heap→Prop):Prop where
  mem:it∈fp
  obj:∀ i h,tn i h→∀ b∈fp,∃ o,h.get? b=some o∧∀ v,o.data≠.cell v
  keep:∀ i h h',tn i h→(∀ b∈fp,∀ o,h.get? b=some o→h'.get? b=some o)→tn i h'
  item:∀ (X:Cx),X.prog=P→X.w=w→X.K=K→X.calm=true→∀ (i:Nat) (pins:List (Addr × Obj)) (s:Shared) (σ:St) (H:Hp) (E:Value→Shared→Prop),Inv X pins σ H s→(∀ b∈fp,FpOk X pins H b)→tn i s.heap→J.go i H →
    wpAny (model P w) X.A (pyNext (.ref it)) (fun r s1=>∃ u,r=some u ∧
      wpAny (model P w) X.A (letOwnedTupleGo tg (.ref it) u) (fun _ s2=>∃ x H',Inv X pins σ H' s2∧RelV x u∧J.yld i H x H'∧tn (i+1) s2.heap∧∀ b∈fp,H' b=none) E s1) E s
  done:∀ (X:Cx),X.prog=P→X.w=w→X.K=K→X.calm=true→∀ (i:Nat) (pins:List (Addr × Obj)) (s:Shared) (σ:St) (H:Hp) (E:Value→Shared→Prop),Inv X pins σ H s→(∀ b∈fp,FpOk X pins H b)→tn i s.heap→J.stop i H →
    wpAny (model P w) X.A (pyNext (.ref it)) (fun r s1=>r=none∧Inv X pins σ H s1) E s
  self:∀ (A:Around) (i:Nat) (s:Shared) (Q:Value→Shared→Prop) (E:Value→Shared→Prop),tn i s.heap→Q (.ref it) s→wpAny (model P w) A (pyIter (.ref it)) Q E s
noncomputable abbrev TI:=St→Hp→(It→Hp→Prop)→Prop
noncomputable def PIE (X:Cx) (pins:List (Addr × Obj)) (σ:St) (tg:Expr) (R:It→Hp→Prop) (itv:Value) (s2:Shared):Prop :=
  ∃ (it:Addr) (fp:List Addr) (tn:Nat→Heap→Prop) (J:It) (H':Hp),itv=.ref it∧Inv X pins σ H' s2∧Turn X.prog X.w X.K tg J fp it tn∧tn 0 s2.heap∧(∀ b∈fp,FpOk X pins H' b)∧R J H'
noncomputable def PI (X:Cx) (tg iter:Expr) (wi:TI):Prop :=
  ∀ (pins:List (Addr × Obj)) (s:Shared) (σ:St) (H:Hp) (R:It→Hp→Prop),Inv X pins σ H s→wi σ H R →
    wpAny (model X.prog X.w) X.A (eval iter X.env) (fun v s1=>wpAny (model X.prog X.w) X.A (pyIter v) (PIE X pins σ tg R) X.xe s1) X.xe s
theorem go_of {M:Model} {A:Around} {E:Value→Shared→Prop} {s:Shared} {tg:Expr} {it:Addr} {u:Value} {o:Obj} {n:String} {vs:Array Value} {Q:Unit→Shared→Prop} (ho:s.heap.get? it=some o) (hc:o.cls=.type n) (hd:o.data=.fields vs)
    (hn:["enumerate", "zip", "dict_itemiterator", "dict_reverseitemiterator", "odict_iterator", "itertools.zip_longest", "itertools.pairwise"].contains n=false) (hQ:Q () s):wpAny M A (letOwnedTupleGo tg (.ref it) u) Q E s:=by
  unfold letOwnedTupleGo
  cases tg <;> first
    | exact wpAny_pure hQ
    | (cases u <;> first
        | exact wpAny_pure hQ
        | (refine wpAny_bind (wpAny_load ho ?_)
           rw [hc,hd]
           show wpAny M A (if (["enumerate", "zip", "dict_itemiterator", "dict_reverseitemiterator", "odict_iterator", "itertools.zip_longest", "itertools.pairwise"].contains n && vs[0]? == some (rawInt _))=true then _ else _) Q E s
           rw [if_neg (by intro h; rw [hn,Bool.false_and] at h; cases h)]
           exact wpAny_pure hQ))
noncomputable def Itl (K:PySem.W.Frag) (a:Addr):It :=
  ⟨fun i H=>∃ xs x,SqL K H a xs∧xs[i]?=some x,fun i H x H'=>H'=H∧∀ xs,SqL K H a xs→xs[i]?=some x,fun i H=>∃ xs,SqL K H a xs∧xs.length≤i⟩
noncomputable def Itt (K:PySem.W.Frag) (a:Addr):It :=
  ⟨fun i H=>∃ xs x,SqT K H a xs∧xs[i]?=some x,fun i H x H'=>H'=H∧∀ xs,SqT K H a xs→xs[i]?=some x,fun i H=>∃ xs,SqT K H a xs∧xs.length≤i⟩
noncomputable def Itr (lo:Int) (n:Nat):It:=⟨fun i _=>i < n,fun i H x H'=>H'=H∧x=.int (lo+i),fun i _=>n≤i⟩
theorem turn_list {P:Program} {w:World} {K:PySem.W.Frag} {tg:Expr} (a it:Addr):Turn P w K tg (Itl K a) [it] it (fun i h=>h.IsListIter it a i) where
  mem:=by simp
  obj:=fun i h st b hb=>by
    have e:b=it:=by simpa using hb
    subst e
    obtain ⟨o,e,c,d⟩:=st
    exact ⟨o,e,fun v z=>by rw [d] at z; cases z⟩
  keep:=fun i h h' st k=>st.at fun o e=>k it (by simp) o e
  item:=by
    intro X hP hw hK hc i pins s σ H E I hf st hg
    subst hP hw hK
    obtain ⟨xs,x,hq,hx⟩:=hg
    obtain ⟨its,rv,p,hz⟩:=I.list hq
    obtain ⟨u,hu,ru⟩:=rv.get hx
    obtain ⟨f0,f1,f2,f3,f4,f5⟩:=hf it (by simp)
    refine wpAny_pyNext_list_item st p.isList (x:=u) (by simpa using hu) fun h' st' sb=>?_
    have I1:Inv X pins σ H { s with heap:=h' }:=I.turned (t':=s.toks) (fun b o hb e=>(sb.2 b hb).trans e) f0 f1 f3 f4 f5
    obtain ⟨o,e,c,d⟩:=id st'
    exact ⟨u,rfl,go_of (s:={ s with heap:=h' }) e c d (by decide) ⟨x,H,I1,ru,⟨rfl,fun ys hy=>by rw [I.list_inj hy hq]; exact hx⟩,st',fun b hb=>(hf b hb).1⟩⟩
  done:=by
    intro X hP hw hK hc i pins s σ H E I hf st hg
    subst hP hw hK
    obtain ⟨xs,hq,hx⟩:=hg
    obtain ⟨its,rv,p,hz⟩:=I.list hq
    obtain ⟨f0,f1,f2,f3,f4,f5⟩:=hf it (by simp)
    have hl:=rv.length
    exact wpAny_pyNext_list_end (I.ok.hd hc) st p.isList (by simp; omega) fun h' eb=>⟨rfl,I.turned (t':=s.toks) (fun b o hb e=>eb b o hb e) f0 f1 f3 f4 f5⟩
  self:=fun _ _ _ _ _ st h=>wpAny_pyIter_listiter st h
theorem turn_tuple {P:Program} {w:World} {K:PySem.W.Frag} {tg:Expr} (a it:Addr):Turn P w K tg (Itt K a) [it] it (fun i h=>h.IsTupleIter it a i) where
  mem:=by simp
  obj:=fun i h st b hb=>by
    have e:b=it:=by simpa using hb
    subst e
    obtain ⟨o,e,c,d⟩:=st
    exact ⟨o,e,fun v z=>by rw [d] at z; cases z⟩
  keep:=fun i h h' st k=>st.at fun o e=>k it (by simp) o e
  item:=by
    intro X hP hw hK hc i pins s σ H E I hf st hg
    subst hP hw hK
    obtain ⟨xs,x,hq,hx⟩:=hg
    obtain ⟨its,rv,p,hz⟩:=I.tuple hq
    obtain ⟨u,hu,ru⟩:=rv.get hx
    obtain ⟨f0,f1,f2,f3,f4,f5⟩:=hf it (by simp)
    refine wpAny_pyNext_tuple_item st (show s.heap.IsTuple a its.toArray from p) (x:=u) (by simpa using hu) fun h' st' sb=>?_
    have I1:Inv X pins σ H { s with heap:=h' }:=I.turned (t':=s.toks) (fun b o hb e=>(sb.2 b hb).trans e) f0 f1 f3 f4 f5
    obtain ⟨o,e,c,d⟩:=id st'
    exact ⟨u,rfl,go_of (s:={ s with heap:=h' }) e c d (by decide) ⟨x,H,I1,ru,⟨rfl,fun ys hy=>by rw [I.tuple_inj hy hq]; exact hx⟩,st',fun b hb=>(hf b hb).1⟩⟩
  done:=by
    intro X hP hw hK hc i pins s σ H E I hf st hg
    subst hP hw hK
    obtain ⟨xs,hq,hx⟩:=hg
    obtain ⟨its,rv,p,hz⟩:=I.tuple hq
    obtain ⟨f0,f1,f2,f3,f4,f5⟩:=hf it (by simp)
    have hl:=rv.length
    exact wpAny_pyNext_tuple_end (I.ok.hd hc) st (show s.heap.IsTuple a its.toArray from p) (by simp; omega) fun h' eb=>⟨rfl,I.turned (t':=s.toks) (fun b o hb e=>eb b o hb e) f0 f1 f3 f4 f5⟩
  self:=fun _ _ _ _ _ st h=>wpAny_pyIter_tupleiter st h
theorem turn_range {P:Program} {w:World} {K:PySem.W.Frag} {tg:Expr} (it:Addr) (lo:Int) (n:Nat):Turn P w K tg (Itr lo n) [it] it (fun i h=>IsRangeIter h it (lo+(i:Nat) * 1) ((n:Int) - (i:Nat)) 1) where
  mem:=by simp
  obj:=fun i h st b hb=>by
    have e:b=it:=by simpa using hb
    subst e
    exact ⟨_,st,fun v z=>by
      have z':Data.fields _=Data.cell v:=z
      cases z'⟩
  keep:=fun i h h' st k=>k it (by simp) _ st
  item:=by
    intro X hP hw hK hc i pins s σ H E I hf st hg
    subst hP hw hK
    obtain ⟨f0,f1,f2,f3,f4,f5⟩:=hf it (by simp)
    have W:=Walks.range (prog:=X.prog) (w:=X.w) (I.ok.hd hc) it lo 1 n
    refine W.item i s _ _ hg st fun v h' tk hv st' kk=>?_
    obtain ⟨t,rfl⟩:=hv
    have I1:Inv X pins σ H { s with heap:=h',toks:=tk }:=I.turned (fun b o hb e=>kk b o (by simpa using hb) e) f0 f1 f3 f4 f5
    refine ⟨_,rfl,go_of (s:={ s with heap:=h',toks:=tk }) (n:="range_iterator") st' rfl rfl (by decide) ⟨.int (lo+i),H,I1,⟨t,?_⟩,⟨rfl,rfl⟩,st',fun b hb=>(hf b hb).1⟩⟩
    rw [Int.mul_one]
  done:=by
    intro X hP hw hK hc i pins s σ H E I hf st hg
    subst hP hw hK
    obtain ⟨f0,f1,f2,f3,f4,f5⟩:=hf it (by simp)
    exact wpAny_pyNext_range_end (I.ok.hd hc) st (by have:n≤i:=hg; omega) fun h' eb=>⟨rfl,I.turned (t':=s.toks) (fun b o hb e=>eb b o hb e) f0 f1 f3 f4 f5⟩
  self:=fun _ _ _ _ _ st h=>wpAny_pyIter_rangeiter st h
end L2
namespace L2
open PySem PySem.Spec PyProof.Rows
section
variable {X:Cx} {tg:Expr}
noncomputable def iList (K:PySem.W.Frag) (tl:TE):TI:=fun σ H R=>tl σ H fun x H1=>∃ a,x=.ref a∧(∃ xs,SqL K H1 a xs)∧R (Itl K a) H1
noncomputable def iTup (K:PySem.W.Frag) (tl:TE):TI:=fun σ H R=>tl σ H fun x H1=>∃ a,x=.ref a∧(∃ xs,SqT K H1 a xs)∧R (Itt K a) H1
theorem pi_list {l:Expr} {tl:TE} (hl:PE X l tl):PI X tg l (iList X.K tl):=by
  intro pins s σ H R I h
  refine thn (hl pins s σ H _ I h) fun v s1 ⟨x,H1,I1,r1,q1⟩=>?_
  obtain ⟨a,e,⟨xs,hq⟩,q⟩:=q1
  subst e
  cases r1
  obtain ⟨its,rv,p,hz⟩:=I1.list hq
  refine wpAny_pyIter_list p.isList ?_
  refine ⟨s1.heap.objs.size,[s1.heap.objs.size],_,_,H1,rfl,I1.kept (t':=s1.toks) fun b o e=>Heap.get?_push_of_some _ e,turn_list a _,⟨_,Heap.get?_push_size _ rfl,rfl,rfl⟩,fun b hb=>?_,q⟩
  have e:b=s1.heap.objs.size:=by simpa using hb
  subst e
  exact I1.fpOk (Nat.le_refl _) (I1.hok.fresh (Nat.le_refl _))
theorem pi_tup {l:Expr} {tl:TE} (hl:PE X l tl):PI X tg l (iTup X.K tl):=by
  intro pins s σ H R I h
  refine thn (hl pins s σ H _ I h) fun v s1 ⟨x,H1,I1,r1,q1⟩=>?_
  obtain ⟨a,e,⟨xs,hq⟩,q⟩:=q1
  subst e
  cases r1
  obtain ⟨its,rv,p,hz⟩:=I1.tuple hq
  refine wpAny_pyIter_tuple (show s1.heap.IsTuple a its.toArray from p) ?_
  refine ⟨s1.heap.objs.size,[s1.heap.objs.size],_,_,H1,rfl,I1.kept (t':=s1.toks) fun b o e=>Heap.get?_push_of_some _ e,turn_tuple a _,⟨_,Heap.get?_push_size _ rfl,rfl,rfl⟩,fun b hb=>?_,q⟩
  have e:b=s1.heap.objs.size:=by simpa using hb
  subst e
  exact I1.fpOk (Nat.le_refl _) (I1.hok.fresh (Nat.le_refl _))
theorem range_it {pins:List (Addr × Obj)} {σ:St} {H:Hp} {s:Shared} {R:It→Hp→Prop} {E:Value→Shared→Prop} {lo hi:Int} {t u v:Tok} {tk:Nat} (I:Inv X pins σ H s) (h1:-(2 ^ 62)≤lo) (h2:lo < 2 ^ 62) (h3:-(2 ^ 62)≤hi) (h4:hi < 2 ^ 62)
    (q:R (Itr lo (hi - lo).toNat) H):wpAny (model X.prog X.w) X.A (pyIter (.ref s.heap.objs.size)) (PIE X pins σ tg R) E { s with heap:=s.heap.push { cls:=.type "range",data:=.fields #[.int lo t,.int hi u,.int 1 v] },toks:=tk }:=by
  refine wpAny_pyIter_range (IsRange.new ..) (small_one h1 h2 h3 h4) ?_
  have I1:Inv X pins σ H { s with heap:=s.heap.push { cls:=.type "range",data:=.fields #[.int lo t,.int hi u,.int 1 v] },toks:=tk }:=I.kept fun b o e=>Heap.get?_push_of_some _ e
  refine ⟨(s.heap.push { cls:=.type "range",data:=.fields #[.int lo t,.int hi u,.int 1 v] }).objs.size,[(s.heap.push { cls:=.type "range",data:=.fields #[.int lo t,.int hi u,.int 1 v] }).objs.size],_,_,H,rfl,
    I1.kept (t':=tk) fun b o e=>Heap.get?_push_of_some _ e,turn_range _ lo (hi - lo).toNat,?_,fun b hb=>?_,q⟩
  · have e1:lo+((0:Nat):Int) * 1=lo:=by simp
    have e2:(((hi - lo).toNat:Nat):Int) - ((0:Nat):Int)=Builtin.Range.rangeSize lo hi 1:=by rw [rangeSize_one]; split <;> omega
    show IsRangeIter _ _ (lo+((0:Nat):Int) * 1) ((((hi - lo).toNat:Nat):Int) - ((0:Nat):Int)) 1
    rw [e1,e2]
    exact Heap.get?_push_size _ rfl
  · have e:b=(s.heap.push { cls:=.type "range",data:=.fields #[.int lo t,.int hi u,.int 1 v] }).objs.size:=by simpa using hb
    subst e
    exact I1.fpOk (Nat.le_refl _) (I1.hok.fresh (Nat.le_refl _))
noncomputable def iRng1 (ta:TA):TI:=fun σ H R=>ta σ H fun vs H1=>∃ j:Int,vs=[.int j]∧-(2 ^ 62)≤j∧j < 2 ^ 62∧R (Itr 0 j.toNat) H1
theorem pi_range1 {a:Expr} {ta:TA} {p pos:Pos} (hg:Gl X "range") (hm:X.mg "range" = none) (ha:PA X [a] ta) (hs:starEach [a] X.env=[(false,eval a X.env)]:=by rfl):PI X tg (.Call (.Name "range" p) [a] [] pos) (iRng1 ta):=by
  intro pins s σ H R I h
  refine Call_ (ld_blt I hg hm boot_range (PyProof.Rows.callWith_type1 (thn (ha pos pins s σ H _ I h) fun us s1 ⟨vs,H1,I1,r1,q1⟩=>?_) hs rfl))
  obtain ⟨j,e,q1,q2,q⟩:=q1
  subst e
  cases r1 with
  | cons r rr =>
    cases rr
    obtain ⟨t,rfl⟩:=r
    exact call_range_1 (range_it I1 (by omega) (by omega) q1 q2 (by simpa using q))
noncomputable def tFor (wi:TI) (g:TG) (tb:TS):TS:=fun D σ H=>wi σ H fun J H1=>∃ W:Nat→Nat→St→Hp→Prop,(∃ m,W 0 m σ H1)∧∀ i m σ H,W i m σ H →
  (J.stop i H∧D.nx σ H)∨(J.go i H∧∃ N:St→Hp→Prop,(∀ σ' H',N σ' H'→∃ m',m' < m∧W (i+1) m' σ' H')∧∀ x H',J.yld i H x H'→g x σ H' fun σ2 H2=>tb { D with nx:=N,ct:=N,bk:=D.nx } σ2 H2)
noncomputable def pinsAt (fp:List Addr) (h:Heap):List (Addr × Obj):=fp.filterMap fun b=>(h.get? b).map fun o=>(b,o)
theorem mem_pinsAt {fp:List Addr} {h:Heap} {b:Addr} {o:Obj} (hb:b∈fp) (e:h.get? b=some o):(b,o)∈pinsAt fp h:=List.mem_filterMap.mpr ⟨b,hb,by rw [e]; rfl⟩
theorem of_pinsAt {fp:List Addr} {h:Heap} {p:Addr × Obj} (hp:p∈pinsAt fp h):p.1∈fp∧h.get? p.1=some p.2:=by
  obtain ⟨b,hb,e⟩:=List.mem_filterMap.mp hp
  cases q:h.get? b with
  | none=>rw [q] at e; cases e
  | some o =>
    rw [q] at e
    have e':(b,o)=p:=Option.some.inj e
    subst e'
    exact ⟨hb,q⟩
theorem Inv.pinned {pins:List (Addr × Obj)} {σ:St} {H:Hp} {s:Shared} {fp:List Addr} (I:Inv X pins σ H s) (hf:∀ b∈fp,FpOk X pins H b) (ho:∀ b∈fp,∃ o,s.heap.get? b=some o∧∀ v,o.data≠.cell v):Inv X (pins++pinsAt fp s.heap) σ H s :=
  I.pins_of fun p hp=>(List.mem_append.mp hp).elim (fun z=>I.pin p (List.mem_append_right _ z)) fun z=>by
    obtain ⟨hb,e⟩:=of_pinsAt z
    obtain ⟨f0,f1,f2,_⟩:=hf p.1 hb
    obtain ⟨o,e',d⟩:=ho p.1 hb
    rw [e] at e'; cases e'
    exact ⟨e,f0,f1,f2,d⟩
theorem Inv.unpinned {pins pl:List (Addr × Obj)} {σ:St} {H:Hp} {s:Shared} (I:Inv X (pins++pl) σ H s):Inv X pins σ H s:=I.pins_of fun p hp=>I.pin p (List.mem_append_right _ (List.mem_append_left _ hp))
theorem ps_for {iter:Expr} {body:List Stmt} {wi:TI} {g:TG} {tb:TS} {pos:Pos} (hp:PassesOwn (model X.prog X.w) X.A X.env X.xe) (hc:X.calm=true) (hi:PI X tg iter wi) (hg:PG X tg g) (hb:PSs X body tb)
    (hs:∀ x,foldedSetIterable iter X.env x=pure x:=by intro _; rfl):PS X (.For tg iter body [] pos) (tFor wi g tb):=by
  intro pins s σ H D I h
  refine wpAny_For (thn (hi pins s σ H _ I h) fun v s1 h1=>thn h1 fun itv s2 h2=>?_) hs
  obtain ⟨it,fp,tn,J,H2,e,I2,T,st2,f2,W,⟨m0,w0⟩,turn⟩:=h2
  subst e
  have stat:∀ {H':Hp},(∀ b∈fp,H' b=none)→∀ b∈fp,FpOk X pins H' b:=fun hn b hb=>⟨hn b hb,(f2 b hb).2⟩
  refine codeAny_forLoop_any (fun n s'=>∃ i σ' H',Inv X pins σ' H' s'∧tn i s'.heap∧(∀ b∈fp,H' b=none)∧W i n σ' H') ?_ m0 ⟨0,σ,H2,I2,st2,fun b hb=>(f2 b hb).1,w0⟩
  rintro n s3 ⟨i,σ3,H3,I3,st3,fr3,w3⟩
  rcases turn i n σ3 H3 w3 with ⟨stop,qn⟩ | ⟨go,N,hN,step⟩
  · refine wpAny_passesOwn hp (thn (T.done X rfl rfl rfl hc i pins s3 σ3 H3 X.xe I3 (stat fr3) st3 stop) fun r s4 ⟨hr,I4⟩=>?_)
    subst hr
    exact wpAny_execs_nil ⟨σ3,H3,I4,qn⟩
  · refine wpAny_passesOwn hp (thn (T.item X rfl rfl rfl hc i pins s3 σ3 H3 X.xe I3 (stat fr3) st3 go) fun r s4 ⟨u,hr,h4⟩=>?_)
    subst hr
    refine wpAny_passesOwn hp (thn h4 fun _ s5 ⟨x,H5,I5,r5,y5,st5,fr5⟩=>?_)
    have I5':=I5.pinned (stat fr5) (T.obj _ _ st5)
    refine wpAny_passesOwn hp (thn (hg _ s5 σ3 H5 x u _ I5' r5 (step x H5 y5)) fun _ s6 ⟨σ6,H6,I6,q6⟩=>?_)
    refine wpAny_passesOwn hp (thn (hb _ s6 σ6 H6 _ I6 q6) fun f s7 q7=>?_)
    have again:∀ {σ7:St} {H7:Hp},Inv X (pins++pinsAt fp s5.heap) σ7 H7 s7→N σ7 H7→∃ m,m < n∧∃ i σ' H',Inv X pins σ' H' s7∧tn i s7.heap∧(∀ b∈fp,H' b=none)∧W i m σ' H':=fun {σ7 H7} I7 n7=>by
      obtain ⟨m',hm,w7⟩:=hN σ7 H7 n7
      refine ⟨m',hm,i+1,σ7,H7,I7.unpinned,T.keep _ _ _ st5 fun b hb o e=>(I7.pin (b,o) (List.mem_append_right _ (List.mem_append_right _ (mem_pinsAt hb e)))).1,fun b hb=>?_,w7⟩
      obtain ⟨o,e,d⟩:=T.obj _ _ st5 b hb
      exact (I7.pin (b,o) (List.mem_append_right _ (List.mem_append_right _ (mem_pinsAt hb e)))).2.1
    cases f with
    | next=>obtain ⟨σ7,H7,I7,n7⟩:=q7; exact again I7 n7
    | cont=>obtain ⟨σ7,H7,I7,n7⟩:=q7; exact again I7 n7
    | brk=>obtain ⟨σ7,H7,I7,q7⟩:=q7; exact ⟨σ7,H7,I7.unpinned,q7⟩
    | ret v=>obtain ⟨x7,σ7,H7,I7,r7,q7⟩:=q7; exact ⟨x7,σ7,H7,I7.unpinned,r7,q7⟩
end
theorem for_list {K:PySem.W.Frag} {a:Addr} {xs:List V} {g:TG} {tb:TS} {D:Ends} {σ:St} {H:Hp} (Pv:Nat→St→Hp→Prop) (h0:Pv 0 σ H) (hl:∀ i σ H,i≤xs.length→Pv i σ H→SqL K H a xs)
    (hs:∀ i x σ H,xs[i]?=some x→Pv i σ H→g x σ H fun σ2 H2=>tb { D with nx:=Pv (i+1),ct:=Pv (i+1),bk:=D.nx } σ2 H2) (hd:∀ σ H,Pv xs.length σ H→D.nx σ H) :
    ∃ W:Nat→Nat→St→Hp→Prop,(∃ m,W 0 m σ H)∧∀ i m σ H,W i m σ H →
      ((Itl K a).stop i H∧D.nx σ H)∨((Itl K a).go i H∧∃ N:St→Hp→Prop,(∀ σ' H',N σ' H'→∃ m',m' < m∧W (i+1) m' σ' H')∧∀ x H',(Itl K a).yld i H x H'→g x σ H' fun σ2 H2=>tb { D with nx:=N,ct:=N,bk:=D.nx } σ2 H2):=by
  refine ⟨fun i m σ H=>m=xs.length - i∧i≤xs.length∧Pv i σ H,⟨xs.length,by simp,Nat.zero_le _,h0⟩,?_⟩
  rintro i m σ H ⟨rfl,hi,p⟩
  have q:=hl i σ H hi p
  by_cases hlt:i < xs.length
  · refine .inr ⟨⟨xs,xs[i],q,by simp [hlt]⟩,Pv (i+1),fun σ' H' p'=>⟨xs.length - (i+1),by omega,rfl,hlt,p'⟩,fun x H' y=>?_⟩
    obtain ⟨e,y⟩:=y
    subst e
    exact hs i x σ _ (y xs q) p
  · have e:i=xs.length:=by omega
    subst e
    exact .inl ⟨⟨xs,q,Nat.le_refl _⟩,hd σ H p⟩
theorem for_tup {K:PySem.W.Frag} {a:Addr} {xs:List V} {g:TG} {tb:TS} {D:Ends} {σ:St} {H:Hp} (Pv:Nat→St→Hp→Prop) (h0:Pv 0 σ H) (hl:∀ i σ H,i≤xs.length→Pv i σ H→SqT K H a xs)
    (hs:∀ i x σ H,xs[i]?=some x→Pv i σ H→g x σ H fun σ2 H2=>tb { D with nx:=Pv (i+1),ct:=Pv (i+1),bk:=D.nx } σ2 H2) (hd:∀ σ H,Pv xs.length σ H→D.nx σ H) :
    ∃ W:Nat→Nat→St→Hp→Prop,(∃ m,W 0 m σ H)∧∀ i m σ H,W i m σ H →
      ((Itt K a).stop i H∧D.nx σ H)∨((Itt K a).go i H∧∃ N:St→Hp→Prop,(∀ σ' H',N σ' H'→∃ m',m' < m∧W (i+1) m' σ' H')∧∀ x H',(Itt K a).yld i H x H'→g x σ H' fun σ2 H2=>tb { D with nx:=N,ct:=N,bk:=D.nx } σ2 H2):=by
  refine ⟨fun i m σ H=>m=xs.length - i∧i≤xs.length∧Pv i σ H,⟨xs.length,by simp,Nat.zero_le _,h0⟩,?_⟩
  rintro i m σ H ⟨rfl,hi,p⟩
  have q:=hl i σ H hi p
  by_cases hlt:i < xs.length
  · refine .inr ⟨⟨xs,xs[i],q,by simp [hlt]⟩,Pv (i+1),fun σ' H' p'=>⟨xs.length - (i+1),by omega,rfl,hlt,p'⟩,fun x H' y=>?_⟩
    obtain ⟨e,y⟩:=y
    subst e
    exact hs i x σ _ (y xs q) p
  · have e:i=xs.length:=by omega
    subst e
    exact .inl ⟨⟨xs,q,Nat.le_refl _⟩,hd σ H p⟩
theorem for_range {lo:Int} {n:Nat} {g:TG} {tb:TS} {D:Ends} {σ:St} {H:Hp} (Pv:Nat→St→Hp→Prop) (h0:Pv 0 σ H)
    (hs:∀ i σ H,i < n→Pv i σ H→g (.int (lo+i)) σ H fun σ2 H2=>tb { D with nx:=Pv (i+1),ct:=Pv (i+1),bk:=D.nx } σ2 H2) (hd:∀ σ H,Pv n σ H→D.nx σ H) :
    ∃ W:Nat→Nat→St→Hp→Prop,(∃ m,W 0 m σ H)∧∀ i m σ H,W i m σ H →
      ((Itr lo n).stop i H∧D.nx σ H)∨((Itr lo n).go i H∧∃ N:St→Hp→Prop,(∀ σ' H',N σ' H'→∃ m',m' < m∧W (i+1) m' σ' H')∧∀ x H',(Itr lo n).yld i H x H'→g x σ H' fun σ2 H2=>tb { D with nx:=N,ct:=N,bk:=D.nx } σ2 H2):=by
  refine ⟨fun i m σ H=>m=n - i∧i≤n∧Pv i σ H,⟨n,by simp,Nat.zero_le _,h0⟩,?_⟩
  rintro i m σ H ⟨rfl,hi,p⟩
  by_cases hlt:i < n
  · refine .inr ⟨hlt,Pv (i+1),fun σ' H' p'=>⟨n - (i+1),by omega,rfl,hlt,p'⟩,fun x H' y=>?_⟩
    obtain ⟨e,y⟩:=y
    subst e y
    exact hs i σ _ hlt p
  · have e:i=n:=by omega
    subst e
    exact .inl ⟨Nat.le_refl _,hd σ H p⟩
end L2
namespace L2
open PySem PySem.Spec PyProof.Rows
noncomputable abbrev R2:=V→V→Hp→VK→Prop
noncomputable def OpR (X:Cx) (f:Value→Value→Sem Value) (r:R2):Prop :=
  ∀ (pins:List (Addr × Obj)) (s:Shared) (σ:St) (H:Hp) (x y:V) (v u:Value) (Q:VK),Inv X pins σ H s→RelV x v→RelV y u→r x y H Q →
    wpAny (model X.prog X.w) X.A (f v u) (EP X pins σ Q) X.xe s
noncomputable def CallR (X:Cx) (f:Value) (r:List V→Hp→VK→Prop):Prop :=
  ∀ (pins:List (Addr × Obj)) (s:Shared) (σ:St) (H:Hp) (xs:List V) (us:List Value) (Q:VK),Inv X pins σ H s→Vals xs us→r xs H Q →
    wpAny (model X.prog X.w) X.A (call f us) (EP X pins σ Q) X.xe s
noncomputable def tOp (r:R2) (ta tb:TE):TE:=fun σ H Q=>ta σ H fun x H1=>tb σ H1 fun y H2=>r x y H2 Q
noncomputable def rI (C:Int→Int→Prop) (g:Int→Int→V):R2:=fun x y H Q=>∃ i j,x=.int i∧y=.int j∧C i j∧Q (g i j) H
noncomputable def rI0 (g:Int→Int→V):R2:=fun x y H Q=>∃ i j,x=.int i∧y=.int j∧Q (g i j) H
section
variable {X:Cx} {a b c:Expr} {ta tb tc:TE} {pos:Pos}
theorem binT (ha:PE X a ta) (hb:PE X b tb) {pins:List (Addr × Obj)} {s:Shared} {σ:St} {H:Hp} {R:V→V→Hp→Prop} (I:Inv X pins σ H s)
    (h:ta σ H fun x H1=>tb σ H1 fun y H2=>R x y H2) {Q:Value→Shared→Prop} {f:Value→Value→Sem Value}
    (hf:∀ v u s2 x y H2,Inv X pins σ H2 s2→RelV x v→RelV y u→R x y H2→wpAny (model X.prog X.w) X.A (f v u) Q X.xe s2) :
    wpAny (model X.prog X.w) X.A (eval a X.env) (fun v s₁=>wpAny (model X.prog X.w) X.A (eval b X.env) (fun u s₂=>wpAny (model X.prog X.w) X.A (f v u) Q X.xe s₂) X.xe s₁) X.xe s:=by
  refine thn (ha pins s σ H _ I h) fun v s1 ⟨x,H1,I1,r1,q1⟩=>?_
  refine thn (hb pins s1 σ H1 _ I1 q1) fun u s2 ⟨y,H2,I2,r2,q2⟩=>?_
  exact hf v u s2 x y H2 I2 r1 r2 q2
theorem pe_op {op:Operator} {r:R2} (ho:OpR X (binaryOp op) r) (ha:PE X a ta) (hb:PE X b tb):PE X (.BinOp a op b pos) (tOp r ta tb):=by
  intro pins s σ H Q I h
  exact wpAny_BinOp (binT ha hb I h fun v u s2 x y H2 I2 rx ry q=>ho pins s2 σ H2 x y v u Q I2 rx ry q)
theorem opI {f:Value→Value→Sem Value} {C:Int→Int→Prop} {g:Int→Int→Int}
    (rule:∀ (i j:Int) (t u:Tok) (s:Shared) (Q:Value→Shared→Prop) (E:Value→Shared→Prop),C i j→Q (.int (g i j) s.toks) { s with toks:=s.toks+1 }→wpAny (model X.prog X.w) X.A (f (.int i t) (.int j u)) Q E s) :
    OpR X f (rI C fun i j=>.int (g i j)):=by
  intro pins s σ H x y v u Q I rx ry h
  obtain ⟨i,j,rfl,rfl,hc,q⟩:=h
  obtain ⟨t,rfl⟩:=rx
  obtain ⟨t',rfl⟩:=ry
  exact rule i j t t' s _ _ hc ⟨.int (g i j),H,I.tok _,⟨_,rfl⟩,q⟩
theorem opI0 {f:Value→Value→Sem Value} {g:Int→Int→Int}
    (rule:∀ (i j:Int) (t u:Tok) (s:Shared) (Q:Value→Shared→Prop) (E:Value→Shared→Prop),Q (.int (g i j) s.toks) { s with toks:=s.toks+1 }→wpAny (model X.prog X.w) X.A (f (.int i t) (.int j u)) Q E s) :
    OpR X f (rI0 fun i j=>.int (g i j)):=by
  intro pins s σ H x y v u Q I rx ry h
  obtain ⟨i,j,rfl,rfl,q⟩:=h
  obtain ⟨t,rfl⟩:=rx
  obtain ⟨t',rfl⟩:=ry
  exact rule i j t t' s _ _ ⟨.int (g i j),H,I.tok _,⟨_,rfl⟩,q⟩
theorem opB0 {f:Value→Value→Sem Value} {g:Int→Int→Bool}
    (rule:∀ (i j:Int) (t u:Tok) (s:Shared) (Q:Value→Shared→Prop) (E:Value→Shared→Prop),Q (.bool (g i j)) s→wpAny (model X.prog X.w) X.A (f (.int i t) (.int j u)) Q E s) :
    OpR X f (rI0 fun i j=>.bl (g i j)):=by
  intro pins s σ H x y v u Q I rx ry h
  obtain ⟨i,j,rfl,rfl,q⟩:=h
  obtain ⟨t,rfl⟩:=rx
  obtain ⟨t',rfl⟩:=ry
  exact rule i j t t' s _ _ ⟨.bl (g i j),H,I,rfl,q⟩
noncomputable def CPow (i j:Int):Prop:=0≤j∧j≤1000000∧i.natAbs < 2 ^ 64
noncomputable def CMul (i j:Int):Prop:=(-(2 ^ 64) < i∧i < 2 ^ 64)∨(-(2 ^ 64) < j∧j < 2 ^ 64)
theorem CMul.ok {i j:Int} (h:CMul i j):IntMulOk i j:=by
  rcases h with ⟨h1,h2⟩ | ⟨h1,h2⟩
  · exact .of_left (intBits_le_64 h1 h2)
  · exact .of_right (intBits_le_64 h1 h2)
theorem op_add:OpR X (binaryOp .Add) (rI0 fun i j=>.int (i+j)):=opI0 fun _ _ _ _ _ _ _ q=>add_int q
theorem op_sub:OpR X (binaryOp .Sub) (rI0 fun i j=>.int (i - j)):=opI0 fun _ _ _ _ _ _ _ q=>sub_int q
theorem op_mul:OpR X (binaryOp .Mult) (rI CMul fun i j=>.int (i * j)):=opI fun _ _ _ _ _ _ _ hc q=>mul_int q hc.ok
theorem op_mod:OpR X (binaryOp .Mod) (rI (fun _ j=>0 < j) fun i j=>.int (i % j)):=opI fun i j _ _ _ _ _ hc q=>by
  have h1:(0:Int) < j:=hc
  exact mod_int' (by omega) (by rw [Int.fmod_eq_emod_of_nonneg i (by omega)]; exact q)
theorem op_pow:OpR X (binaryOp .Pow) (rI CPow fun i j=>.int (i ^ j.toNat)):=opI fun _ _ _ _ _ _ _ hc q=>pow_int_small hc.1 hc.2.1 hc.2.2 q
theorem iop_add:OpR X (inplaceOp .Add) (rI0 fun i j=>.int (i+j)):=opI0 fun _ _ _ _ _ _ _ q=>iadd_int q
end
noncomputable def scal:V→V→Bool
  | .non,.non=>true | .non,.int _=>true | .int _,.non=>true | .non,.bl _=>true | .bl _,.non=>true | .non,.str _=>true | .str _,.non=>true
  | .int _,.int _=>true | .bl _,.bl _=>true | .str _,.str _=>true | .byt _,.byt _=>true
  | .int _,.str _=>true | .str _,.int _=>true | .bl _,.str _=>true | .str _,.bl _=>true
  | _,_=>false
noncomputable def rEq:R2:=fun x y H Q=>scal x y=true∧Q (.bl (decide (x=y))) H
noncomputable def rNe:R2:=fun x y H Q=>scal x y=true∧Q (.bl (!decide (x=y))) H
theorem dec_int {i j:Int}:decide (V.int i=V.int j)=(i == j):=by
  rw [Bool.eq_iff_iff]
  simp
theorem dec_bl {i j:Bool}:decide (V.bl i=V.bl j)=(i == j):=by
  rw [Bool.eq_iff_iff]
  simp
theorem dec_str {i j:Str}:decide (V.str i=V.str j)=(i == j):=by
  rw [Bool.eq_iff_iff]
  simp
theorem dec_byt {i j:Array UInt8}:decide (V.byt i=V.byt j)=(i.toList == j.toList):=by
  rw [Bool.eq_iff_iff]
  cases i
  cases j
  simp
section
variable {X:Cx} {a b c:Expr} {ta tb tc:TE} {pos:Pos}
theorem fin_bl {pins:List (Addr × Obj)} {σ:St} {H:Hp} {s:Shared} {Q:VK} {k k':Bool} (I:Inv X pins σ H s) (q:Q (.bl k) H) (e:k=k'):EP X pins σ Q (.bool k') s:=by
  subst e
  exact ⟨.bl k,H,I,rfl,q⟩
theorem op_eq:OpR X (compareOp .Eq) rEq:=by
  intro pins s σ H x y v u Q I rx ry h
  obtain ⟨hs,q⟩:=h
  cases x with
  | non =>
    cases rx
    cases y with
    | non=>cases ry; exact PySem.EqNone.eq_none_none (fin_bl I q (by simp))
    | bl j=>cases ry; exact PySem.EqNone.eq_none_bool (fin_bl I q (by simp))
    | int j=>obtain ⟨t',rfl⟩:=ry; exact PySem.EqNone.eq_none_int (fin_bl I q (by simp))
    | str j=>obtain ⟨t',rfl⟩:=ry; exact PySem.EqNone.eq_none_str (fin_bl I q (by simp))
    | _=>exact absurd (show false=true from hs) Bool.false_ne_true
  | bl i =>
    cases rx
    cases y with
    | non=>cases ry; exact PySem.EqNone.eq_bool_none (fin_bl I q (by simp))
    | bl j=>cases ry; exact eq_bool (fin_bl I q dec_bl)
    | str j=>obtain ⟨t',rfl⟩:=ry; exact PySem.EqMixed.eq_bool_str (fin_bl I q (by simp))
    | _=>exact absurd (show false=true from hs) Bool.false_ne_true
  | int i =>
    obtain ⟨t,rfl⟩:=rx
    cases y with
    | non=>cases ry; exact PySem.EqNone.eq_int_none (fin_bl I q (by simp))
    | int j=>obtain ⟨t',rfl⟩:=ry; exact eq_int (fin_bl I q dec_int)
    | str j=>obtain ⟨t',rfl⟩:=ry; exact PySem.EqMixed.eq_int_str (fin_bl I q (by simp))
    | _=>exact absurd (show false=true from hs) Bool.false_ne_true
  | str i =>
    obtain ⟨t,rfl⟩:=rx
    cases y with
    | non=>cases ry; exact PySem.EqNone.eq_str_none (fin_bl I q (by simp))
    | bl j=>cases ry; exact PySem.EqMixed.eq_str_bool (fin_bl I q (by simp))
    | int j=>obtain ⟨t',rfl⟩:=ry; exact PySem.EqMixed.eq_str_int (fin_bl I q (by simp))
    | str j=>obtain ⟨t',rfl⟩:=ry; exact eq_str (fin_bl I q dec_str)
    | _=>exact absurd (show false=true from hs) Bool.false_ne_true
  | byt i =>
    obtain ⟨t,rfl⟩:=rx
    cases y with
    | byt j=>obtain ⟨t',rfl⟩:=ry; exact PySem.W.eq_bytes (fin_bl I q dec_byt)
    | _=>exact absurd (show false=true from hs) Bool.false_ne_true
  | _=>cases y <;> exact absurd (show false=true from hs) Bool.false_ne_true
theorem op_ne:OpR X (compareOp .NotEq) rNe:=by
  intro pins s σ H x y v u Q I rx ry h
  obtain ⟨hs,q⟩:=h
  cases x with
  | non =>
    cases rx
    cases y with
    | non=>cases ry; exact PySem.EqNone.ne_none_none (fin_bl I q (by simp))
    | bl j=>cases ry; exact PySem.EqNone.ne_none_bool (fin_bl I q (by simp))
    | int j=>obtain ⟨t',rfl⟩:=ry; exact PySem.EqNone.ne_none_int (fin_bl I q (by simp))
    | str j=>obtain ⟨t',rfl⟩:=ry; exact PySem.EqNone.ne_none_str (fin_bl I q (by simp))
    | _=>exact absurd (show false=true from hs) Bool.false_ne_true
  | bl i =>
    cases rx
    cases y with
    | non=>cases ry; exact PySem.EqNone.ne_bool_none (fin_bl I q (by simp))
    | bl j=>cases ry; exact ne_bool (fin_bl I q (congrArg not dec_bl))
    | str j=>obtain ⟨t',rfl⟩:=ry; exact PySem.EqMixed.ne_bool_str (fin_bl I q (by simp))
    | _=>exact absurd (show false=true from hs) Bool.false_ne_true
  | int i =>
    obtain ⟨t,rfl⟩:=rx
    cases y with
    | non=>cases ry; exact PySem.EqNone.ne_int_none (fin_bl I q (by simp))
    | int j=>obtain ⟨t',rfl⟩:=ry; exact ne_int (fin_bl I q (congrArg not dec_int))
    | str j=>obtain ⟨t',rfl⟩:=ry; exact PySem.EqMixed.ne_int_str (fin_bl I q (by simp))
    | _=>exact absurd (show false=true from hs) Bool.false_ne_true
  | str i =>
    obtain ⟨t,rfl⟩:=rx
    cases y with
    | non=>cases ry; exact PySem.EqNone.ne_str_none (fin_bl I q (by simp))
    | bl j=>cases ry; exact PySem.EqMixed.ne_str_bool (fin_bl I q (by simp))
    | int j=>obtain ⟨t',rfl⟩:=ry; exact PySem.EqMixed.ne_str_int (fin_bl I q (by simp))
    | str j=>obtain ⟨t',rfl⟩:=ry; exact ne_str (fin_bl I q (congrArg not dec_str))
    | _=>exact absurd (show false=true from hs) Bool.false_ne_true
  | byt i =>
    obtain ⟨t,rfl⟩:=rx
    cases y with
    | byt j=>obtain ⟨t',rfl⟩:=ry; exact PySem.W.ne_bytes (fin_bl I q (congrArg not dec_byt))
    | _=>exact absurd (show false=true from hs) Bool.false_ne_true
  | _=>cases y <;> exact absurd (show false=true from hs) Bool.false_ne_true
theorem op_lt:OpR X (compareOp .Lt) (rI0 fun i j=>.bl (decide (i < j))):=opB0 fun _ _ _ _ _ _ _ q=>lt_int q
theorem op_gt:OpR X (compareOp .Gt) (rI0 fun i j=>.bl (decide (j < i))):=opB0 fun _ _ _ _ _ _ _ q=>gt_int q
theorem op_isN:OpR X (compareOp .Is) (fun x y H Q=>y=.non∧Q (.bl (decide (x=.non))) H):=by
  intro pins s σ H x y v u Q I rx ry h
  obtain ⟨rfl,q⟩:=h
  cases ry
  refine is_none_gen (fin_bl I q ?_)
  cases x <;> first
    | (cases rx; rfl)
    | (obtain ⟨t,rfl⟩:=rx; rfl)
theorem nomark (b:Expr) {op:CmpOp} (h:op≠.In:=by decide) (h2:op≠.NotIn:=by decide):behindInMarks op b=false:=by
  have e1:(op == CmpOp.In)=false:=by cases op <;> first | rfl | exact absurd rfl h
  have e2:(op == CmpOp.NotIn)=false:=by cases op <;> first | rfl | exact absurd rfl h2
  cases b <;> simp [behindInMarks,e1,e2]
theorem pe_cmpR {op:CmpOp} {r:R2} (ho:OpR X (compareOp op) r) (ha:PE X a ta) (hb:PE X b tb) (hm:behindInMarks op b=false):PE X (.Compare a [op] [b] pos) (tOp r ta tb):=by
  intro pins s σ H Q I h
  exact wpAny_Compare1 (binT ha hb I h fun v u s2 x y H2 I2 rx ry q=>ho pins s2 σ H2 x y v u Q I2 rx ry q) hm
noncomputable def tTest (t:TE):TT:=fun σ H Q=>t σ H fun x H'=>∃ k,x=.bl k∧Q k H'
theorem pt_cmpR {op:CmpOp} {r:R2} (ho:OpR X (compareOp op) r) (ha:PE X a ta) (hb:PE X b tb) (hm:behindInMarks op b=false):PT X (.Compare a [op] [b] pos) (tTest (tOp r ta tb)):=by
  intro pins s σ H Q I h
  refine wpAny_isTrue_Compare1 (thn (ha pins s σ H _ I h) fun v s1 ⟨x,H1,I1,r1,q1⟩=>thn (hb pins s1 σ H1 _ I1 q1) fun u s2 ⟨y,H2,I2,r2,q2⟩ =>
    thn (ho pins s2 σ H2 x y v u _ I2 r1 r2 q2) fun c s3 ⟨z,H3,I3,r3,k,e,q3⟩=>?_) hm
  subst e
  cases r3
  exact wpAny_truthy_bool ⟨H3,I3,q3⟩
theorem line63:(sizeLine:Nat) < 2 ^ 63:=by rw [sizeLine_eq]; decide
theorem op_add_str:OpR X (binaryOp .Add) (fun x y H Q=>∃ i j,x=.str i∧y=.str j∧i.length+j.length≤sizeLine∧Q (.str (i++j)) H):=by
  intro pins s σ H x y v u Q I rx ry h
  obtain ⟨i,j,rfl,rfl,hz,q⟩:=h
  obtain ⟨t,rfl⟩:=rx
  obtain ⟨t',rfl⟩:=ry
  exact add_str (fun t' tk=>⟨.str (i++j),H,I.tok _,⟨_,rfl⟩,q⟩) hz
theorem vals1 {x:V} {us:List Value} (r:Vals [x] us):∃ u,us=[u]∧RelV x u:=by
  cases r with
  | cons r1 r2=>cases r2; exact ⟨_,rfl,r1⟩
theorem vals2 {x y:V} {us:List Value} (r:Vals [x,y] us):∃ u w',us=[u,w']∧RelV x u∧RelV y w':=by
  cases r with
  | cons r1 r2 =>
    cases r2 with
    | cons r3 r4=>cases r4; exact ⟨_,_,rfl,r1,r3⟩
theorem call_int1:CallR X (.type "int") (fun xs H Q=>(∃ i,xs=[.int i]∧Q (.int i) H)∨∃ k,xs=[.bl k]∧Q (.int (if k then 1 else 0)) H):=by
  intro pins s σ H xs us Q I r h
  rcases h with ⟨i,rfl,q⟩ | ⟨k,rfl,q⟩
  · obtain ⟨u,rfl,t,rfl⟩:=vals1 r
    exact call_int_int ⟨.int i,H,I,⟨_,rfl⟩,q⟩
  · obtain ⟨u,rfl,r1⟩:=vals1 r
    cases r1
    exact call_int_bool ⟨.int (if k then 1 else 0),H,I.tok _,⟨_,rfl⟩,q⟩
end
end L2
namespace L2
open PySem PySem.Spec PyProof.Rows
structure ObjM (h:Heap) (x dx C:Addr) (mA:Str→Option Value):Prop where
  obj:h.get? x=some (PySem.W.instObj C dx)
  ns:h.Ns1 dx mA
  ne:dx≠x
theorem lookIn_ns {h:Heap} {dx:Addr} {mA:Str→Option Value} (n:h.Ns1 dx mA):∃ od,h.get? dx=some od∧∀ name,PySem.W.lookIn name od=some (mA name):=by
  obtain ⟨o,es,ep,ho,hd,hk,_,hm⟩:=n
  refine ⟨o,ho,fun name=>?_⟩
  have e:=hm name
  unfold nsFind findBy at e
  rw [← Array.find?_toList] at e
  unfold PySem.W.lookIn
  rw [hd]
  dsimp only
  split
  · rename_i y q
    rw [q] at e
    exact congrArg some e
  · rename_i q
    rw [q] at e
    have a:es.toList.any (·.refKey)=false:=by
      rw [List.any_eq_false]
      intro y hy
      obtain ⟨z,t,hkey⟩:=hk y (Array.mem_toList_iff.mp hy)
      simp [DictEntry.refKey,hkey]
    have a':¬ es.toList.any (·.refKey)=true:=by rw [a]; exact Bool.false_ne_true
    rw [if_neg a']
    exact congrArg some e
theorem ObjM.look {h:Heap} {x dx C:Addr} {mA:Str→Option Value} (I:ObjM h x dx C mA):∃ od,PySem.W.InstAt h x (PySem.W.instObj C dx) C (some od)∧∀ name,PySem.W.lookIn name od=some (mA name) :=
  let ⟨od,ho,hl⟩:=lookIn_ns I.ns
  ⟨od,⟨I.obj,rfl,rfl,ho⟩,hl⟩
section
variable {prog:Program} {w:World} {A:Around} {E:Value→Shared→Prop} {s:Shared} {K:PySem.W.Frag} {x dx C f:Addr} {mA:Str→Option Value} {name:Str} {v:Value}
end
theorem RelO.some_of {v:V} {o:Option Value} (r:RelO (some v) o):∃ u,o=some u∧RelV v u:=by
  cases o with
  | none=>exact (show False from r).elim
  | some u=>exact ⟨u,rfl,r⟩
section
variable {P:Program} {w:World} {H H':Hp} {h h':Heap} {a C dx:Addr} {fs fs':List (Str × V)}
theorem ins_get (hok:HOk P w H h) (e:H a=some (.ins C dx fs)):∃ mA,ObjM h a dx C mA∧(∀ f,RelO (fs.lookup f) (mA f))∧PySem.Within mA (fs.map (·.1))∧fs.length≤1000∧H dx=some (.own a):=by
  obtain ⟨d,z,ne,ob,mA,n,r,q⟩:=(show ObjOk P w H h a (.ins C dx fs) from hok a _ e)
  exact ⟨mA,⟨ob,n,ne⟩,r,q,z,d⟩
end
structure Cls (K:PySem.W.Frag) (C:Addr):Prop where
  pg:PySem.W.plainGet K C Str.empty=true
  hd:PySem.W.hasDictIn K C=true
  po:PySem.W.plainOver K C=true
  sa:PySem.W.findIn K (.ref C) "__setattr__" = some (some (.builtin "object.__setattr__"))
theorem Cls.get {K:PySem.W.Frag} {C:Addr} (c:Cls K C) (f:Str):PySem.W.plainGet K C f=true:=c.pg
structure Con (K:PySem.W.Frag) (C:Addr) (f:Str) (v:V) (u:Value):Prop where
  at_:PySem.W.findIn K (.ref C) f=some (some u)
  rel:RelV v u
  get:PySem.W.specialIn K u "__get__" = some none
  cp:PySem.W.copiedNames.contains f=false
structure Meth (K:PySem.W.Frag) (C:Addr) (m:Str) (f:Addr):Prop where
  at_:PySem.W.findIn K (.ref C) m=some (some (.ref f))
  fn:PySem.W.isFn K (.ref f)=true
  kp:PySem.W.keepIn K (.ref f)=true
section
variable {X:Cx} {pins:List (Addr × Obj)} {σ:St} {H:Hp} {s:Shared} {a C dx:Addr} {fs:List (Str × V)} {f:Str} {v:V} {A:Around} {E:Value→Shared→Prop}
end
section
variable {X:Cx} {o e value:Expr} {f:Str} {pos pos' tpos:Pos} {ta tv:TE}
end
section
variable {X:Cx} {pins:List (Addr × Obj)} {σ:St} {H:Hp} {s:Shared} {A:Around} {E:Value→Shared→Prop} {Q:Value→Shared→Prop} {c:Value} {b:Bool}
inductive TyOf (K:PySem.W.Frag) (H:Hp):V→Value→Prop where
  | non:TyOf K H .non (.type "NoneType")
  | bl (x:Bool):TyOf K H (.bl x) (.type "bool")
  | int (i:Int):TyOf K H (.int i) (.type "int")
  | str (x:Str):TyOf K H (.str x) (.type "str")
  | flt (x:UInt64):TyOf K H (.flt x) (.type "float")
  | lst {a:Addr} {xs:List V} (e:H a=some (.lst xs)):TyOf K H (.ref a) (.type "list")
  | frz {a:Addr} {o:Obj} {xs:List V} (e:H a=some (.frz o (.lst xs))):TyOf K H (.ref a) (.type "list")
  | tup {a:Addr} {xs:List V} (e:H a=some (.tup xs)):TyOf K H (.ref a) (.type "tuple")
  | dK {a:Addr} {kvs:List (Key × V)} (e:H a=some (.dK kvs)):TyOf K H (.ref a) (.type "dict")
  | dT {a:Addr} {kvs:List (List Key × V)} (e:H a=some (.dT kvs)):TyOf K H (.ref a) (.type "dict")
  | ins {a C dx:Addr} {fs:List (Str × V)} (e:H a=some (.ins C dx fs)) (cl:Cls K C) (ha:PySem.W.findIn K (.ref C) "__class__" = some (some (.builtin "object.__class__")))
      (hn:PySem.W.specialIn K (.builtin "object.__class__") "__get__" = some (some (.builtin "getset_descriptor.__get__"))) (htk:PySem.W.takesIn K (.builtin "object.__class__")=some true)
      (hm:PySem.W.mroIn K C (.type "object")=some true):TyOf K H (.ref a) (.ref C)
theorem isinst_ok {x:V} {u t:Value} (I:Inv X pins σ H s) (rx:RelV x u) (ty:TyOf X.K H x t) (e:PySem.W.kitOne X.K t c=some b) (h:∀ tk,Q (.bool b) { s with toks:=tk }) :
    wpAny (model X.prog X.w) A (call (.builtin "isinstance") [u,c]) Q E s:=by
  cases ty with
  | non=>cases (show u=Value.none from rx); exact PySem.W.kia_one PySem.W.kitx_none I.kIn True.intro e (fun z=>nomatch z) h
  | bl y=>cases (show u=Value.bool y from rx); exact PySem.W.kia_one PySem.W.kitx_bool I.kIn True.intro e (fun z=>nomatch z) h
  | int i=>obtain ⟨t,q⟩:=(show ∃ t,u=Value.int i t from rx); cases q; exact PySem.W.kia_one PySem.W.kitx_int I.kIn True.intro e (fun z=>nomatch z) h
  | str y=>obtain ⟨t,q⟩:=(show ∃ t,u=Value.str y t from rx); cases q; exact PySem.W.kia_one PySem.W.kitx_str I.kIn True.intro e (fun z=>nomatch z) h
  | flt y=>obtain ⟨t,q⟩:=(show ∃ t,u=Value.float y t from rx); cases q; exact PySem.W.kia_one PySem.W.kitx_float I.kIn True.intro e (fun z=>nomatch z) h
  | @lst a xs ea =>
    cases (show u=Value.ref a from rx)
    obtain ⟨_,_,n,_,h1⟩:=(show ObjOk X.prog X.w H s.heap a (.lst xs) from I.hok a _ ea)
    exact PySem.W.kia_one PySem.W.kitx_list I.kIn ⟨_,h1,rfl⟩ e (fun z=>nomatch z) h
  | @frz a ob xs ea =>
    cases (show u=Value.ref a from rx)
    obtain ⟨_,_,_,n,_,h1⟩:=(show ObjOk X.prog X.w H s.heap a (.frz ob (.lst xs)) from I.hok a _ ea)
    exact PySem.W.kia_one PySem.W.kitx_list I.kIn ⟨_,h1,rfl⟩ e (fun z=>nomatch z) h
  | @tup a xs ea =>
    cases (show u=Value.ref a from rx)
    obtain ⟨_,_,_,p⟩:=(show ObjOk X.prog X.w H s.heap a (.tup xs) from I.hok a _ ea)
    obtain ⟨o,h1,h2,_⟩:=p
    exact PySem.W.kia_one PySem.W.kitx_tuple I.kIn ⟨o,h1,h2⟩ e (fun z=>nomatch z) h
  | @dK a kvs ea =>
    cases (show u=Value.ref a from rx)
    obtain ⟨_,_,vs,_,p⟩:=(show ObjOk X.prog X.w H s.heap a (.dK kvs) from I.hok a _ ea)
    obtain ⟨o,es,ep,h1,h2,_⟩:=p
    exact PySem.W.kia_one PySem.W.kitx_dict I.kIn ⟨o,h1,h2.1⟩ e (fun z=>nomatch z) h
  | @dT a kvs ea =>
    cases (show u=Value.ref a from rx)
    obtain ⟨_,_,xs,_,o,es,ep,h1,h2,_⟩:=(show ObjOk X.prog X.w H s.heap a (.dT kvs) from I.hok a _ ea)
    exact PySem.W.kia_one PySem.W.kitx_dict I.kIn ⟨o,h1,h2.1⟩ e (fun z=>nomatch z) h
  | @ins a C dx fs ea cl ha hn htk hm =>
    cases (show u=Value.ref a from rx)
    obtain ⟨mA,O,_⟩:=ins_get I.hok ea
    obtain ⟨od,J,_⟩:=O.look
    exact PySem.W.kia_one (PySem.W.kitx_own (cl.get _) cl.hd ha hn htk hm) I.kIn J e (fun z=>nomatch z) h
end
end L2
namespace L2
open PySem PySem.Spec PyProof.Rows
structure Room (k:Nat) (A:Around):Prop where
  hd:A.handled=none
  dp:A.depth+3 * k+5 < recursionLimit
  un:A.units+16 * k+200 < cLine
theorem Room.mono {j k:Nat} {A:Around} (r:Room k A) (h:j≤k):Room j A:=⟨r.hd,by have:=r.dp; omega,by have:=r.un; omega⟩
theorem Room.deeper {k:Nat} {A:Around} (r:Room (k+1) A) (env:Env):Room k (A.deeper env) :=
  ⟨r.hd,by have:=r.dp; show A.depth+1+3 * k+5 < _; omega,by have:=r.un; show A.units+3+16 * k+200 < _; omega⟩
theorem Room.depth {k:Nat} {A:Around} (r:Room k A):A.depth < recursionLimit:=by have:=r.dp; omega
theorem Room.units {k:Nat} {A:Around} (r:Room k A):A.units+64 < cLine:=by have:=r.un; omega
theorem Room.units0 {k:Nat} {A:Around} (r:Room k A):A.units < cLine:=by have:=r.un; omega
noncomputable def tNil:TA:=fun _ H Q=>Q [] H
noncomputable def tCons (ta:TE) (tr:TA):TA:=fun σ H Q=>ta σ H fun x H1=>tr σ H1 fun xs H2=>Q (x :: xs) H2
section
variable {X:Cx} {e:Expr} {es:List Expr} {te:TE} {t:TA} {pos:Pos}
theorem pa_nil:PA X [] tNil:=fun _ _ _ _ H Q I h=>Calls.spliced_nil ⟨[],H,I,.nil,h⟩
theorem pa_cons (ha:PE X e te) (hr:PA X es t) (hs:starEach (e :: es) X.env=(false,eval e X.env) :: starEach es X.env:=by rfl):PA X (e :: es) (tCons te t):=by
  intro pos pins s σ H Q I h
  rw [hs]
  show wpAny _ _ (spliced ((false,eval e X.env) :: backTo pos (starEach es X.env))) _ _ s
  refine Calls.spliced_cons (thn (ha pins s σ H _ I h) fun u s1 ⟨x,H1,I1,r1,q1⟩=>?_)
  exact thn (hr pos pins s1 σ H1 _ I1 q1) fun us s2 ⟨xs,H2,I2,r2,q2⟩=>⟨x :: xs,H2,I2,.cons r1 r2,q2⟩
noncomputable def tTup (t:TA):TE:=fun σ H Q=>t σ H fun xs H1=>xs.length≤sizeLine∧∀ p,H1 p=none→Q (.ref p) (upd H1 p (.tup xs))
noncomputable def tLst (t:TA):TE:=fun σ H Q=>t σ H fun xs H1=>xs.length≤sizeLine∧∀ p,H1 p=none→Q (.ref p) (upd H1 p (.lst xs))
theorem pe_tup {x1} (h:PA X es t):PE X (.Tuple es x1 pos) (tTup t):=by
  intro pins s σ H Q I hq
  refine wpAny_Tuple_spliced (thn (h pos pins s σ H _ I hq) fun us s1 ⟨xs,H1,I1,r,z,q⟩=>⟨by rw [← r.length]; exact z,?_⟩)
  have hf:H1 s1.heap.objs.size=none:=I1.hok.fresh (Nat.le_refl _)
  refine ⟨.ref s1.heap.objs.size,upd H1 s1.heap.objs.size (.tup xs),I1.laid (t':=s1.toks) (fun b u e=>Heap.get?_push_of_some _ e) (Nat.le_refl _) ?_,rfl,q _ hf⟩
  exact ⟨z,us,r,⟨_,Heap.get?_push_size _ rfl,rfl,_,rfl⟩⟩
theorem pe_lst (h:PA X es t):PE X (.List es pos) (tLst t):=by
  intro pins s σ H Q I hq
  refine wpAny_List_spliced (thn (h pos pins s σ H _ I hq) fun us s1 ⟨xs,H1,I1,r,z,q⟩=>⟨by rw [← r.length]; exact z,?_⟩)
  have hf:H1 s1.heap.objs.size=none:=I1.hok.fresh (Nat.le_refl _)
  refine ⟨.ref s1.heap.objs.size,upd H1 s1.heap.objs.size (.lst xs),I1.laid (t':=s1.toks) (fun b u e=>Heap.get?_push_of_some _ e) (Nat.le_refl _) ?_,rfl,q _ hf⟩
  exact ⟨z,us,0,r,Heap.get?_push_size _ rfl⟩
end
noncomputable abbrev Sp:=List V→Hp→VK→XK→Prop
noncomputable abbrev CXT:=List Env→Hp→Shared→XK→Value→Shared→Prop
structure Env0 (P:Program) (w:World) (K:PySem.W.Frag) (mg:Str→Option Value) (base:Heap) (A:Around) (outer:List Env) (s:Shared) (H:Hp):Prop where
  frames:A.frames=some outer
  mod:Mod K mg base
  bs:∀ b o,base.get? b=some o→s.heap.get? b=some o∧H b=none
  bsz:base.objs.size≤s.heap.objs.size
  funs:s.heap.FunFrames base outer
  frf:∀ b∈frs outer,H b=none
  hok:HOk P w H s.heap
  bare:AllBare s.gens
noncomputable def CE (outer:List Env) (P:Program) (w:World) (H:Hp) (s:Shared) (Q:VK) (u:Value) (s':Shared):Prop :=
  ∃ v H',s'.os=s.os∧AllBare s'.gens∧Un (frs outer) [] H H' s.heap s'.heap∧HOk P w H' s'.heap∧RelV v u∧Q v H'
noncomputable def CR (CX:CXT) (outer:List Env) (P:Program) (w:World) (H:Hp) (s:Shared) (Q:VK) (E:XK) (r:Result) (s':Shared):Prop :=
  match r with
  | .ok (.ret u)=>CE outer P w H s Q u s'
  | .ok _=>False
  | .error e=>CX outer H s E e s'
structure FnOk (P:Program) (w:World) (K:PySem.W.Frag) (mg:Str→Option Value) (base:Heap) (CX:CXT) (k:Nat) (f:Addr) (fd:FuncData) (ps:List Str) (sp:Sp):Prop where
  len:∀ vs H Q E,sp vs H Q E→vs.length=ps.length
  run:∀ (A:Around) (outer:List Env) (s:Shared) (H:Hp) (args:Args) (us:List Value) (vs:List V) (Q:VK) (E:XK),Room k A→Env0 P w K mg base A outer s H→BindsTo s fd args (ps.zip us)→Vals vs us→sp vs H Q E →
    codeAny (model P w) A (.call (.ref f) args) (CR CX outer P w H s Q E) s
theorem FnOk.mono {P:Program} {w:World} {K:PySem.W.Frag} {mg:Str→Option Value} {base:Heap} {CX:CXT} {j k:Nat} {f:Addr} {fd:FuncData} {ps:List Str} {sp:Sp} (F:FnOk P w K mg base CX j f fd ps sp) (h:j≤k) :
    FnOk P w K mg base CX k f fd ps sp:=⟨F.len,fun A outer s H args us vs Q E hr=>F.run A outer s H args us vs Q E (hr.mono h)⟩
section
variable {X:Cx} {pins:List (Addr × Obj)} {σ:St} {H:Hp} {s s':Shared}
theorem Inv.env0 (I:Inv X pins σ H s):Env0 X.prog X.w X.K X.mg X.base X.A X.stack s H :=
  ⟨I.ok.frames,I.ok.mod,I.bs,Nat.le_trans I.ok.bsz I.sz,I.stack,I.stkFree,I.hok,I.bare⟩
theorem Inv.after {Q:VK} {u:Value} (I:Inv X pins σ H s) (h:CE X.stack X.prog X.w H s Q u s'):EP X pins σ Q u s':=by
  obtain ⟨v,H',os,bare,un,hok,r,q⟩:=h
  obtain ⟨hh,g,d,t,os'⟩:=s'
  obtain rfl:os'=s.os:=os
  exact ⟨v,H',I.call (h':=hh) (g':=g) (d':=d) (t':=t) (ch:=[]) un hok bare (fun b z=>absurd z (by simp)),r,q⟩
end
noncomputable def tCall (sp:Sp) (dvs:List V) (E:XK) (t:TA):TE:=fun σ H Q=>t σ H fun vs H1=>sp (vs++dvs) H1 Q E
noncomputable def Binds (K:PySem.W.Frag) (fd:FuncData) (ps:List Str) (ds:List Value):Prop :=
  ∀ (s:Shared) (us:List Value),K.In s.heap→(us++ds).length=ps.length→BindsTo s fd ⟨us,[]⟩ (ps.zip (us++ds))
theorem Binds.all {K:PySem.W.Frag} {fd:FuncData} {ps:List Str} (h:∀ us:List Value,us.length=ps.length→bindArgs fd ⟨us,[]⟩=pure (ps.zip us)):Binds K fd ps []:=fun s us _ hl=>by
  rw [List.append_nil] at hl ⊢
  exact .of_eq (h us hl)
noncomputable def Passes (CX:CXT) (X:Cx) (E:XK):Prop:=∀ (pins:List (Addr × Obj)) (σ:St) (H:Hp) (s:Shared) (e:Value) (s':Shared),Inv X pins σ H s→CX X.stack H s E e s'→X.xe e s'
section
variable {X:Cx} {CX:CXT} {k:Nat} {f C:Addr} {fd:FuncData} {ps:List Str} {sp:Sp} {dvs:List V} {ds:List Value} {E:XK} {x m:Str} {p pos apos:Pos} {e o:Expr} {es:List Expr} {ta:TE} {t:TA}
theorem run_fn {pins:List (Addr × Obj)} {σ:St} {H:Hp} {s:Shared} {Q:VK} {us:List Value} {vs:List V} (F:FnOk X.prog X.w X.K X.mg X.base CX k f fd ps sp) (hr:Room k X.A) (hb:Binds X.K fd ps ds) (hd:Vals dvs ds) (hx:Passes CX X E)
    (I:Inv X pins σ H s) (r:Vals vs us) (h:sp (vs++dvs) H Q E):wpAny (model X.prog X.w) X.A (call (.ref f) us) (EP X pins σ Q) X.xe s:=by
  have r2:Vals (vs++dvs) (us++ds):=r.append hd
  have hl:(us++ds).length=ps.length:=by rw [← r2.length]; exact F.len _ _ _ _ h
  refine wpAny_call (codeAny_mono (F.run X.A X.stack s H ⟨us,[]⟩ (us++ds) (vs++dvs) Q E hr I.env0 (hb s us I.kIn hl) r2 h) fun r s' hq=>?_)
  cases r with
  | error e=>exact hx pins σ H s e s' I hq
  | ok fl =>
    cases fl with
    | ret u=>exact I.after hq
    | next=>exact False.elim hq
    | brk=>exact False.elim hq
    | cont=>exact False.elim hq
theorem pe_call (F:FnOk X.prog X.w X.K X.mg X.base CX k f fd ps sp) (hr:Room k X.A) (hg:Gl X x) (hm:X.mg x=some (.ref f)) (hk:PySem.W.keepIn X.K (.ref f)=true) (hb:Binds X.K fd ps ds) (hd:Vals dvs ds) (hx:Passes CX X E)
    (ha:PA X (e :: es) t) (hdb:(x == ("__debug__" : Str))=false:=by decide) (he:starEach (e :: es) X.env=(false,eval e X.env) :: starEach es X.env:=by rfl) (hpl:(backTo pos (starEach es X.env)).any (·.1)=false:=by rfl) :
    PE X (.Call (.Name x p) (e :: es) [] pos) (tCall sp dvs E t):=by
  intro pins s σ H Q I h
  refine wpAny_Call_Name_kw (ld_glob I hg hm ?_ hdb)
  refine PySem.W.callWith_K (h₀:=X.base) I.ok.mod.kin hk (thn (ha pos pins s σ H _ I h) fun us s1 ⟨vs,H1,I1,r,q⟩=>⟨I1.kIn,?_⟩) he hpl
  exact run_fn F hr hb hd hx I1 r q
structure Mk (K:PySem.W.Frag) (C f:Addr):Prop where
  makes:PySem.W.makesIn K C=true
  init:PySem.W.findIn K (.ref C) "__init__" = some (some (.ref f))
  fn:PySem.W.isFn K (.ref f)=true
  kp:PySem.W.keepIn K (.ref C)=true
end
noncomputable def PK (X:Cx) (kws:List Keyword) (t:TA):Prop :=
  ∀ (pos:Pos) (pins:List (Addr × Obj)) (s:Shared) (σ:St) (H:Hp) (Q:List V→Hp→Prop),Inv X pins σ H s→t σ H Q→wpAny (model X.prog X.w) X.A (evalAll ((backToKw pos (keywordEach kws X.env)).map (·.2))) (AP X pins σ Q) X.xe s
section
variable {X:Cx} {CX:CXT} {k:Nat} {f C:Addr} {fd:FuncData} {ps ks:List Str} {sp:Sp} {E:XK} {x m:Str} {p pos apos kpos:Pos} {e o:Expr} {es:List Expr} {kws:List Keyword} {te ta:TE} {t tk:TA} {nm:Option Str}
theorem pk_nil:PK X [] tNil:=fun _ _ _ _ H Q I h=>wpAny_evalAll_nil ⟨[],H,I,.nil,h⟩
theorem pk_cons (ha:PE X e te) (hr:PK X kws t):PK X (⟨nm,e,kpos⟩ :: kws) (tCons te t):=by
  intro pos pins s σ H Q I h
  show wpAny _ _ (evalAll ((do let v ← eval e X.env; standAt pos; pure v) :: (backToKw pos (keywordEach kws X.env)).map (·.2))) _ _ s
  refine wpAny_evalAll_cons (wpAny_bind (thn (ha pins s σ H _ I h) fun u s1 ⟨x,H1,I1,r1,q1⟩=>wpAny_bind (wpAny_standAt (wpAny_pure ?_))))
  exact thn (hr pos pins s1 σ H1 _ I1 q1) fun us s2 ⟨xs,H2,I2,r2,q2⟩=>⟨x :: xs,H2,I2,.cons r1 r2,q2⟩
structure KBinds (K:PySem.W.Frag) (fd:FuncData) (ps ks:List Str) (g:List Value→List Value→List Value) (gV:List V→List V→List V):Prop where
  to:∀ (s:Shared) (us ws:List Value),K.In s.heap→(g us ws).length=ps.length→BindsTo s fd ⟨us,ks.zip ws⟩ (ps.zip (g us ws))
  rel:∀ {vs:List V} {us:List Value} {zs:List V} {ws:List Value},Vals vs us→Vals zs ws→Vals (gV vs zs) (g us ws)
variable {g:List Value→List Value→List Value} {gV:List V→List V→List V}
end
structure FnScope (N P:List Str) (sc:Scope):Prop where
  kind:sc.kind=.function
  co:sc.isCoroutine=false
  gen:sc.isGenerator=false
  nd:N.Nodup
  pre:N.take P.length=P
  par:∀ x∈P,sc.names.lookup x=some .local∨sc.names.lookup x=some .cell
  nofree:∀ y∈sc.names,y.2≠.free
theorem bindL_out {kindOf:Str→Option NameKind} {x:Str}:∀ {binds:List (Str × Value)} {m:Str→Option Value},(∀ v,(x,v) ∉ binds)→bindL kindOf binds m x=m x
  | [],_,_=>rfl
  | (n,v) :: r,m,h=>by
    unfold bindL
    rw [bindL_out fun w hw=>h w (List.mem_cons_of_mem _ hw)]
    split
    · have:x≠n:=by rintro rfl; exact h v List.mem_cons_self
      simp [this]
    · rfl
theorem bindC_out {kindOf:Str→Option NameKind} {x:Str}:∀ {binds:List (Str × Value)} {m:Str→Option Value},(∀ v,(x,v) ∉ binds)→bindC kindOf binds m x=m x
  | [],_,_=>rfl
  | (n,v) :: r,m,h=>by
    unfold bindC
    rw [bindC_out fun w hw=>h w (List.mem_cons_of_mem _ hw)]
    split
    · rfl
    · have:x≠n:=by rintro rfl; exact h v List.mem_cons_self
      simp [this]
theorem bindL_get {kindOf:Str→Option NameKind} {x:Str} {v:Value}:∀ {P:List Str} {vs:List Value} {i:Nat} {m:Str→Option Value},P.Nodup→P[i]?=some x→vs[i]?=some v→kindOf x=some .local →
    bindL kindOf (P.zip vs) m x=some v
  | [],_,_,_,_,h,_,_=>by simp at h
  | _ :: _,[],_,_,_,_,h,_=>by simp at h
  | p :: P,w :: vs,0,m,nd,h1,h2,hk=>by
    simp at h1 h2; subst h1; subst h2
    show bindL kindOf ((p,w) :: P.zip vs) m p=_
    unfold bindL
    rw [bindL_out fun v hv=>(List.nodup_cons.mp nd).1 (List.of_mem_zip hv).1,if_pos hk]
    simp
  | p :: P,w :: vs,i+1,m,nd,h1,h2,hk=>by
    show bindL kindOf ((p,w) :: P.zip vs) m x=_
    unfold bindL
    exact bindL_get (i:=i) (List.nodup_cons.mp nd).2 (by simpa using h1) (by simpa using h2) hk
theorem bindC_get {kindOf:Str→Option NameKind} {x:Str} {v:Value}:∀ {P:List Str} {vs:List Value} {i:Nat} {m:Str→Option Value},P.Nodup→P[i]?=some x→vs[i]?=some v→kindOf x≠some .local →
    bindC kindOf (P.zip vs) m x=some v
  | [],_,_,_,_,h,_,_=>by simp at h
  | _ :: _,[],_,_,_,_,h,_=>by simp at h
  | p :: P,w :: vs,0,m,nd,h1,h2,hk=>by
    simp at h1 h2; subst h1; subst h2
    show bindC kindOf ((p,w) :: P.zip vs) m p=_
    unfold bindC
    rw [bindC_out fun v hv=>(List.nodup_cons.mp nd).1 (List.of_mem_zip hv).1,if_neg hk]
    simp
  | p :: P,w :: vs,i+1,m,nd,h1,h2,hk=>by
    show bindC kindOf ((p,w) :: P.zip vs) m x=_
    unfold bindC
    exact bindC_get (i:=i) (List.nodup_cons.mp nd).2 (by simpa using h1) (by simpa using h2) hk
noncomputable def start (N:List Str) (vs:List V):St:=vs.map some++List.replicate (N.length - vs.length) none
noncomputable def cxOf (CX:CXT) (P:Program) (w:World) (K:PySem.W.Frag) (mg:Str→Option Value) (base:Heap) (N:List Str) (qual:Str) (scope:Scope) (f:Addr) (cd:Value) (A:Around) (outer:List Env) (s:Shared) (H:Hp) (E:XK):Cx where
  prog:=P
  w:=w
  K:=K
  mg:=mg
  base:=base
  A:=A.deeper (envOfC qual scope s.heap.objs.size f cd)
  N:=N
  s₀:=s
  H₀:=H
  env:=envOfC qual scope s.heap.objs.size f cd
  outer:=outer
  stack:=envOfC qual scope s.heap.objs.size f cd :: outer
  ex:=[]
  calm:=true
  fn:=fun _=>true
  pn:=[]
  xe:=fun e s'=>wpAny (model P w) (A.deeper (envOfC qual scope s.heap.objs.size f cd)) (leaving (envOfC qual scope s.heap.objs.size f cd) e) (fun _ s''=>CX outer H s E e s'') (fun e' s''=>CX outer H s E e' s'') s'
theorem cell_has {sc:Scope} {n:Nat} {x:Str} (h:sc.names.lookup x=some .cell):∃ c,(cellsFrom n sc.names []).lookup x=some c:=by
  have q:=PySem.W.cellsFrom_some sc.names n [] (.inl h)
  exact Option.isSome_iff_exists.mp q
theorem inv_start {CX:CXT} {P:Program} {w:World} {K:PySem.W.Frag} {mg:Str→Option Value} {base:Heap} {N ps:List Str} {qual:Str} {scope:Scope} {f:Addr} {cd:Value} {A:Around} {outer:List Env} {s s1:Shared} {H:Hp} {E:XK} {us:List Value} {vs:List V}
    (S:FnScope N ps scope) (hd:A.handled=none) (e0:Env0 P w K mg base A outer s H) (hl:vs.length=ps.length) (r:Vals vs us)
    (x:InCallC s s.heap.objs.size (bindL (envOfC qual scope s.heap.objs.size f cd).kindOf (ps.zip us) fun _=>none) (cellsFrom (s.heap.objs.size+1) scope.names []) (bindC (envOfC qual scope s.heap.objs.size f cd).kindOf (ps.zip us) fun _=>none) s1) :
    Inv (cxOf CX P w K mg base N qual scope f cd A outer s H E) [] (start N vs) H s1:=by
  have hpl:ps.length≤N.length:=by have:=congrArg List.length S.pre; rw [List.length_take] at this; omega
  obtain ⟨h1,tk,rfl,hk⟩:=x.done
  have noA:∀ b:Addr,b ∉ (cxOf CX P w K mg base N qual scope f cd A outer s H E).ex:=fun b z=>absurd (show b∈([]:List Addr) from z) (by simp)
  refine ⟨⟨e0.mod,S.kind,rfl,rfl,Nat.le_refl _,fun y z c h1 h2=>?_,fun y hy=>?_,fun y c _ h=>?_,fun _=>hd,Around.frames_deeper e0.frames,.inr ⟨rfl,rfl⟩,fun b z=>absurd z (noA b),e0.bs,e0.bsz,fun b _ _=>noA b,fun b z=>absurd z (noA b),e0.funs,e0.frf⟩,
    rfl,e0.bare,Un.kept hk,⟨_,x.toInCall.ns,fun i y v h1 h2 h3=>?_⟩,fun y c h=>⟨_,x.cell y c h⟩,e0.hok.fresh (Nat.le_refl _),fun y c h=>?_,fun p hp=>absurd (show p∈([]:List (Addr × Obj)) from hp) (by simp),e0.hok.kept hk,?_⟩
  · exact name_of_addr x.apart (PySem.mem_of_lookup h1) (PySem.mem_of_lookup h2)
  · have hy:scope.names.lookup y=some .cell∨scope.names.lookup y=some .free:=hy
    rcases hy with hy | hy
    · exact cell_has hy
    · exact absurd rfl (S.nofree _ (PySem.mem_of_lookup hy))
  · exact Nat.le_of_lt (x.above y c (PySem.mem_of_lookup h))
  · have hi:i < vs.length:=by
      unfold start at h2
      by_cases hi:i < vs.length
      · exact hi
      · rw [List.getElem?_append_right (by simpa using hi)] at h2
        rw [List.getElem?_replicate] at h2
        split at h2 <;> cases h2
    have ha:vs[i]?=some v:=by
      unfold start at h2
      rw [List.getElem?_append_left (by simpa using hi),List.getElem?_map] at h2
      cases e:vs[i]? with
      | none=>rw [e] at h2; cases h2
      | some a=>rw [e] at h2; cases h2; rfl
    obtain ⟨u,hu,rv⟩:=r.get ha
    have hp:ps[i]?=some y:=by
      rw [← S.pre,List.getElem?_take_of_lt (by omega)]; exact h1
    have ndP:ps.Nodup:=by rw [← S.pre]; exact S.nd.sublist (List.take_sublist _ _)
    refine ⟨u,rv,?_⟩
    rcases S.par y (List.mem_of_getElem? hp) with k | k
    · exact .inl ⟨k,bindL_get ndP hp hu k⟩
    · obtain ⟨c,e⟩:=cell_has (n:=s.heap.objs.size+1) k
      refine .inr ⟨.inl k,c,e,?_⟩
      have q:=x.cell y c e
      rw [bindC_get ndP hp hu (by show scope.names.lookup y≠_; rw [k]; decide)] at q
      exact q
  · exact e0.hok.fresh (Nat.le_of_lt (x.above y c (PySem.mem_of_lookup h)))
  · unfold start
    show _=N.length
    rw [List.length_append,List.length_map,List.length_replicate]
    omega
theorem fn_of {CX:CXT} {P:Program} {w:World} {K:PySem.W.Frag} {mg:Str→Option Value} {base:Heap} {k:Nat} {f:Addr} {name qual:Str} {params:Arguments} {body:List Stmt} {scope:Scope} {dV kV doc pm cdv ct oc:Value} {an od:Option Addr}
    {osl:Array (Option Value)} {N ps:List Str} {sp:Sp} (lk:K.lookup f=some ⟨oc,od,.func (PySem.W.fnOf name qual params body scope dV kV doc pm an cdv ct),osl⟩) (hcd:PySem.W.codeIn K cdv qual=true) (S:FnScope N ps scope)
    (len:∀ vs H Q E,sp vs H Q E→vs.length=ps.length)
    (hbody:∀ (A:Around) (outer:List Env) (s:Shared) (H:Hp) (vs:List V) (Q:VK) (E:XK),Room k (A.deeper (envOfC qual scope s.heap.objs.size f cdv))→sp vs H Q E →
      ∃ t,PSs (cxOf CX P w K mg base N qual scope f cdv A outer s H E) body t∧t { nx:=fun _ H'=>Q .non H',rt:=Q } (start N vs) H) :
    FnOk P w K mg base CX (k+1) f (PySem.W.fnOf name qual params body scope dV kV doc pm an cdv ct) ps sp:=by
  refine ⟨len,fun A outer s H args us vs Q E hr e0 hb r hsp=>?_⟩
  have hl:=len _ _ _ _ hsp
  have KX:K.In s.heap:=e0.mod.kin.keeps fun b o e=>(e0.bs b o e).1
  have lim:s.heap.NoLimit:=e0.mod.nolimit.keeps fun b o e=>(e0.bs b o e).1
  have hkind:∀ y∈ps.zip us,scope.names.lookup y.1=some .local∨(scope.names.lookup y.1=some .cell∧((cellsFrom (s.heap.objs.size+1) scope.names []).lookup y.1).isSome=true):=fun ⟨n,v⟩ hy=>by
    rcases S.par n (List.of_mem_zip hy).1 with q | q
    · exact .inl q
    · exact .inr ⟨q,PySem.W.cellsFrom_some _ _ _ (.inl q)⟩
  refine codeAny_call_function hr.depth (KX _ _ lk) rfl S.co S.gen rfl (PySem.W.codeRec_of KX hcd) (hb _ _ _ _ ?_)
  refine wpAny_newFunctionEnv_cells S.kind hkind fun env he s1 x=>?_
  subst he
  refine ⟨lim.keeps x.toInCall.keep,codeAny_func ?_⟩
  obtain ⟨t,ht,hq⟩:=hbody A outer s H vs Q E (hr.deeper _) hsp
  have I:Inv (cxOf CX P w K mg base N qual scope f cdv A outer s H E) [] (start N vs) H s1:=inv_start S hr.hd e0 hl r x
  refine wpAny_mono (ht [] s1 (start N vs) H _ I hq) (fun fl s' hs=>?_) fun e s' hs=>hs
  have fin:∀ {σ':St} {H':Hp} {v:V} {u:Value},Inv (cxOf CX P w K mg base N qual scope f cdv A outer s H E) [] σ' H' s'→RelV v u→Q v H'→CE outer P w H s Q u s' :=
    fun {σ' H' v u} J rv q=>⟨v,H',J.os,J.bare,J.base,J.hok,rv,q⟩
  cases fl with
  | ret u =>
    obtain ⟨v,σ',H',J,rv,q⟩:=hs
    exact fin J rv q
  | next =>
    obtain ⟨σ',H',J,q⟩:=hs
    exact fin (v:=V.non) (u:=Value.none) J rfl q
  | brk =>
    obtain ⟨_,_,_,q⟩:=hs
    exact False.elim q
  | cont =>
    obtain ⟨_,_,_,q⟩:=hs
    exact False.elim q
end L2
namespace L2
open PySem PySem.Spec PyProof.Rows
section
variable {X:Cx} {x:Str} {p pos:Pos} {e:Expr} {es:List Expr} {t:TA} {id T:String} {r:List V→Hp→VK→Prop}
noncomputable def tCB (r:List V→Hp→VK→Prop) (t:TA):TE:=fun σ H Q=>t σ H fun vs H1=>r vs H1 Q
theorem pe_callB (hc:CallR X (.builtin id) r) (hg:Gl X x) (hm:X.mg x=none) (hv:bootBuiltins x=some (.builtin id)) (ha:PA X (e :: es) t) (hn:x ≠ "__name__":=by decide) (hdb:(x == ("__debug__" : Str))=false:=by decide)
    (he:starEach (e :: es) X.env=(false,eval e X.env) :: starEach es X.env:=by rfl) (hpl:(backTo pos (starEach es X.env)).any (·.1)=false:=by rfl):PE X (.Call (.Name x p) (e :: es) [] pos) (tCB r t):=by
  intro pins s σ H Q I h
  refine wpAny_Call_Name_kw (ld_blt I hg hm hv ?_ hn hdb)
  exact PyProof.Rows.callWith_builtin1 (thn (ha pos pins s σ H _ I h) fun us s1 ⟨vs,H1,I1,r1,q1⟩=>hc pins s1 σ H1 vs us Q I1 r1 q1) he hpl
theorem pe_callTy (hc:CallR X (.type T) r) (hg:Gl X x) (hm:X.mg x=none) (hv:bootBuiltins x=some (.type T)) (ha:PA X (e :: es) t) (hn:x ≠ "__name__":=by decide) (hdb:(x == ("__debug__" : Str))=false:=by decide)
    (he:starEach (e :: es) X.env=(false,eval e X.env) :: starEach es X.env:=by rfl) (hpl:(backTo pos (starEach es X.env)).any (·.1)=false:=by rfl):PE X (.Call (.Name x p) (e :: es) [] pos) (tCB r t):=by
  intro pins s σ H Q I h
  refine wpAny_Call_Name_kw (ld_blt I hg hm hv ?_ hn hdb)
  exact PyProof.Rows.callWith_type1 (thn (ha pos pins s σ H _ I h) fun us s1 ⟨vs,H1,I1,r1,q1⟩=>hc pins s1 σ H1 vs us Q I1 r1 q1) he hpl
end
end L2
namespace HT
open PySem PyProof.Rows
section
open PySem.SeqAt
open PySem.AutoSeq1 (wpAny_loadPart')
open PySem.MeetsSeq PySem.MeetsSeq2 PySem.MeetsSeq3
end
section
variable {prog:Program} {w:World} {A:Around} {E:Value→Shared→Prop} {s:Shared}
theorem cat_tup {t b:Addr} {vs ws:List Value} {Q:Value→Shared→Prop} (ht:IsTup s.heap t vs.toArray) (hb:IsTup s.heap b ws.toArray) (hv:vs≠[])
    (h1:ws=[]→Q (.ref t) s) (h2:ws≠[]→Q (.ref s.heap.objs.size) { s with heap:=s.heap.push { cls:=.type "tuple",data:=.seq (vs++ws).toArray } })
    (hsz:vs.length+ws.length≤sizeLine):wpAny (model prog w) A (binaryOp .Add (.ref t) (.ref b)) Q E s:=by
  obtain ⟨⟨cls,dd,data,sl⟩,ho,hc,n,hd⟩:=id ht
  obtain ⟨⟨cls2,dd2,data2,sl2⟩,ho2,hc2,n2,hd2⟩:=id hb
  simp only at hc hd hc2 hd2
  subst hc hd hc2 hd2
  have e:vs.toArray++ws.toArray=(vs++ws).toArray:=by simp
  by_cases hw:ws=[]
  · exact concat_meets ⟨_,ho,rfl⟩ ⟨_,ho2,rfl⟩ noFill_tuple_add seq_tuple_add PySem.F.slot_tuple_add PySem.F.entry_tuple_add (PySem.F.args_tuple_add_2 _ _)
      (tuple_addW1 t b vs.toArray ws.toArray n n2 dd dd2 sl sl2 (by simpa using hv) (by simp [hw])) ⟨ho,ho2,h1 hw⟩
  · refine concat_meets ⟨_,ho,rfl⟩ ⟨_,ho2,rfl⟩ noFill_tuple_add seq_tuple_add PySem.F.slot_tuple_add PySem.F.entry_tuple_add (PySem.F.args_tuple_add_2 _ _)
      (tuple_addW2 t b vs.toArray ws.toArray n n2 dd dd2 sl sl2 (by simpa using hv) (by simpa using hw) (by rw [List.size_toArray,List.size_toArray]; exact hsz)) ⟨ho,ho2,?_⟩
    rw [e]
    exact h2 hw
noncomputable def sIx (n d:Nat):Option Int→Nat
  | none=>d
  | some v=>if v < 0 then (v+(n:Int)).toNat else min v.toNat n
theorem sIx_none (n d:Nat):sIx n d none=d:=rfl
theorem sIx_nat (n d k:Nat):sIx n d (some (k:Int))=min k n:=by
  show (if (k:Int) < 0 then ((k:Int)+(n:Int)).toNat else min (k:Int).toNat n)=min k n
  rw [if_neg (by omega),Int.toNat_natCast]
theorem sIx_le (n d:Nat) (hd:d≤n) (o:Option Int):sIx n d o≤n:=by
  cases o with
  | none=>exact hd
  | some v =>
    show (if v < 0 then (v+(n:Int)).toNat else min v.toNat n)≤n
    by_cases hv:v < 0
    · rw [if_pos hv]; omega
    · rw [if_neg hv]; exact Nat.min_le_right _ _
theorem clip_eq (v:Int) (n d:Nat):(if v < 0 then max (v+(n:Int)) 0 else min v (n:Int))=((sIx n d (some v):Nat):Int):=by
  show (if v < 0 then max (v+(n:Int)) 0 else min v (n:Int))=(((if v < 0 then (v+(n:Int)).toNat else min v.toNat n):Nat):Int)
  by_cases hv:v < 0
  · simp only [if_pos hv]; omega
  · simp only [if_neg hv]; omega
theorem adjust_gen (lo hi:Option Int) (n:Nat):Builtin.Slice.sliceAdjust lo hi 1 (n:Int)=(((sIx n 0 lo:Nat):Int),((sIx n n hi:Nat):Int)):=by
  have h1:¬ ((1:Int) < 0):=by omega
  unfold Builtin.Slice.sliceAdjust
  simp only [h1,if_false]
  refine Prod.ext ?_ ?_
  · cases lo with
    | none=>rfl
    | some v=>exact clip_eq v n 0
  · cases hi with
    | none=>rfl
    | some v=>exact clip_eq v n n
theorem places_gen (i j:Nat):Builtin.Slice.slicePlaces (i:Int) (j:Int) 1=j - i:=by
  unfold Builtin.Slice.slicePlaces
  have h1:(1:Int) > 0:=by omega
  simp only [h1,if_true,Int.ediv_one]
  split <;> omega
theorem slicePart_ {v:Value} {o:Option Int} {Q:Option Int→Shared→Prop} (p:IsPart v o) (h:Q o s):wpAny (model prog w) A (Builtin.Slice.slicePartIndex v) Q E s:=by
  cases p with
  | none=>exact slicePart_none h
  | int i t=>exact slicePart_int h
theorem sliceApplied_gen {sl:Addr} {vl vu:Value} {lo hi:Option Int} {n:Nat} {Q:Int × Int × Nat→Shared→Prop} (hs:s.heap.IsSliceOf sl vl vu .none) (pl:IsPart vl lo) (pu:IsPart vu hi)
    (h:Q (((sIx n 0 lo:Nat):Int),1,sIx n n hi - sIx n 0 lo) s):wpAny (model prog w) A (Builtin.Slice.sliceApplied (.ref sl) (pure (n:Int))) Q E s:=by
  obtain ⟨os,hos,hcs,hds⟩:=id hs
  unfold Builtin.Slice.sliceApplied Builtin.Slice.sliceFields
  refine wpAny_bind (wpAny_bind (wpAny_field hos hds (x:=vl) rfl (wpAny_bind (wpAny_field hos hds (x:=vu) rfl (wpAny_bind (wpAny_field hos hds (x:=.none) rfl (wpAny_pure ?_)))))))
  refine wpAny_bind (slicePart_none ?_)
  show wpAny _ _ (if ((1:Int) == 0)=true then _ else _) _ _ s
  rw [if_neg (by decide)]
  refine wpAny_bind (slicePart_ pl (wpAny_bind (slicePart_ pu (wpAny_bind (wpAny_pure ?_)))))
  show wpAny _ _ (match Builtin.Slice.sliceAdjust lo hi 1 (n:Int) with | (lo,hi)=>pure (lo,(1:Int),Builtin.Slice.slicePlaces lo hi 1)) _ _ s
  rw [adjust_gen lo hi n]
  show wpAny _ _ (pure (((sIx n 0 lo:Nat):Int),(1:Int),Builtin.Slice.slicePlaces ((sIx n 0 lo:Nat):Int) ((sIx n n hi:Nat):Int) 1)) _ _ s
  rw [places_gen]
  exact wpAny_pure h
theorem pick_gen (xs:Array Value) (i k:Nat):((List.range k).filterMap fun (m:Nat)=>xs[((i:Int)+(m:Int) * 1).toNat]?).toArray=((xs.toList.drop i).take k).toArray:=by
  have e:(fun (m:Nat)=>xs[((i:Int)+(m:Int) * 1).toNat]?)=fun m=>xs[i+m]?:=by
    funext m
    have:((i:Int)+(m:Int) * 1).toNat=i+m:=by omega
    rw [this]
  rw [e]
  have:=pick_run xs i k
  rw [List.filterMap_map] at this
  have e2:((fun x=>xs[x]?) ∘ fun x=>i+x)=fun m=>xs[i+m]?:=rfl
  rw [e2] at this
  rw [this]
theorem getItem_tuple_cut {t sl:Addr} {items:Array Value} {vl vu:Value} {lo hi:Option Int} {Q:Value→Shared→Prop} (ht:IsTup s.heap t items) (hs:s.heap.IsSliceOf sl vl vu .none) (pl:IsPart vl lo) (pu:IsPart vu hi)
    (hw:¬ (sIx items.size 0 lo=0∧sIx items.size items.size hi=items.size))
    (h:Q (.ref s.heap.objs.size) { s with heap:=s.heap.push { cls:=.type "tuple",data:=.seq ((items.toList.drop (sIx items.size 0 lo)).take (sIx items.size items.size hi - sIx items.size 0 lo)).toArray } })
    (hsz:items.size≤sizeLine):wpAny (model prog w) A (getItem (.ref t) (.ref sl)) Q E s:=by
  have htake:sizeOk (.seq ((items.toList.drop (sIx items.size 0 lo)).take (sIx items.size items.size hi - sIx items.size 0 lo)).toArray):=by
    show ((items.toList.drop (sIx items.size 0 lo)).take (sIx items.size items.size hi - sIx items.size 0 lo)).toArray.size≤sizeLine
    rw [List.size_toArray,List.length_take,List.length_drop,Array.length_toList]
    omega
  have hj:sIx items.size items.size hi≤items.size:=sIx_le _ _ (Nat.le_refl _) hi
  obtain ⟨os,hos,hcs,hds⟩:=id hs
  have hTs:s.TypeIs (.ref sl) "slice":=⟨os,hos,hcs⟩
  unfold getItem
  try with_reducible refine wpAny_holding ?_
  first | refine wpAny_bind (wpAny_pure ?_) | skip
  refine wpAny_bind (wpAny_sequenceKey ht.typeIs (by decide) ?_)
  refine wpAny_bind (wpAny_callSpecial?_slot (name:=Str.ofString "__getitem__") ht.typeIs PyProof.Rows.slot_tuple_getitem
    (wpAny_call_entry PyProof.Rows.slot_tuple_getitem ht.typeIs entry_tuple_getitem ?_ (args_tuple_getitem _ _)))
  show wpAny _ _ (Builtin.Tuple.tupleItemsOf (.ref t) >>= _) _ _ s
  refine wpAny_bind (tupleItemsOf_ ht ?_)
  refine wpAny_bind (wpAny_typeOf hTs ?_)
  rw [if_pos (by decide)]
  refine wpAny_bind (sliceApplied_gen hs pl pu ?_)
  have hno:¬ ((((sIx items.size 0 lo:Nat):Int) == 0 && (1:Int) == 1 && (sIx items.size items.size hi - sIx items.size 0 lo) == items.size)=true):=by
    intro q
    rw [Bool.and_eq_true,Bool.and_eq_true] at q
    have q1:((sIx items.size 0 lo:Nat):Int)=0:=eq_of_beq q.1.1
    have q2:sIx items.size items.size hi - sIx items.size 0 lo=items.size:=eq_of_beq q.2
    exact hw ⟨by omega,by omega⟩
  show wpAny _ _ (if (((sIx items.size 0 lo:Nat):Int) == 0 && (1:Int) == 1 && (sIx items.size items.size hi - sIx items.size 0 lo) == items.size)=true then _ else _) _ _ s
  rw [if_neg hno,pick_gen]
  first
    | exact wpAny_bind (m:=Builtin.Tuple.tupleExact _) (wpAny_newObj_type (wpAny_pure ⟨_,rfl,wpAny_pure h⟩) htake)
    | exact wpAny_bind (m:=Builtin.Tuple.tupleExact _) (wpAny_newObj_type (wpAny_bind (wpAny_pure (wpAny_pure ⟨_,rfl,wpAny_pure h⟩))) htake)
    | exact wpAny_bind (wpAny_bind (m:=Builtin.Tuple.tupleExact _) (wpAny_newObj_type (wpAny_pure (wpAny_pure ⟨_,rfl,wpAny_pure h⟩)) htake))
    | exact wpAny_bind (wpAny_bind (m:=Builtin.Tuple.tupleExact _) (wpAny_newObj_type (wpAny_pure ⟨_,rfl,wpAny_pure h⟩) htake))
end
end HT
namespace L2
open PySem PySem.Spec PyProof.Rows
noncomputable abbrev TO:=St→Hp→(Option Int→Hp→Prop)→Prop
noncomputable def PO (X:Cx) (e:Option Expr) (t:TO):Prop :=
  ∀ (pins:List (Addr × Obj)) (s:Shared) (σ:St) (H:Hp) (Q:Option Int→Hp→Prop),Inv X pins σ H s→t σ H Q →
    wpAny (model X.prog X.w) X.A (evalPart e X.env) (fun u s'=>∃ o H',Inv X pins σ H' s'∧IsPart u o∧Q o H') X.xe s
noncomputable def tNoPart:TO:=fun _ H Q=>Q none H
noncomputable def tPart (t:TE):TO:=fun σ H Q=>t σ H fun x H1=>∃ i,x=.int i∧Q (some i) H1
section
variable {X:Cx} {e:Expr} {te:TE} {lo hi:Option Expr} {tl th:TO} {pos p2:Pos}
theorem po_none:PO X none tNoPart:=by
  intro pins s σ H Q I h
  rw [evalPart_none]
  exact wpAny_pure ⟨none,H,I,.none,h⟩
theorem po_some (h:PE X e te):PO X (some e) (tPart te):=by
  intro pins s σ H Q I hw
  rw [evalPart_some]
  refine thn (h pins s σ H _ I hw) fun u s1 ⟨x,H1,I1,r1,q1⟩=>?_
  obtain ⟨i,rfl,q⟩:=q1
  obtain ⟨t,rfl⟩:=r1
  exact ⟨some i,H1,I1,.int i t,q⟩
noncomputable def SlR (X:Cx) (r:V→Option Int→Option Int→Hp→VK→Prop):Prop :=
  ∀ (pins:List (Addr × Obj)) (s:Shared) (σ:St) (H:Hp) (x:V) (v vl vu:Value) (lo hi:Option Int) (sl:Addr) (Q:VK),Inv X pins σ H s→RelV x v→s.heap.IsSliceOf sl vl vu .none→IsPart vl lo→IsPart vu hi→r x lo hi H Q →
    ∃ T id,typeLookup (.type T) "__getitem__" = pure (some (.builtin id))∧s.TypeIs v T∧wpAny (model X.prog X.w) X.A (getItem v (.ref sl)) (EP X pins σ Q) X.xe s
noncomputable def tSl (r:V→Option Int→Option Int→Hp→VK→Prop) (te:TE) (tl th:TO):TE:=fun σ H Q=>te σ H fun x H1=>tl σ H1 fun l H2=>th σ H2 fun u H3=>r x l u H3 Q
theorem pe_slice {r:V→Option Int→Option Int→Hp→VK→Prop} (hr:SlR X r) (he:PE X e te) (hl:PO X lo tl) (hu:PO X hi th):PE X (.Subscript e (.Slice lo hi none p2) pos) (tSl r te tl th):=by
  intro pins s σ H Q I h
  refine Subscript_ (thn (he pins s σ H _ I h) fun v s1 ⟨x,H1,I1,r1,q1⟩=>?_)
  refine wpAny_Slice (thn (hl pins s1 σ H1 _ I1 q1) fun vl s2 ⟨l,H2,I2,pl,q2⟩=>thn (hu pins s2 σ H2 _ I2 q2) fun vu s3 ⟨u,H3,I3,pu,q3⟩=>?_)
  rw [evalPart_none]
  refine wpAny_pure ?_
  have I4:Inv X pins σ H3 { s3 with heap:=s3.heap.push { cls:=.type "slice",data:=.fields #[vl,vu,.none] } }:=I3.kept (t':=s3.toks) fun b ob q=>Heap.get?_push_of_some _ q
  obtain ⟨T,id,hT,ht,hg⟩:=hr pins { s3 with heap:=s3.heap.push { cls:=.type "slice",data:=.fields #[vl,vu,.none] } } σ H3 x v vl vu l u s3.heap.objs.size Q I4 r1 (Heap.IsSliceOf.new ..) pl pu q3
  show wpAny (model X.prog X.w) X.A (subscriptTail e (.Slice lo hi none p2) v (.ref s3.heap.objs.size)) (EP X pins σ Q) X.xe { s3 with heap:=s3.heap.push { cls:=.type "slice",data:=.fields #[vl,vu,.none] } }
  exact tail_any (ops:=[.ref s3.heap.objs.size,v]) ht hT hg (by with_unfolding_all rfl)
noncomputable def cutV (xs:List V) (lo hi:Option Int):List V:=(xs.drop (HT.sIx xs.length 0 lo)).take (HT.sIx xs.length xs.length hi - HT.sIx xs.length 0 lo)
theorem cutV_length (xs:List V) (lo hi:Option Int):(cutV xs lo hi).length≤xs.length:=by
  unfold cutV
  rw [List.length_take,List.length_drop]
  omega
noncomputable def rSlT (K:PySem.W.Frag):V→Option Int→Option Int→Hp→VK→Prop:=fun x lo hi H Q=>∃ a xs,x=.ref a∧SqT K H a xs ∧
  ¬ (HT.sIx xs.length 0 lo=0∧HT.sIx xs.length xs.length hi=xs.length)∧∀ p,H p=none→Q (.ref p) (upd H p (.tup (cutV xs lo hi)))
theorem sl_tup:SlR X (rSlT X.K):=by
  intro pins s σ H x v vl vu lo hi sl Q I rx hs pl pu h
  obtain ⟨a,xs,rfl,hx,hw,q⟩:=h
  cases rx
  obtain ⟨its,r,ht,hz⟩:=I.tuple hx
  have hlen:its.toArray.size=xs.length:=by rw [List.size_toArray]; exact r.length.symm
  refine ⟨"tuple",_,PyProof.Rows.slot_tuple_getitem.lookup,ht.typeIs,?_⟩
  refine HT.getItem_tuple_cut ht hs pl pu (by rw [hlen]; exact hw) ?_ (by rw [hlen]; exact hz)
  rw [hlen]
  refine ⟨.ref s.heap.objs.size,_,I.laid (t':=s.toks) (o:=.tup (cutV xs lo hi)) (fun b ob q=>Heap.get?_push_of_some _ q) (Nat.le_refl _) ?_,rfl,q _ (I.hok.fresh (Nat.le_refl _))⟩
  exact ⟨Nat.le_trans (cutV_length xs lo hi) hz,_,(r.drop (HT.sIx xs.length 0 lo)).take (HT.sIx xs.length xs.length hi - HT.sIx xs.length 0 lo),IsTup.new _ _⟩
noncomputable def rCatT (K:PySem.W.Frag):R2:=fun x y H Q=>∃ a b xs ys,x=.ref a∧y=.ref b∧SqT K H a xs∧SqT K H b ys∧xs≠[]∧xs.length+ys.length≤sizeLine ∧
  (ys=[]→Q (.ref a) H)∧(ys≠[]→∀ p,H p=none→Q (.ref p) (upd H p (.tup (xs++ys))))
theorem Vals.nil_iff {xs:List V} {us:List Value} (r:Vals xs us):us=[]↔xs=[]:=by
  cases r with
  | nil=>simp
  | cons _ _=>simp
theorem op_catT:OpR X (binaryOp .Add) (rCatT X.K):=by
  intro pins s σ H x y v u Q I rx ry h
  obtain ⟨a,b,xs,ys,rfl,rfl,ha,hb,hx,hz,q1,q2⟩:=h
  cases rx
  cases ry
  obtain ⟨its,r1,p1,_⟩:=I.tuple ha
  obtain ⟨its2,r2,p2,_⟩:=I.tuple hb
  refine HT.cat_tup p1 p2 (fun z=>hx (r1.nil_iff.mp z)) (fun z=>⟨.ref a,H,I,rfl,q1 (r2.nil_iff.mp z)⟩) (fun z=>?_) (by rw [← r1.length,← r2.length]; exact hz)
  refine ⟨.ref s.heap.objs.size,_,I.laid (t':=s.toks) (o:=.tup (xs++ys)) (fun b ob q=>Heap.get?_push_of_some _ q) (Nat.le_refl _) ?_,rfl,q2 (fun w=>z (r2.nil_iff.mpr w)) _ (I.hok.fresh (Nat.le_refl _))⟩
  exact ⟨by rw [List.length_append]; exact hz,_,r1.append r2,IsTup.new _ _⟩
end
end L2
namespace L2
open PySem PySem.Spec PyProof.Rows
noncomputable def ixN (n:Nat) (i:Int):Option Nat:=if 0≤i then (if i < n then some i.toNat else none) else if -(n:Int)≤i then some (i+n).toNat else none
noncomputable def atI {α:Type} (xs:List α) (i:Int):Option α:=(ixN xs.length i).bind fun j=>xs[j]?
theorem ixN_seq {n:Nat} {i:Int} {j:Nat} (h:ixN n i=some j):seqIndex? i n=some j∧j < n∧-(n:Int)≤i∧i < n:=by
  unfold ixN at h
  by_cases h0:0≤i
  · rw [if_pos h0] at h
    by_cases h1:i < n
    · rw [if_pos h1] at h
      have e:i.toNat=j:=Option.some.inj h
      exact ⟨by rw [seqIndex_of h0 h1,e],by omega,by omega,h1⟩
    · rw [if_neg h1] at h; cases h
  · rw [if_neg h0] at h
    by_cases h1:-(n:Int)≤i
    · rw [if_pos h1] at h
      have e:(i+n).toNat=j:=Option.some.inj h
      exact ⟨by rw [seqIndex_neg (by omega) h1,e],by omega,h1,by omega⟩
    · rw [if_neg h1] at h; cases h
theorem atI_get {α:Type} {xs:List α} {i:Int} {v:α} (h:atI xs i=some v):∃ j,seqIndex? i xs.length=some j∧xs[j]?=some v∧j < xs.length∧-(xs.length:Int)≤i∧i < xs.length:=by
  unfold atI at h
  cases e:ixN xs.length i with
  | none=>rw [e] at h; cases h
  | some j =>
    rw [e] at h
    obtain ⟨h1,h2,h3,h4⟩:=ixN_seq e
    exact ⟨j,h1,h,h2,h3,h4⟩
theorem atI_nat {α:Type} {xs:List α} {j:Nat} {v:α} (h:xs[j]?=some v):atI xs (j:Int)=some v:=by
  have hj:j < xs.length:=(List.getElem?_eq_some_iff.mp h).1
  have e:ixN xs.length (j:Int)=some j:=by
    unfold ixN
    rw [if_pos (by omega),if_pos (by omega)]; simp
  unfold atI; rw [e]; exact h
noncomputable def PlainIx (b:Expr):Prop:=∀ o i,subscripted b false o i=operate [o,i] (getItem o i)
noncomputable def IxR (X:Cx) (r:R2):Prop :=
  ∀ (value slice:Expr) (pins:List (Addr × Obj)) (s:Shared) (σ:St) (H:Hp) (x y:V) (v u:Value) (Q:VK),Inv X pins σ H s→RelV x v→RelV y u→r x y H Q →
    subscripted slice false v u=operate [v,u] (getItem v u)→wpAny (model X.prog X.w) X.A (subscriptTail value slice v u) (EP X pins σ Q) X.xe s
noncomputable def MtR (X:Cx) (id:String) (r:V→List V→Hp→VK→Prop):Prop :=
  ∀ (pins:List (Addr × Obj)) (s:Shared) (σ:St) (H:Hp) (x:V) (xs:List V) (v:Value) (us:List Value) (Q:VK),Inv X pins σ H s→RelV x v→Vals xs us→r x xs H Q →
    wpAny (model X.prog X.w) X.A (call (.builtin id) (v :: us)) (EP X pins σ Q) X.xe s
section
variable {X:Cx} {a b:Expr} {ta tb:TE} {pos:Pos}
theorem pe_ix {r:R2} (hr:IxR X r) (ha:PE X a ta) (hb:PE X b tb) (hs:PlainIx b):PE X (.Subscript a b pos) (tOp r ta tb):=by
  intro pins s σ H Q I h
  exact Subscript_ (binT ha hb I h fun v u s2 x y H2 I2 rx ry q=>hr a b pins s2 σ H2 x y v u Q I2 rx ry q (hs _ _))
noncomputable def rIxL (K:PySem.W.Frag):R2:=fun x y H Q=>∃ p xs i v,x=.ref p∧y=.int i∧SqL K H p xs∧atI xs i=some v∧Q v H
noncomputable def rIxT (K:PySem.W.Frag):R2:=fun x y H Q=>∃ p xs i v,x=.ref p∧y=.int i∧SqT K H p xs∧atI xs i=some v∧Q v H
theorem ix_list:IxR X (rIxL X.K):=by
  intro value slice pins s σ H x y v u Q I rx ry h hs
  obtain ⟨p,xs,i,z,rfl,rfl,hq,he,q⟩:=h
  cases rx
  obtain ⟨t,rfl⟩:=ry
  obtain ⟨its,r,pl,hz⟩:=I.list hq
  obtain ⟨j,h1,h2,h3,h4,h5⟩:=atI_get he
  obtain ⟨w,ew,rw'⟩:=r.get h2
  have hl:=r.length
  have hn:=line63
  have fin:EP X pins σ Q w s:=⟨z,H,I,rw',q⟩
  by_cases h0:0≤i
  · have hj:i.toNat=j:=by
      rw [seqIndex_of h0 h5] at h1
      exact Option.some.inj h1
    exact item_listR pl.isList h0 (by omega) (by rw [hj]; simpa using ew) fin hs
  · have hj:(i+(its.toArray.size:Int)).toNat=j:=by
      rw [seqIndex_neg (by omega) h4] at h1
      rw [List.size_toArray,← hl]
      exact Option.some.inj h1
    exact subscriptTail_builtinR (x:=w) pl.isList.typeIs slot_list_getitem.lookup
      (wpAny_getItem_list_neg (Q:=fun r s'=>r=w∧EP X pins σ Q r s') pl.isList (by omega) (by rw [List.size_toArray] <;> omega) (by omega) (by rw [hj]; simpa using ew) ⟨rfl,fin⟩) hs
theorem ix_tup:IxR X (rIxT X.K):=by
  intro value slice pins s σ H x y v u Q I rx ry h hs
  obtain ⟨p,xs,i,z,rfl,rfl,hq,he,q⟩:=h
  cases rx
  obtain ⟨t,rfl⟩:=ry
  obtain ⟨its,r,pl,hz⟩:=I.tuple hq
  obtain ⟨j,h1,h2,h3,h4,h5⟩:=atI_get he
  obtain ⟨w,ew,rw'⟩:=r.get h2
  have hl:=r.length
  have hn:=line63
  have fin:EP X pins σ Q w s:=⟨z,H,I,rw',q⟩
  exact subscriptTail_builtinR (x:=w) pl.typeIs slot_tuple_getitem.lookup
    (getItem_tuple (j:=j) (Q:=fun r s'=>r=w∧EP X pins σ Q r s') pl (by omega) (by omega) (by rw [List.size_toArray,← hl]; exact h1) (by simpa using ew) ⟨rfl,fin⟩) hs
theorem mapSeq_set (its:List Value) (n j:Nat) (u:Value):Obj.mapSeq (·.setIfInBounds j u) { cls:=.type "list",data:=.seq its.toArray n }={ cls:=.type "list",data:=.seq (its.set j u).toArray n }:=by
  simp [Obj.mapSeq]
theorem Inv.lst {pins:List (Addr × Obj)} {σ:St} {H:Hp} {s:Shared} {p:Addr} {xs:List V} (I:Inv X pins σ H s) (h:H p=some (.lst xs)) :
    ∃ (its:List Value) (n:Nat),Vals xs its∧s.heap.get? p=some { cls:=.type "list",data:=.seq its.toArray n }∧xs.length≤sizeLine:=by
  obtain ⟨z,its,n,r,e⟩:=I.hok p _ h
  exact ⟨its,n,r,e,z⟩
theorem Inv.lstUpd {pins:List (Addr × Obj)} {σ:St} {H:Hp} {s:Shared} {p:Addr} {xs ys:List V} {its its':List Value} {n n':Nat} {f:Obj→Obj} (I:Inv X pins σ H s) (h:H p=some (.lst xs))
    (ho:s.heap.get? p=some { cls:=.type "list",data:=.seq its.toArray n }) (hf:f { cls:=.type "list",data:=.seq its.toArray n }={ cls:=.type "list",data:=.seq its'.toArray n' }) (r:Vals ys its') (hz:ys.length≤sizeLine) (t:Nat) :
    Inv X pins σ (upd H p (.lst ys)) { s with heap:=s.heap.update p f,toks:=t }:=by
  have e:(s.heap.update p f).get? p=some { cls:=.type "list",data:=.seq its'.toArray n' }:=by
    rw [Heap.get?_update_self f ho (by rw [hf] <;> rfl),hf]
  refine I.write (x:=p) (e:=p) (by rw [h]; trivial) (.inl rfl) (fun b u hb q=>(Heap.get?_update_other _ _ (Ne.symm hb)).trans q) ⟨_,e⟩ ?_
  exact ⟨hz,its',n',r,e⟩
noncomputable def rSetL:V→V→V→Hp→(Hp→Prop)→Prop:=fun o i v H Q=>∃ p xs k j,o=.ref p∧i=.int k∧H p=some (.lst xs)∧ixN xs.length k=some j∧Q (upd H p (.lst (xs.set j v)))
theorem set_list:PSet X rSetL:=by
  intro pins s σ H o i v ov iv u Q I ro ri rv h
  obtain ⟨p,xs,k,j,rfl,rfl,hp,hj,q⟩:=h
  cases ro
  obtain ⟨t,rfl⟩:=ri
  obtain ⟨its,n,r,ho,hz⟩:=I.lst hp
  obtain ⟨h1,h2,h3,h4⟩:=ixN_seq hj
  have hl:=r.length
  have hn:=line63
  have I':Inv X pins σ (upd H p (.lst (xs.set j v))) { s with heap:=s.heap.update p (Obj.mapSeq (·.setIfInBounds j u)) } :=
    I.lstUpd hp ho (mapSeq_set its n j u) (r.set rv j) (by rw [List.length_set]; exact hz) s.toks
  by_cases h0:0≤k
  · have hk:k.toNat=j:=by
      rw [seqIndex_of h0 h4] at h1
      exact Option.some.inj h1
    exact PySem.W.ki_setAt ho h0 (by omega) (by rw [List.size_toArray,← hl]; exact h4) (by rw [hk]; exact ⟨_,I',q⟩)
  · have hk:(k+(its.toArray.size:Int)).toNat=j:=by
      rw [seqIndex_neg (by omega) h3] at h1
      rw [List.size_toArray,← hl]
      exact Option.some.inj h1
    exact PySem.W.ki_setBack ho (by omega) (by rw [List.size_toArray,← hl]; exact h3) (by omega) (by rw [hk]; exact ⟨_,I',q⟩)
theorem slice_bounds (lo hi:Option Int) (n:Nat):(sliceBounds lo hi none n).1=((HT.sIx n 0 lo:Nat):Int)∧(sliceBounds lo hi none n).2.1=((HT.sIx n n hi:Nat):Int)∧(sliceBounds lo hi none n).2.2=1:=by
  refine ⟨?_,?_,rfl⟩
  · cases lo with
    | none=>simp [sliceBounds,HT.sIx]
    | some i =>
      simp only [sliceBounds,HT.sIx,Option.getD_none,show (1:Int) > 0 by decide,if_true]
      by_cases h:i < 0
      · simp only [h,if_true] <;> omega
      · simp only [h,if_false] <;> omega
  · cases hi with
    | none=>simp [sliceBounds,HT.sIx]
    | some i =>
      simp only [sliceBounds,HT.sIx,Option.getD_none,show (1:Int) > 0 by decide,if_true]
      by_cases h:i < 0
      · simp only [h,if_true] <;> omega
      · simp only [h,if_false] <;> omega
theorem slicePick_cut (its:List Value) (lo hi:Option Int):slicePick its.toArray lo hi none=((its.drop (HT.sIx its.length 0 lo)).take (HT.sIx its.length its.length hi - HT.sIx its.length 0 lo)).toArray:=by
  obtain ⟨h1,h2,h3⟩:=slice_bounds lo hi its.toArray.size
  unfold slicePick
  rw [h1,h2,h3]
  simp only [sliceRange_one,pick_run,List.size_toArray] <;> rfl
noncomputable def rSlL (K:PySem.W.Frag):V→Option Int→Option Int→Hp→VK→Prop:=fun x lo hi H Q=>∃ a xs,x=.ref a∧SqL K H a xs∧∀ p,H p=none→Q (.ref p) (upd H p (.lst (cutV xs lo hi)))
theorem sl_list:SlR X (rSlL X.K):=by
  intro pins s σ H x v vl vu lo hi sl Q I rx hs pl pu h
  obtain ⟨a,xs,rfl,hx,q⟩:=h
  cases rx
  obtain ⟨its,r,ht,hz⟩:=I.list hx
  have hlen:=r.length
  refine ⟨"list",_,slot_list_getitem.lookup,ht.isList.typeIs,?_⟩
  refine wpAny_getItem_list_slice ht.isList hs pl pu .none (by simp) ?_ (by rw [List.size_toArray] <;> omega)
  rw [slicePick_cut,← hlen]
  refine ⟨.ref s.heap.objs.size,_,I.laid (t':=s.toks) (o:=.lst (cutV xs lo hi)) (fun b ob q=>Heap.get?_push_of_some _ q) (Nat.le_refl _) ?_,rfl,q _ (I.hok.fresh (Nat.le_refl _))⟩
  exact ⟨Nat.le_trans (cutV_length xs lo hi) hz,_,0,(r.drop (HT.sIx xs.length 0 lo)).take (HT.sIx xs.length xs.length hi - HT.sIx xs.length 0 lo),Heap.get?_push_size _ rfl⟩
noncomputable def flatV:V→Bool
  | .non=>true
  | .bl _=>true
  | .int _=>true
  | .str _=>true
  | _=>false
noncomputable def eqV:V→V→Bool
  | .non,.non=>true
  | .bl a,.bl b=>a == b
  | .bl a,.int b=>(if a then 1 else 0) == b
  | .int a,.bl b=>a == (if b then 1 else 0)
  | .int a,.int b=>a == b
  | .str a,.str b=>a == b
  | _,_=>false
theorem eqAt_V {A:Around} {s:Shared} {y x:V} {u v:Value} (ry:RelV y u) (rx:RelV x v) (fy:flatV y=true) (fx:flatV x=true):SeqAt.EqAt A s u v (eqV y x):=by
  cases y with
  | non =>
    cases ry
    cases x with
    | non=>cases rx; exact SeqAt.EqAt.same _
    | bl b=>cases rx; exact SeqAt.EqAt.none_bool b
    | int b=>obtain ⟨t,rfl⟩:=rx; exact SeqAt.EqAt.none_int b t
    | str b=>obtain ⟨t,rfl⟩:=rx; exact SeqAt.EqAt.none_str b t
    | _=>exact absurd (show false=true from fx) Bool.false_ne_true
  | bl a =>
    cases ry
    cases x with
    | non=>cases rx; exact SeqAt.EqAt.bool_none a
    | bl b=>cases rx; exact SeqAt.EqAt.bool_bool a b
    | int b=>obtain ⟨t,rfl⟩:=rx; exact SeqAt.EqAt.bool_int a b t
    | str b=>obtain ⟨t,rfl⟩:=rx; exact SeqAt.EqAt.bool_str a b t
    | _=>exact absurd (show false=true from fx) Bool.false_ne_true
  | int a =>
    obtain ⟨t',rfl⟩:=ry
    cases x with
    | non=>cases rx; exact SeqAt.EqAt.int_none a t'
    | bl b=>cases rx; exact SeqAt.EqAt.int_bool a t' b
    | int b=>obtain ⟨t,rfl⟩:=rx; exact SeqAt.EqAt.int_int a t' b t
    | str b=>obtain ⟨t,rfl⟩:=rx; exact SeqAt.EqAt.int_str a t' b t
    | _=>exact absurd (show false=true from fx) Bool.false_ne_true
  | str a =>
    obtain ⟨t',rfl⟩:=ry
    cases x with
    | non=>cases rx; exact SeqAt.EqAt.str_none a t'
    | bl b=>cases rx; exact SeqAt.EqAt.str_bool a t' b
    | int b=>obtain ⟨t,rfl⟩:=rx; exact SeqAt.EqAt.str_int a t' b t
    | str b=>obtain ⟨t,rfl⟩:=rx; exact SeqAt.EqAt.str_str a t' b t
    | _=>exact absurd (show false=true from fx) Bool.false_ne_true
  | _=>exact absurd (show false=true from fy) Bool.false_ne_true
noncomputable def eqU (x:V) (u:Value):Bool:=match u with
  | .none=>eqV .non x
  | .bool b=>eqV (.bl b) x
  | .int i _=>eqV (.int i) x
  | .str z _=>eqV (.str z) x
  | _=>false
theorem eqU_of {x y:V} {u:Value} (r:RelV y u) (f:flatV y=true):eqU x u=eqV y x:=by
  cases y with
  | non=>cases r; rfl
  | bl b=>cases r; rfl
  | int i=>obtain ⟨t,rfl⟩:=r; rfl
  | str z=>obtain ⟨t,rfl⟩:=r; rfl
  | _=>exact absurd (show false=true from f) Bool.false_ne_true
theorem any_eqU {x:V}:∀ {xs:List V} {us:List Value},Vals xs us→xs.all flatV=true→us.any (eqU x)=xs.any fun y=>eqV y x
  | _,_,.nil,_=>rfl
  | y :: xs,u :: us,.cons r t,f=>by
    rw [List.all_cons,Bool.and_eq_true] at f
    rw [List.any_cons,List.any_cons,eqU_of r f.1,any_eqU t f.2]
theorem mem_eqAt {A:Around} {s:Shared} {x:V} {v:Value} (rx:RelV x v) (fx:flatV x=true):∀ {xs:List V} {us:List Value},Vals xs us→xs.all flatV=true→∀ u∈us,SeqAt.EqAt A s u v (eqU x u)
  | _,_,.nil,_=>fun u hu=>by cases hu
  | y :: xs,u :: us,.cons r t,f=>fun u' hu=>by
    rw [List.all_cons,Bool.and_eq_true] at f
    rcases List.mem_cons.mp hu with rfl | hu
    · rw [eqU_of r f.1]; exact eqAt_V r rx f.1 fx
    · exact mem_eqAt rx fx t f.2 u' hu
noncomputable def inV (x:V) (xs:List V):Bool:=xs.any fun y=>eqV y x
noncomputable def rIn (K:PySem.W.Frag) (neg:Bool):R2:=fun x y H Q=>∃ p xs,y=.ref p∧(SqL K H p xs∨SqT K H p xs)∧flatV x=true∧xs.all flatV=true∧Q (.bl (if neg then !inV x xs else inV x xs)) H
theorem op_in_seq:OpR X (compareOp .In) (rIn X.K false):=by
  intro pins s σ H x y v u Q I rx ry h
  obtain ⟨p,xs,rfl,hq,fx,fs,q⟩:=h
  cases ry
  rcases hq with hq | hq
  · obtain ⟨its,r,pl,hz⟩:=I.list hq
    refine SeqAt.in_listAt (eqU x) pl.isList (fun w hw=>mem_eqAt rx fx r fs w (by simpa using hw)) ⟨.bl _,H,I,rfl,?_⟩
    rw [show its.toArray.any (eqU x)=its.any (eqU x) by simp,any_eqU r fs]
    exact q
  · obtain ⟨its,r,pl,hz⟩:=I.tuple hq
    refine SeqAt.in_tupleAt (eqU x) pl (fun w hw=>mem_eqAt rx fx r fs w (by simpa using hw)) ⟨.bl _,H,I,rfl,?_⟩
    rw [show its.toArray.any (eqU x)=its.any (eqU x) by simp,any_eqU r fs]
    exact q
theorem op_notIn_seq:OpR X (compareOp .NotIn) (rIn X.K true):=by
  intro pins s σ H x y v u Q I rx ry h
  obtain ⟨p,xs,rfl,hq,fx,fs,q⟩:=h
  cases ry
  rcases hq with hq | hq
  · obtain ⟨its,r,pl,hz⟩:=I.list hq
    refine SeqAt.notIn_listAt (eqU x) pl.isList (fun w hw=>mem_eqAt rx fx r fs w (by simpa using hw)) ⟨.bl _,H,I,rfl,?_⟩
    rw [show its.toArray.any (eqU x)=its.any (eqU x) by simp,any_eqU r fs]
    exact q
  · obtain ⟨its,r,pl,hz⟩:=I.tuple hq
    refine SeqAt.notIn_tupleAt (eqU x) pl (fun w hw=>mem_eqAt rx fx r fs w (by simpa using hw)) ⟨.bl _,H,I,rfl,?_⟩
    rw [show its.toArray.any (eqU x)=its.any (eqU x) by simp,any_eqU r fs]
    exact q
theorem call_len_seq:CallR X (.builtin "len") (fun xs H Q=>∃ p ys,xs=[.ref p]∧(SqL X.K H p ys∨SqT X.K H p ys)∧Q (.int ys.length) H):=by
  intro pins s σ H xs us Q I r h
  obtain ⟨p,ys,rfl,hq,q⟩:=h
  obtain ⟨u,rfl,rx⟩:=vals1 r
  cases rx
  have hn:=line63
  rcases hq with hq | hq
  · obtain ⟨its,r',pl,hz⟩:=I.list hq
    have hlen:=r'.length
    exact Calls.call_len_list pl.isList (by simp only [List.size_toArray] <;> omega) ⟨.int ys.length,H,I.tok _,⟨s.toks+1,by rw [List.size_toArray,hlen]⟩,q⟩
  · obtain ⟨its,r',pl,hz⟩:=I.tuple hq
    have hlen:=r'.length
    exact len_tuple pl (by simp only [List.size_toArray] <;> omega) ⟨.int ys.length,H,I.tok _,⟨s.toks+1,by rw [List.size_toArray,hlen]⟩,q⟩
theorem call_list_of:CallR X (.type "list") (fun xs H Q=>∃ p ys,xs=[.ref p]∧(SqL X.K H p ys∨SqT X.K H p ys)∧∀ l,H l=none→Q (.ref l) (upd H l (.lst ys))):=by
  intro pins s σ H xs us Q I r h
  obtain ⟨p,ys,rfl,hq,q⟩:=h
  obtain ⟨u,rfl,rx⟩:=vals1 r
  cases rx
  have fin:∀ (its:List Value),Vals ys its→ys.length≤sizeLine→∀ (h':Heap) (c':Nat),(∀ b o',s.heap.get? b=some o'→h'.get? b=some o') →
      h'.get? s.heap.objs.size=some { cls:=.type "list",dict:=none,data:=.seq its.toArray c',slots:=#[] }→EP X pins σ Q (.ref s.heap.objs.size) { s with heap:=h' }:=fun its r' hz h' c' kp e =>
    ⟨.ref s.heap.objs.size,_,I.laid (t':=s.toks) kp (Nat.le_refl _) (show ObjOk X.prog X.w _ h' _ (.lst ys) from ⟨hz,its,c',r',e⟩),rfl,q _ (I.hok.fresh (Nat.le_refl _))⟩
  rcases hq with hq | hq
  · obtain ⟨its,r',pl,hz⟩:=I.list hq
    have hlen:=r'.length
    obtain ⟨o,ho,hc,n,hd⟩:=pl.isList
    exact call_list_seq p (.inl rfl) ho hc hd (fun h' c' kp e=>fin its r' hz h' c' kp e) (by simp only [List.size_toArray] <;> omega)
  · obtain ⟨its,r',pl,hz⟩:=I.tuple hq
    have hlen:=r'.length
    obtain ⟨o,ho,hc,n,hd⟩:=pl
    exact call_list_seq p (.inr rfl) ho hc hd (fun h' c' kp e=>fin its r' hz h' c' kp e) (by simp only [List.size_toArray] <;> omega)
theorem call_tuple_of:CallR X (.type "tuple") (fun xs H Q=>∃ p ys,xs=[.ref p]∧((SqL X.K H p ys∧∀ l,H l=none→Q (.ref l) (upd H l (.tup ys)))∨(SqT X.K H p ys∧Q (.ref p) H))):=by
  intro pins s σ H xs us Q I r h
  obtain ⟨p,ys,rfl,h⟩:=h
  obtain ⟨u,rfl,rx⟩:=vals1 r
  cases rx
  rcases h with ⟨hq,q⟩ | ⟨hq,q⟩
  · obtain ⟨its,r',pl,hz⟩:=I.list hq
    have hlen:=r'.length
    refine call_tuple_list pl.isList (fun h' kp=>?_) (by simp only [List.size_toArray] <;> omega)
    have I1:Inv X pins σ H { s with heap:=h' }:=I.kept (t':=s.toks) kp
    have I2:Inv X pins σ (upd H h'.objs.size (.tup ys)) { s with heap:=h'.push { cls:=.type "tuple",data:=.seq its.toArray } } :=
      I1.laid (t':=s.toks) (fun b o e=>Heap.get?_push_of_some _ e) (Nat.le_refl _) (show ObjOk X.prog X.w _ _ _ (.tup ys) from ⟨hz,its,r',IsTup.new _ _⟩)
    exact ⟨.ref h'.objs.size,_,I2,rfl,q _ (I1.hok.fresh (Nat.le_refl _))⟩
  · obtain ⟨its,r',pl,hz⟩:=I.tuple hq
    exact call_tuple_same pl ⟨.ref p,H,I,rfl,q⟩
noncomputable def tyV (K:PySem.W.Frag) (T:String) (x:V) (H:Hp):Prop:=match x with
  | .str _=>T = "str"
  | .int _=>T = "int"
  | .ref p=>(T = "list"∧∃ xs,SqL K H p xs)∨(T = "tuple"∧∃ o,K.lookup p=some o∧o.cls=.type "tuple"∧o.dict=none) ∨
      (T = "dict"∧((∃ kvs,H p=some (.dK kvs))∨∃ kvs,H p=some (.dT kvs)))∨(T = "set"∧∃ S n,H p=some (.set S n))
  | _=>False
theorem tyV_is {pins:List (Addr × Obj)} {σ:St} {H:Hp} {s:Shared} {T:String} {x:V} {v:Value} (I:Inv X pins σ H s) (r:RelV x v) (ty:tyV X.K T x H) :
    s.TypeIs v T∧∀ a,v=.ref a→∃ ob,s.heap.get? a=some ob∧ob.dict=none:=by
  cases x with
  | str z =>
    obtain ⟨t,rfl⟩:=r
    cases (show T = "str" from ty)
    exact ⟨typeIs_str s z t,fun _ e=>nomatch e⟩
  | int i =>
    obtain ⟨t,rfl⟩:=r
    cases (show T = "int" from ty)
    exact ⟨typeIs_int s i t,fun _ e=>nomatch e⟩
  | ref p =>
    cases r
    rcases ty with ⟨rfl,xs,hq⟩ | ⟨rfl,o,hk,hc,hd⟩ | ⟨rfl,hk⟩ | ⟨rfl,S,n,hk⟩
    · obtain ⟨its,_,pl,_⟩:=I.list hq
      refine ⟨pl.isList.typeIs,fun a e=>?_⟩
      cases e
      obtain ⟨o,n,e,c,hd,_⟩:=pl
      exact ⟨o,e,hd⟩
    · refine ⟨⟨o,I.kIn p o hk,hc⟩,fun a e=>?_⟩
      cases e
      exact ⟨o,I.kIn _ o hk,hd⟩
    · have z:∃ o,s.heap.get? p=some o∧o.ExactDict:=by
        rcases hk with ⟨kvs,hk⟩ | ⟨kvs,hk⟩
        · obtain ⟨_,_,_,_,o,_,_,e,ex,_⟩:=I.hok p _ hk
          exact ⟨o,e,ex⟩
        · obtain ⟨_,_,_,_,o,_,_,e,ex,_⟩:=I.hok p _ hk
          exact ⟨o,e,ex⟩
      obtain ⟨o,e,ex⟩:=z
      refine ⟨⟨o,e,ex.1⟩,fun a e2=>?_⟩
      cases e2
      exact ⟨o,e,ex.2.1⟩
    · obtain ⟨o,_,_,_,e,ex,_⟩:=I.hok p _ hk
      refine ⟨⟨o,e,ex.1⟩,fun a e2=>?_⟩
      cases e2
      exact ⟨o,e,ex.2.1⟩
  | _=>exact False.elim ty
noncomputable def tBM0 (K:PySem.W.Frag) (T:String) (r:V→List V→Hp→VK→Prop) (to:TE):TE:=fun σ H Q=>to σ H fun x H1=>tyV K T x H1∧r x [] H1 Q
noncomputable def tBM (K:PySem.W.Frag) (T:String) (r:V→List V→Hp→VK→Prop) (to:TE) (t:TA):TE:=fun σ H Q=>to σ H fun x H1=>tyV K T x H1∧t σ H1 fun xs H2=>r x xs H2 Q
variable {o e:Expr} {es:List Expr} {to:TE} {t:TA} {name:Str} {apos cpos:Pos} {T id:String} {r:V→List V→Hp→VK→Prop}
theorem pe_bm0 (pa:PlainAttrs T) (slot:Slot T name id) (hty:typeOf (.builtin id)=pure (.type "method_descriptor")) (hm:MtR X id r) (ho:PE X o to)
    (hbase:attributeBase o name X.env (eval o X.env)=eval o X.env:=by rfl) (hline:(apos.endLine == cpos.line)=true:=by rfl):PE X (.Call (.Attribute o name apos) [] [] cpos) (tBM0 X.K T r to):=by
  intro pins s σ H Q I h
  refine wpAny_Call_method0_late hbase hline (thn (ho pins s σ H _ I h) fun v s1 ⟨x,H1,I1,r1,ty,q1⟩=>?_)
  obtain ⟨h1,h2⟩:=tyV_is I1 r1 ty
  exact ⟨T,id,pa,slot,hty,h1,h2,Calls.callWith_builtin rfl (PySem.evalArgs_none (hm pins s1 σ H1 x [] v [] Q I1 r1 .nil q1))⟩
theorem pe_bm (pa:PlainAttrs T) (slot:Slot T name id) (hty:typeOf (.builtin id)=pure (.type "method_descriptor")) (hm:MtR X id r) (ho:PE X o to) (ha:PA X (e :: es) t)
    (hbase:attributeBase o name X.env (eval o X.env)=eval o X.env:=by rfl)
    (hfew:((backTo cpos (starEach (e :: es) X.env)).all (fun x=>!x.1) && (backToKw cpos (keywordEach [] X.env)).all (fun x=>x.1.isSome)
      && decide ((e :: es).length+([]:List Keyword).length+(if ([]:List Keyword).isEmpty then 0 else 1) < 30))=true:=by rfl)
    (hline:(apos.endLine == cpos.line)=true:=by rfl) (hs:starEach (e :: es) X.env=(false,eval e X.env) :: starEach es X.env:=by rfl) (hplain:(backTo cpos (starEach es X.env)).any (·.1)=false:=by rfl) :
    PE X (.Call (.Attribute o name apos) (e :: es) [] cpos) (tBM X.K T r to t):=by
  intro pins s σ H Q I h
  refine wpAny_Call_method_late hbase hfew hline rfl (thn (ho pins s σ H _ I h) fun v s1 ⟨x,H1,I1,r1,ty,q1⟩=>?_)
  obtain ⟨h1,h2⟩:=tyV_is I1 r1 ty
  refine ⟨T,id,pa,slot,hty,h1,h2,?_⟩
  have hA:=ha cpos pins s1 σ H1 _ I1 q1
  rw [hs] at hA ⊢
  refine Calls.callWith_builtin (by show (false || (backTo cpos (starEach es X.env)).any (·.1))=false; rw [hplain] <;> rfl) (Calls.evalArgs_plain ?_)
  exact thn hA fun us s2 ⟨vs,H2,I2,r2,q2⟩=>hm pins s2 σ H2 x vs v us Q I2 r1 r2 q2
end
end L2
namespace L2
open PySem PySem.Spec PyProof.Rows
noncomputable def MtM (X:Cx) (id:String) (r:V→List V→Hp→VK→Prop):Prop :=
  ∀ (pins:List (Addr × Obj)) (s:Shared) (σ:St) (H:Hp) (x:V) (xs:List V) (v:Value) (us:List Value) (Q:VK),Inv X pins σ H s→RelV x v→Vals xs us→r x xs H Q →
    wpAny (model X.prog X.w) X.A (call (.builtin id) (v :: us)) (EP X pins σ Q) X.xe s
theorem Vals.one {x:V} {us:List Value} (h:Vals [x] us):∃ u,us=[u]∧RelV x u:=by
  cases h with
  | cons r t=>
    cases t
    exact ⟨_,rfl,r⟩
theorem Vals.two {x y:V} {us:List Value} (h:Vals [x,y] us):∃ u v,us=[u,v]∧RelV x u∧RelV y v:=by
  cases h with
  | cons r t=>
    obtain ⟨v,rfl,q⟩:=Vals.one t
    exact ⟨_,_,rfl,r,q⟩
theorem Vals.zero:∀ {us:List Value},Vals [] us→us=[]
  | _,.nil=>rfl
theorem Vals.dropLast {xs:List V} {us:List Value} (h:Vals xs us):Vals xs.dropLast us.dropLast:=by
  induction h with
  | nil=>exact .nil
  | cons r t ih =>
    cases t with
    | nil=>exact .nil
    | cons q t'=>exact .cons r ih
theorem erase_last {α:Type} (l:List α):l.eraseIdx (l.length - 1)=l.dropLast:=by
  induction l with
  | nil=>rfl
  | cons a r ih =>
    cases r with
    | nil=>rfl
    | cons b r =>
      have e:(a :: b :: r).length - 1=((b :: r).length - 1)+1:=by
        have h1:(a :: b :: r).length=r.length+2:=rfl
        have h2:(b :: r).length=r.length+1:=rfl
        omega
      rw [e,List.eraseIdx_cons_succ,ih]
      all_goals rfl
section
variable {X:Cx} {pins:List (Addr × Obj)} {σ:St} {H:Hp} {s:Shared} {l b:Addr} {xs ys zs:List V}
theorem Inv.lset {its its':List Value} {n:Nat} {f:Array Value→Array Value} {t':Nat} (I:Inv X pins σ H s) (hH:H l=some (.lst xs))
    (e:s.heap.get? l=some { cls:=.type "list",data:=.seq its.toArray n }) (hf:f its.toArray=its'.toArray) (hv:Vals ys its') (hz:ys.length≤sizeLine) :
    Inv X pins σ (upd H l (.lst ys)) { s with heap:=s.heap.update l (Obj.mapSeq f),toks:=t' }:=by
  have q:=PySem.IsL.update e f
  rw [hf] at q
  refine I.write (x:=l) (e:=l) (by rw [hH]; exact trivial) (.inl rfl) (fun b' u hb hu=>(Heap.get?_update_other s.heap (Obj.mapSeq f) (Ne.symm hb)).trans hu) ⟨_,q⟩ ?_
  exact ⟨hz,its',_,hv,q⟩
theorem Inv.lnew {its:List Value} {t':Nat} (I:Inv X pins σ H s) (hv:Vals ys its) (hz:ys.length≤sizeLine) :
    Inv X pins σ (upd H s.heap.objs.size (.lst ys)) { s with heap:=s.heap.push { cls:=.type "list",data:=.seq its.toArray },toks:=t' } :=
  I.laid (fun _ _ q=>Heap.get?_push_of_some _ q) (Nat.le_refl _) ⟨hz,its,0,hv,Heap.get?_push_size _ rfl⟩
theorem Inv.fresh (I:Inv X pins σ H s):H s.heap.objs.size=none:=I.hok.fresh (Nat.le_refl _)
theorem Inv.lstM (I:Inv X pins σ H s) (hH:H l=some (.lst xs)):xs.length≤sizeLine∧∃ (its:List Value) (n:Nat),Vals xs its∧xs.length=its.length∧s.heap.get? l=some { cls:=.type "list",data:=.seq its.toArray n }:=by
  obtain ⟨z,its,n,r,e⟩:=I.hok l _ hH
  exact ⟨z,its,n,r,r.length,e⟩
theorem notLongL {n:Nat} (h:n≤sizeLine):Builtin.List.listTooLong n=false:=by
  unfold Builtin.List.listTooLong
  exact decide_eq_false (by omega)
end
section
variable {X:Cx}
noncomputable def rAppend:V→List V→Hp→VK→Prop:=fun x vs H Q=>∃ l xs y,x=.ref l∧vs=[y]∧H l=some (.lst xs)∧xs.length < sizeLine∧Q .non (upd H l (.lst (xs++[y])))
theorem mt_append:MtM X "list.append" rAppend:=by
  intro pins s σ H x vs v us Q I rx rv h
  obtain ⟨l,xs,y,rfl,rfl,hH,hz,q⟩:=h
  cases rx
  obtain ⟨u,rfl,ru⟩:=rv.one
  obtain ⟨z,its,n,r,hl,e⟩:=I.lstM hH
  refine call_meets F.slot_list_append ⟨_,e,rfl⟩ F.entry_list_append (F.args_list_append_2 _ _) (PySem.list_append l its.toArray n u (by rw [List.size_toArray]; omega)) ⟨e,?_⟩
  refine ⟨.non,_,I.lset (its':=its++[u]) hH e (by simp) (r.append (.cons ru .nil)) ?_,rfl,q⟩
  rw [List.length_append,List.length_singleton]
  omega
noncomputable def rExtend:V→List V→Hp→VK→Prop:=fun x vs H Q=>∃ l b xs zs,x=.ref l∧vs=[.ref b]∧H l=some (.lst xs)∧H b=some (.lst zs)∧xs.length+zs.length≤sizeLine∧Q .non (upd H l (.lst (xs++zs)))
theorem mt_extend:MtM X "list.extend" rExtend:=by
  intro pins s σ H x vs v us Q I rx rv h
  obtain ⟨l,b,xs,zs,rfl,rfl,hH,hB,hz,q⟩:=h
  cases rx
  obtain ⟨u,rfl,ru⟩:=rv.one
  cases ru
  obtain ⟨z,its,n,r,hl,e⟩:=I.lstM hH
  obtain ⟨z2,its2,n2,r2,hl2,e2⟩:=I.lstM hB
  have hsz:its.toArray.size+its2.toArray.size≤sizeLine:=by rw [List.size_toArray,List.size_toArray]; omega
  have hlong:¬ (!its.toArray.isEmpty && Builtin.List.listTooLong (its.toArray.size+its2.toArray.size))=true:=by
    rw [notLongL hsz,Bool.and_false]
    exact Bool.false_ne_true
  refine call_meets F.slot_list_extend ⟨_,e,rfl⟩ F.entry_list_extend (F.args_list_extend_2 _ _)
    (AutoSeq1.list_extend_list_list_0 l its.toArray n b its2.toArray n2 hlong (by rw [List.size_toArray]; omega) (by omega)) ⟨e,e2,?_⟩
  refine ⟨.non,_,I.lset (its':=its++its2) hH e (by simp) (r.append r2) ?_,rfl,q⟩
  rw [List.length_append]
  omega
noncomputable def rPop:V→List V→Hp→VK→Prop:=fun x vs H Q=>∃ l xs y,x=.ref l∧vs=[]∧H l=some (.lst xs)∧xs[xs.length - 1]?=some y∧Q y (upd H l (.lst xs.dropLast))
theorem mt_pop:MtM X "list.pop" rPop:=by
  intro pins s σ H x vs v us Q I rx rv h
  obtain ⟨l,xs,y,rfl,rfl,hH,hy,q⟩:=h
  cases rx
  have hus:=rv.zero
  subst hus
  obtain ⟨z,its,n,r,hl,e⟩:=I.lstM hH
  obtain ⟨u,hu,ru⟩:=r.get hy
  have hy':its.toArray[its.toArray.size - 1]?=some u:=by
    show its.toArray[its.length - 1]?=some u
    rw [← Array.getElem?_toList,← hl]
    exact hu
  refine call_meets F.slot_list_pop ⟨_,e,rfl⟩ F.entry_list_pop (F.args_list_pop_1 _) (MeetsSeq.list_pop_last l its.toArray n u hy' (by rw [List.size_toArray]; omega)) ⟨e,?_⟩
  refine ⟨y,_,I.lset (its':=its.dropLast) hH e ?_ r.dropLast ?_,ru,q⟩
  · show its.toArray.eraseIdxIfInBounds (its.toArray.size - 1)=its.dropLast.toArray
    rw [List.size_toArray,List.eraseIdxIfInBounds_toArray,erase_last]
  · rw [List.length_dropLast]
    omega
noncomputable def rCat:R2:=fun x y H Q=>∃ l b xs zs,x=.ref l∧y=.ref b∧H l=some (.lst xs)∧H b=some (.lst zs)∧xs.length+zs.length≤sizeLine∧∀ p,H p=none→Q (.ref p) (upd H p (.lst (xs++zs)))
theorem op_cat:OpR X (binaryOp .Add) rCat:=by
  intro pins s σ H x y v u Q I rx ry h
  obtain ⟨l,b,xs,zs,rfl,rfl,hH,hB,hz,q⟩:=h
  cases rx
  cases ry
  obtain ⟨z,its,n,r,hl,e⟩:=I.lstM hH
  obtain ⟨z2,its2,n2,r2,hl2,e2⟩:=I.lstM hB
  refine PySem.P.add_list e e2 ?_ (by rw [List.size_toArray,List.size_toArray]; omega)
  have ea:its.toArray++its2.toArray=(its++its2).toArray:=by simp
  rw [ea]
  exact ⟨.ref _,_,I.lnew (t':=s.toks) (r.append r2) (by rw [List.length_append]; omega),rfl,q _ I.fresh⟩
end
section
variable {prog:Program} {w:World} {A:Around} {E:Value→Shared→Prop} {s:Shared}
end
section
variable {X:Cx}
end
end L2
namespace Att
open PySem PySem.W PySem.Calls PyProof.Rows
theorem ints_of_wellAll {P:Params} {h:Heap}:∀ (ns:List Int) (vs:List Value),WellAll P h vs (ns.map WData.int)→IntsAre vs ns:=by
  intro ns
  induction ns with
  | nil =>
    intro vs w
    rw [List.map_nil] at w
    cases w
    exact .nil
  | cons n ns ih =>
    intro vs w
    rw [List.map_cons] at w
    cases w with
    | cons a b =>
      cases a
      exact .cons _ _ (ih _ b)
theorem script_of {l:OpenLaw} {n:Nat} (hn:l.most=some n) {P:Params} {h:Heap} {args:List WData} {vals:List Value}
    (hpre:l.row.toRowW.claim.pre args=true) (hwl:WellAll P h vals args) :
    ∃ a vs ns,vals=[Value.ref a]∧args=[WData.list (ns.map WData.int)]∧h.get? a=some { cls:=.type "list",data:=.seq vs.toArray }∧IntsAre vs ns∧ns.length≤n:=by
  have hsh:WShape.hasAll [] args [.list .int]=true:=(pre_splitW hpre).1
  have hc:l.pre.holds [] { args:=args }=true:=(pre_splitW hpre).2
  obtain ⟨d,r,rfl,h1,h2⟩:=hasAllW_cons hsh
  obtain rfl:=hasAllW_nil h2
  obtain ⟨xs,rfl,h3⟩:=hasW_list h1
  obtain ⟨ns,rfl⟩:=items_int h3
  have hlen:ns.length≤n:=by
    unfold OpenLaw.pre at hc
    have h4:(WTm.not (.lt (.lit (.int (n:Int))) (.len (.arg 0)))).holds [] { args:=[.list (ns.map .int)] }=true:=by
      have h4:=(holds_andW hc).1
      rw [hn] at h4
      exact h4
    have h5:=condW_of h4 (w_not (w_lt w_lit (w_len_list (w_arg rfl))))
    rw [List.length_map] at h5
    refine Nat.le_of_not_lt fun q=>?_
    have q':(n:Int) < ((ns.length:Nat):Int):=by omega
    first
      | (rw [decide_eq_true q'] at h5; exact absurd h5 (by decide))
      | (simp at h5; omega)
  cases hwl with
  | cons w1 w2 =>
    cases w2
    cases w1 with
    | list ho hall=>exact ⟨_,_,ns,rfl,rfl,ho,ints_of_wellAll ns _ hall,hlen⟩
theorem post_true (l:OpenLaw) (args:List WData):l.row.toRowW.claim.post args (.bool true) args=true :=
  postW_of (r:=l.row.toRowW) (X:=(true == true))
    (show WShape.has [] (.bool true) .bool=true by first | rfl | decide | simp [WShape.has,WShape.arms,WShape.armsAll])
    (show (WTm.eq .res (.lit (.bool true))).value [] { args:=args,res:=some (.bool true),after:=args }=some (.bool (true == true)) from w_eq_bool (w_res rfl) w_lit) rfl
theorem attach_call {l:OpenLaw} {n:Nat} {q:Program} {loose:List Str} {XP:(Str→Option Value)→Heap→Prop} {YP:World→Heap→Prop} {d:DefRec}
    (hn:l.most=some n) (hdf:d.params.defaults=[])
    (call:∀ (w:World) (s₀ s₁:Shared) (mg mb:Str→Option Value) (fa:Addr) (o:Obj) (pm cd doc:Value) (a:Addr) (vs:List Value) (ns:List Int),
      Ground q loose [] XP w s₀ mg mb s₁.heap→YP w s₁.heap →
      s₁.heap.get? fa=some o→o.data=.func (docDef d.name d.params d.body d.scope pm cd doc)→s₁.heap.CodeRec cd d.name→mg d.name=some (.ref fa) →
      s₁.heap.get? a=some { cls:=.type "list",data:=.seq vs.toArray }→IntsAre vs ns→ns.length≤n→s₁.gens = #[] →
      codeAny (model l.prog w) callerA (.call (.ref fa) ⟨[.ref a],[]⟩) (fun r s'=>r=.ok (.ret (.bool true))∧OldK s₁.heap s'.heap∧s'.os=s₁.os∧AllBare s'.gens) s₁) :
    WalkO q loose XP YP l.row.toRowW d [] (fun f vs=>PySem.call f vs):=by
  intro w s₀ s₁ mg mb G Y fa o pm cd doc dV kV ho hd hcd hD hmg hg args vals as hpre hlay hrd hwl hlo
  obtain rfl:dV=.none:=Dflts.none hD hdf
  obtain rfl:kV=.none:=Dflts.noKw hD
  obtain ⟨a,vs,ns,rfl,rfl,hobj,hints,hlen⟩:=script_of hn hpre hwl
  refine enter_call (codeAny_mono (call w s₀ s₁ mg mb fa o pm cd doc a vs ns G Y ho (fd_plain hd) hcd hmg hobj hints hlen hg) fun r s' hq=>?_)
  obtain ⟨rfl,h2,h3,h4⟩:=hq
  exact ⟨.inl ⟨.bool true,.bool true,[],rfl,fun _=>rfl,.bool true,post_true l _,fun _=>⟨List.Pairwise.nil,fun _ hm=>(nomatch hm)⟩⟩,h2,h3,h4⟩
section
variable {prog:Program} {w:World} {A:Around} {E:Value→Shared→Prop} {s:Shared} {K:Frag}
noncomputable def ledger (h:Heap) (L d:Addr):List (Addr × Obj):=(List.range h.objs.size).filterMap fun a=>if a=L∨a=d then none else (h.get? a).map fun o=>(a,o)
end
end Att
namespace L2
open PySem PySem.Spec PyProof.Rows
theorem vals_ints:∀ {vs:List Value} {ns:List Int},IntsAre vs ns→Vals (ns.map V.int) vs
  | _,_,.nil=>.nil
  | _,_,.cons n t h=>.cons ⟨t,rfl⟩ (vals_ints h)
noncomputable def Only (H:Hp):Prop:=∀ b,H b=none∨∃ o xs,H b=some (.frz o (.lst xs))
end L2
namespace L2
open PySem PySem.Spec PyProof.Rows
noncomputable abbrev KOf {K:PySem.W.Frag} {h:Heap} (_:K.In h):PySem.W.Frag:=K
end L2
namespace L2
open PySem PySem.Spec PyProof.Rows
noncomputable def defArgs (s:Stmt):Arguments:=match s with
  | .FunctionDef _ a _ _ _ _ _ _ _ _=>a
  | _=>{ posonlyargs:=[],args:=[],vararg:=none,kwonlyargs:=[],kw_defaults:=[],kwarg:=none,defaults:=[] }
noncomputable def defBody (s:Stmt):List Stmt:=match s with
  | .FunctionDef _ _ b _ _ _ _ _ _ _=>b
  | _=>[]
noncomputable def defScope (s:Stmt):Scope:=match s with
  | .FunctionDef _ _ _ _ _ _ sc _ _ _=>sc
  | _=>{ kind:=.function,names:=[],isGenerator:=false,isCoroutine:=false }
noncomputable abbrev CX0:CXT:=fun _ _ _ _ _ _=>False
noncomputable abbrev E0:XK:=fun _ _ _=>False
theorem pass0 {X:Cx}:Passes CX0 X E0:=fun _ _ _ _ _ _ _ h=>h.elim
structure Fun (K:PySem.W.Frag) (x qual:Str) (st:Stmt) (f:Addr) (fd:FuncData):Prop where
  ex:∃ (oc:Value) (od:Option Addr) (kV doc pm:Value) (an:Option Addr) (cdv ct:Value) (osl:Array (Option Value)),
    fd=PySem.W.fnOf x qual (defArgs st) (defBody st) (defScope st) .none kV doc pm an cdv ct∧K.lookup f=some ⟨oc,od,.func fd,osl⟩∧PySem.W.codeIn K cdv qual=true
  kp:PySem.W.keepIn K (.ref f)=true
section
variable {P:Program} {w:World} {K:PySem.W.Frag} {mg:Str→Option Value} {base:Heap}
theorem Fun.ok {x qual:Str} {st:Stmt} {f:Addr} {fd:FuncData} {N ps:List Str} {k:Nat} {sp:Sp} (F:Fun K x qual st f fd) (S:FnScope N ps (defScope st)) (len:∀ vs H Q E,sp vs H Q E→vs.length=ps.length)
    (hbody:∀ (cdv:Value) (A:Around) (outer:List Env) (s:Shared) (H:Hp) (vs:List V) (Q:VK) (E:XK),Room k (A.deeper (envOfC qual (defScope st) s.heap.objs.size f cdv))→sp vs H Q E →
      ∃ t,PSs (cxOf CX0 P w K mg base N qual (defScope st) f cdv A outer s H E).nox (defBody st) t∧t { nx:=fun _ H'=>Q .non H',rt:=Q } (start N vs) H):FnOk P w K mg base CX0 (k+1) f fd ps sp:=by
  obtain ⟨oc,od,kV,doc,pm,an,cdv,ct,osl,rfl,lk,hcd⟩:=F.ex
  refine fn_of lk hcd S len fun A outer s H vs Q E hr hsp=>?_
  obtain ⟨t,h,q⟩:=hbody cdv A outer s H vs Q E hr hsp
  exact ⟨t,h.nox,q⟩
theorem Fun.binds {x qual:Str} {st:Stmt} {f:Addr} {fd:FuncData} {ps:List Str} (F:Fun K x qual st f fd)
    (h:∀ (kV doc pm:Value) (an:Option Addr) (cdv ct:Value) (us:List Value),us.length=ps.length→bindArgs (PySem.W.fnOf x qual (defArgs st) (defBody st) (defScope st) .none kV doc pm an cdv ct) ⟨us,[]⟩=pure (ps.zip us)):Binds K fd ps []:=by
  obtain ⟨oc,od,kV,doc,pm,an,cdv,ct,osl,rfl,lk,hcd⟩:=F.ex
  exact .all (h kV doc pm an cdv ct)
theorem fun_mk {x qual:Str} {st:Stmt} {f:Addr} {oc:Value} {od an:Option Addr} {osl:Array (Option Value)} {kV doc pm cdv ct:Value} (l:K.lookup f=some ⟨oc,od,.func (PySem.W.fnOf x qual (defArgs st) (defBody st) (defScope st) .none kV doc pm an cdv ct),osl⟩)
    (c:PySem.W.codeIn K cdv qual=true) (k:PySem.W.keepIn K (.ref f)=true):Fun K x qual st f (PySem.W.fnOf x qual (defArgs st) (defBody st) (defScope st) .none kV doc pm an cdv ct):=⟨⟨oc,od,kV,doc,pm,an,cdv,ct,osl,rfl,l,c⟩,k⟩
end
theorem hu_of {A:Around} {k:Nat} (hr:Room k A):A.units+1 < cLine:=Nat.lt_of_le_of_lt (Nat.add_le_add_left (by decide:1≤64) _) hr.units
theorem small1000 {n:Nat} (h:n≤1000):n < sizeLine:=Nat.lt_of_le_of_lt h (by decide)
section
variable {X:Cx}
noncomputable def visB (sc:Scope) (x:Str):Bool:=match sc.names.lookup x with | some .local=>true | some .cell=>true | some .free=>true | _=>false
theorem vis_b {sc:Scope} {x:Str} (h:visB sc x=true):Vis sc x:=by
  unfold visB at h
  unfold Vis
  generalize sc.names.lookup x = o at h ⊢
  cases o with
  | none=>exact Bool.noConfusion h
  | some k=>cases k<;>first | exact .inl rfl | exact .inr (.inl rfl) | exact .inr (.inr rfl) | exact Bool.noConfusion h
theorem pv (i:Nat) {x:Str} {pos:Pos} (hN:X.N[i]?=some x:=by rfl) (hv:visB X.env.scope x=true:=by rfl) (hd:(x == ("__debug__" : Str))=false:=by decide)
    (hcd:(x == ("__classdict__" : Str))=false:=by decide):PE X (.Name x pos) (tVar i):=pe_var hN (vis_b hv) hd hcd
end
theorem iteF {A B:Prop} (h:B):if false=true then A else B:=by
  rw [if_neg Bool.false_ne_true]
  exact h
theorem iteT {A B:Prop} (h:A):if true=true then A else B:=by
  rw [if_pos rfl]
  exact h
theorem ite2 {c A B:Prop} [Decidable c] (h1:c→A) (h2:¬ c→B):if c then A else B:=by
  by_cases h:c
  · rw [if_pos h]
    exact h1 h
  · rw [if_neg h]
    exact h2 h
noncomputable def Same (H H':Hp):Prop:=∀ b o,H b=some o→H' b=some o
theorem Same.refl (H:Hp):Same H H:=fun _ _ h=>h
theorem Same.trans {H H1 H2:Hp} (a:Same H H1) (b:Same H1 H2):Same H H2:=fun c o h=>b c o (a c o h)
theorem Same.free {H H':Hp} (e:Same H H') {l:Addr} (h:H' l=Option.none):H l=Option.none:=by
  cases q:H l with
  | none=>rfl
  | some o =>
    rw [e l o q] at h
    cases h
theorem Same.seq {K:PySem.W.Frag} {H H':Hp} {a:Addr} {xs:List V} (e:Same H H') (h:SqL K H a xs):SqL K H' a xs:=by
  rcases h with (h | ⟨o,h⟩) | h
  · exact .inl (.inl (e _ _ h))
  · exact .inl (.inr ⟨o,e _ _ h⟩)
  · exact .inr h
end L2
set_option maxHeartbeats 4000000
namespace L2
open PySem PySem.Spec PyProof.Rows
theorem closure_walk {env:Env}:∀ (names:List (Str × NameKind)) (acc:List (Str × Addr)),(∀ y∈names,y.2=.free→∃ c,env.cells.lookup y.1=some c) →
    ∃ cl,(forIn names acc (fun (x:Str × NameKind) (cs:List (Str × Addr))=>(if x.2 == .free then (do let c ← cellOf env x.1; pure (ForInStep.yield ((x.1,c) :: cs))) else pure (ForInStep.yield cs):Sem (ForInStep (List (Str × Addr))))))=pure cl ∧
      (∀ y∈names,y.2=.free→∃ c,cl.lookup y.1=some c)∧(∀ y c,acc.lookup y=some c→∃ d,cl.lookup y=some d)∧(∀ y c,cl.lookup y=some c→env.cells.lookup y=some c∨acc.lookup y=some c)
  | [],acc,_=>⟨acc,rfl,(fun _ h=>nomatch h),(fun y c h=>⟨c,h⟩),(fun y c h=>.inr h)⟩
  | (n,k) :: r,acc,h=>by
    rw [List.forIn_cons]
    by_cases hk:k=.free
    · subst hk
      obtain ⟨c,hc⟩:=h (n,.free) List.mem_cons_self rfl
      obtain ⟨cl,e,h1,h2,h3⟩:=closure_walk r ((n,c) :: acc) fun y hy=>h y (List.mem_cons_of_mem _ hy)
      refine ⟨cl,?_,?_,?_,?_⟩
      · have e0:cellOf env n=pure c:=by unfold cellOf; rw [hc]
        simp only [beq_self_eq_true,if_true,e0,pure_bind]
        exact e
      · intro y hy hf
        rcases List.mem_cons.mp hy with rfl | hy
        · exact h2 n c (by simp)
        · exact h1 y hy hf
      · intro y d hd
        by_cases e1:y=n
        · subst e1; exact h2 y c (by simp)
        · exact h2 y d (by rw [List.lookup_cons,beq_eq_false_iff_ne.mpr e1]; exact hd)
      · intro y d hd
        rcases h3 y d hd with q | q
        · exact .inl q
        · by_cases e1:y=n
          · subst e1
            simp at q
            exact .inl (by rw [← q]; exact hc)
          · rw [List.lookup_cons,beq_eq_false_iff_ne.mpr e1] at q
            exact .inr q
    · have hb:(k == NameKind.free)=false:=by simpa using hk
      obtain ⟨cl,e,h1,h2,h3⟩:=closure_walk r acc fun y hy=>h y (List.mem_cons_of_mem _ hy)
      refine ⟨cl,?_,?_,h2,h3⟩
      · simp only [hb,Bool.false_eq_true,if_false,pure_bind]
        exact e
      · intro y hy hf
        rcases List.mem_cons.mp hy with rfl | hy
        · exact absurd hf hk
        · exact h1 y hy hf
theorem closure_of {scope:Scope} {env:Env} (h:∀ y∈scope.names,y.2=.free→∃ c,env.cells.lookup y.1=some c) :
    ∃ cl,closureFor scope env=pure cl∧(∀ y∈scope.names,y.2=.free→∃ c,cl.lookup y.1=some c)∧∀ y c,cl.lookup y=some c→env.cells.lookup y=some c:=by
  obtain ⟨cl,e,h1,_,h3⟩:=closure_walk scope.names [] h
  refine ⟨cl,?_,h1,fun y c q=>(h3 y c q).elim id fun z=>by simp at z⟩
  rw [← e]
  unfold closureFor
  simp only [bind_pure]
theorem relabel_free {env:Env}:∀ {names:List (Str × NameKind)} {x:Str},names.lookup x=some .free →
    (names.map fun (n,k)=>if (k == NameKind.free && env.scope.kind == .function && env.kindOf n == some .cell) then (n,NameKind.cell) else (n,k)).lookup x=some .cell ∨
    (names.map fun (n,k)=>if (k == NameKind.free && env.scope.kind == .function && env.kindOf n == some .cell) then (n,NameKind.cell) else (n,k)).lookup x=some .free
  | [],_,h=>by simp at h
  | (n,k) :: r,x,h=>by
    have ih:=@relabel_free env r x
    rw [List.map_cons]
    cases hx:x == n with
    | true =>
      simp only [List.lookup_cons,hx] at h
      cases h
      by_cases hc:(NameKind.free == NameKind.free && env.scope.kind == .function && env.kindOf n == some .cell)=true
      · left; simp only [if_pos hc,List.lookup_cons,hx]
      · right; simp only [if_neg hc,List.lookup_cons,hx]
    | false =>
      simp only [List.lookup_cons,hx] at h
      by_cases hc:(k == NameKind.free && env.scope.kind == .function && env.kindOf n == some .cell)=true
      · simp only [if_pos hc,List.lookup_cons,hx]; exact ih h
      · simp only [if_neg hc,List.lookup_cons,hx]; exact ih h
theorem relabel_inv {env:Env}:∀ {names:List (Str × NameKind)} {x:Str} {k':NameKind},
    (names.map fun (n,k)=>if (k == NameKind.free && env.scope.kind == .function && env.kindOf n == some .cell) then (n,NameKind.cell) else (n,k)).lookup x=some k'→(k'=.cell∨k'=.free) →
    ∃ k,(x,k)∈names∧(k=.cell∨k=.free)
  | [],_,_,h,_=>by simp at h
  | (n,k) :: r,x,k',h,hk=>by
    have ih:=@relabel_inv env r x k'
    rw [List.map_cons] at h
    cases hx:x == n with
    | true =>
      have e:x=n:=by simpa using hx
      subst e
      by_cases hc:(k == NameKind.free && env.scope.kind == .function && env.kindOf x == some .cell)=true
      · refine ⟨k,List.mem_cons_self,.inr ?_⟩
        simp only [Bool.and_eq_true,beq_iff_eq] at hc
        exact hc.1.1
      · simp only [if_neg hc,List.lookup_cons,beq_self_eq_true] at h
        cases h
        exact ⟨k,List.mem_cons_self,hk⟩
    | false =>
      have h':(r.map fun (n,k)=>if (k == NameKind.free && env.scope.kind == .function && env.kindOf n == some .cell) then (n,NameKind.cell) else (n,k)).lookup x=some k':=by
        by_cases hc:(k == NameKind.free && env.scope.kind == .function && env.kindOf n == some .cell)=true
        · simpa only [if_pos hc,List.lookup_cons,hx] using h
        · simpa only [if_neg hc,List.lookup_cons,hx] using h
      obtain ⟨q,m,z⟩:=ih h' hk
      exact ⟨q,List.mem_cons_of_mem _ m,z⟩
noncomputable abbrev blockCx (X:Cx) (scope:Scope) (N:List Str) (cl:List (Str × Addr)) (C:Addr) (s:Shared) (H:Hp) (ex:List Addr) (pn:List (Addr × Obj)) (E:Value→Shared→Prop):Cx :=
  { X with N:=N,s₀:=s,H₀:=H,env:=compEnvC scope cl C X.env,outer:=X.stack,stack:=X.stack,ex:=ex,fn:=fun _=>false,pn:=pn,xe:=E }
theorem block_ok {X:Cx} {pins:List (Addr × Obj)} {σ σ':St} {H:Hp} {s:Shared} {scope:Scope} {N:List Str} {cl:List (Str × Addr)} {fp:List Addr} {E:Value→Shared→Prop} {h1:Heap} {t:Nat}
    (I:Inv X pins σ H s) (hkind:scope.kind=.function) (hcell:∀ y∈scope.names,y.2≠.cell) (hfree:∀ y∈scope.names,y.2=.free→X.env.kindOf y.1=some .cell∨X.env.kindOf y.1=some .free)
    (hcl1:∀ y∈scope.names,y.2=.free→∃ c,cl.lookup y.1=some c) (hcl2:∀ y c,cl.lookup y=some c→X.env.cells.lookup y=some c)
    (hf:∀ b∈fp,FpOk X pins H b) (hfo:∀ b∈fp,∃ o,s.heap.get? b=some o)
    (hl:σ'.length=N.length) (hσ:∀ (i:Nat) (x:Str) (v:V),N[i]?=some x→σ'[i]?=some (some v)→scope.names.lookup x=some .free∧∃ j:Nat,X.N[j]?=some x∧σ[j]?=some (some v))
    (hns:h1.Ns s.heap.objs.size (fun _=>none)) (hold:∀ b o,s.heap.get? b=some o→h1.get? b=some o) :
    Inv (blockCx X scope N cl s.heap.objs.size s H fp (X.pn++pins) E) [] σ' H { s with heap:=h1,toks:=t }:=by
  have szc:∀ b o,s.heap.get? b=some o→b≠s.heap.objs.size:=fun b o e=>Nat.ne_of_lt (Heap.lt_size e)
  have okY:(blockCx X scope N cl s.heap.objs.size s H fp (X.pn++pins) E).Ok:=by
    refine ⟨I.ok.mod,hkind,I.ok.glob,I.ok.blt,Nat.le_refl _,fun x y c e1 e2=>I.ok.inj x y c (hcl2 _ _ e1) (hcl2 _ _ e2),fun x hx=>?_,fun x c hfn _=>?_,I.ok.hd,I.ok.frames,.inl rfl,fun b hb=>⟨?_,fun x c e z=>?_⟩,I.bs,Nat.le_trans I.ok.bsz I.sz,fun b o e hb=>?_,fun b hb z=>?_,I.stack,I.stkFree⟩
    · have hx':(relabel scope X.env).names.lookup x=some .cell∨(relabel scope X.env).names.lookup x=some .free:=hx
      have q:∃ k,(x,k)∈scope.names∧(k=.cell∨k=.free):=by
        rcases hx' with z | z
        · exact relabel_inv z (.inl rfl)
        · exact relabel_inv z (.inr rfl)
      obtain ⟨k,hm,hk⟩:=q
      rcases hk with rfl | rfl
      · exact absurd rfl (hcell _ hm)
      · exact hcl1 _ hm rfl
    · exact absurd (show false=true from hfn) (by decide)
    · obtain ⟨o,e⟩:=hfo b hb
      exact szc b o e
    · exact (hf b hb).2.2.2.2.1 x c (hcl2 _ _ e) z
    · rcases (hf b hb).2.2.2.1 with z | z
      · exact I.ok.noex b o e z
      · exact absurd (Nat.lt_of_lt_of_le (Heap.lt_size e) (Nat.le_trans I.ok.bsz z)) (Nat.lt_irrefl _)
    · rcases List.mem_cons.mp (I.stkSub b z) with q | q
      · exact (hf b hb).2.1 q
      · exact (hf b hb).2.2.1 q
  obtain ⟨m,hn,hlook⟩:=id I.loc
  refine ⟨okY,rfl,I.bare,Un.kept hold,⟨_,hns,fun i x v e1 e2 _=>?_⟩,fun x c e=>?_,I.hok.fresh (Nat.le_refl _),fun x c e=>I.freeC x c (hcl2 _ _ e),fun p hp=>?_,I.hok.kept hold,hl⟩
  · obtain ⟨hfr,j,ej,es⟩:=hσ i x v e1 e2
    have hm:(x,NameKind.free)∈scope.names:=PySem.mem_of_lookup hfr
    have hk:=hfree _ hm rfl
    have hv:Vis X.env.scope x:=by
      rcases hk with z | z
      · exact .inr (.inl z)
      · exact .inr (.inr z)
    obtain ⟨u,r,l⟩:=hlook j x v ej es hv
    refine ⟨u,r,.inr ⟨?_,?_⟩⟩
    · exact relabel_free hfr
    · rcases l with ⟨k,_⟩ | ⟨_,c,ec,hc⟩
      · rcases hk with z | z <;> (rw [k] at z; cases z)
      · obtain ⟨d,hd⟩:=hcl1 _ hm rfl
        have e:=hcl2 _ _ hd
        have ec':X.env.cells.lookup x=some d:=e
        rw [ec] at ec'; cases ec'
        obtain ⟨o,ho,hod⟩:=hc
        exact ⟨c,hd,o,hold c o ho,hod⟩
  · obtain ⟨v,o,ho,hod⟩:=I.cell x c (hcl2 _ _ e)
    exact ⟨v,o,hold c o ho,hod⟩
  · have hp':p∈X.pn++pins:=by simpa using hp
    obtain ⟨a1,a2,a3,a4,a5⟩:=I.pin p hp'
    refine ⟨hold _ _ a1,a2,szc _ _ a1,fun z=>?_,a5⟩
    rcases List.mem_cons.mp (I.stkSub _ z) with q | q
    · exact a3 q
    · exact a4 q
noncomputable def PIfs (X:Cx) (ifs:List Expr) (t:TT):Prop :=
  ∀ (pins:List (Addr × Obj)) (s:Shared) (σ:St) (H:Hp) (Q:Bool→Hp→Prop),Inv X pins σ H s→t σ H Q →
    wpAny (model X.prog X.w) X.A (forIn ifs true fun c r=>if r=true then do let ok ← isTrue c X.env (eval c X.env); pure (ForInStep.yield ok) else pure (ForInStep.yield r)) (TP X pins σ Q) X.xe s
noncomputable def tYes:TT:=fun _ H Q=>Q true H
theorem pifs_nil {X:Cx}:PIfs X [] tYes:=fun _ _ _ H _ I h=>wpAny_tests_nil ⟨H,I,h⟩
theorem pifs_one {X:Cx} {c:Expr} {t:TT} (h:PT X c t):PIfs X [c] t:=fun pins s σ H Q I hw=>wpAny_tests_one (h pins s σ H Q I hw)
section
variable {prog:Program} {w:World} {A:Around} {R:Result→Shared→Prop} {s:Shared}
theorem codeAny_compLoop_any {elt target iter:Expr} {ifs:List Expr} {scope:Scope} {pos:Pos} {it acc:Value} {env:Env} (I:Nat→Shared→Prop)
    (turn:∀ n s,I n s→wpAny (model prog w) A (pyNext it) (fun r s₁=>match r with
      | none=>R (.ok .next) s₁
      | some v=>wpAny (model prog w) A (letOwnedTupleGo target it v) (fun _ s₁'=>wpAny (model prog w) A (assign target env v) (fun _ s₂ =>
          wpAny (model prog w) A (forIn ifs true fun c r=>if r=true then do let ok ← isTrue c env (eval c env); pure (ForInStep.yield ok) else pure (ForInStep.yield r)) (fun ok s₃ =>
            if ok=true then wpAny (model prog w) A (eval elt env) (fun x s₄ =>
              wpAny (model prog w) A (call (.builtin "list.append") [acc,x]) (fun _ s₅=>∃ m,m < n∧I m s₅) (notedBy (model prog w) A env fun e s'=>R (.error e) s') s₄) (notedBy (model prog w) A env fun e s'=>R (.error e) s') s₃
            else ∃ m,m < n∧I m s₃) (notedBy (model prog w) A env fun e s'=>R (.error e) s') s₂) (notedBy (model prog w) A env fun e s'=>R (.error e) s') s₁') (notedBy (model prog w) A env fun e s'=>R (.error e) s') s₁)
        (notedBy (model prog w) A env fun e s'=>R (.error e) s') s)
    (n:Nat) (h:I n s) :
    codeAny (model prog w) A (.compLoop (.ListComp elt [⟨target,iter,ifs,0⟩] scope pos) 0 it acc env) R s:=by
  refine codeAny_loop rfl I (fun n s hI=>?_) n h
  show wpAny _ A ((compTurn (.ListComp elt [⟨target,iter,ifs,0⟩] scope pos) 0 it acc env).onRaise (fun x=>do noteFrame x env; theTreesLotGoes x)) _ _ s
  refine wpAny_noted ?_
  rw [compTurn_list]
  refine wpAny_bind (wpAny_standAt (wpAny_bind (wpAny_mono (turn n s hI) (fun r s₁ h₁=>?_) fun _ _ h'=>h')))
  cases r with
  | none=>exact wpAny_pure h₁
  | some v =>
    refine wpAny_bind (wpAny_mono h₁ (fun _ s₁' h₁'=>?_) fun _ _ h'=>h')
    refine wpAny_bind (wpAny_mono h₁' (fun _ s₂ h₂=>wpAny_bind (wpAny_mono h₂ (fun ok s₃ h₃=>?_) fun _ _ h'=>h')) fun _ _ h'=>h')
    cases ok with
    | false=>exact wpAny_pure ⟨rfl,h₃⟩
    | true =>
      exact wpAny_bind (wpAny_bind (wpAny_mono h₃ (fun x s₄ h₄=>wpAny_bind (wpAny_mono h₄ (fun _ s₅ h₅=>wpAny_pure (wpAny_pure ⟨rfl,h₅⟩)) fun _ _ h'=>h')) fun _ _ h'=>h'))
end
noncomputable def tComp (wi:TI) (g:TG) (tc:TT) (te:TE) (lift:St→St):TE:=fun σ H Q=>wi σ H fun J H1=>∀ l,H1 l=none→∃ W:Nat→Nat→St→Hp→Prop,(∃ m,W 0 m (lift σ) (upd H1 l (.lst [])))∧∀ i m σ H,W i m σ H →
  (J.stop i H∧Q (.ref l) H)∨(J.go i H∧∃ N:St→Hp→Prop,(∀ σ' H',N σ' H'→∃ m',m' < m∧W (i+1) m' σ' H') ∧
    ∀ x H',J.yld i H x H'→g x σ H' fun σ2 H2=>tc σ2 H2 fun b H3=>if b=true then te σ2 H3 fun v H4=>∃ ys,H4 l=some (.lst ys)∧ys.length < sizeLine∧N σ2 (upd H4 l (.lst (ys++[v]))) else N σ2 H3)
theorem pe_comp {X:Cx} {elt tg iter:Expr} {ifs:List Expr} {scope:Scope} {pos:Pos} {wi:TI} {g:TG} {tc:TT} {te:TE} (N:List Str) (lift:St→St) (hc:X.calm=true) (hi:PI X tg iter wi)
    (hkind:scope.kind=.function) (hcell:∀ y∈scope.names,y.2≠.cell) (hfree:∀ y∈scope.names,y.2=.free→X.env.kindOf y.1=some .cell∨X.env.kindOf y.1=some .free)
    (hnames:∀ y∈scope.names,y.2=.local→scope.names.lookup y.1=some .local)
    (hlen:∀ σ:St,σ.length=X.N.length→(lift σ).length=N.length)
    (hσ:∀ (σ:St) (i:Nat) (x:Str) (v:V),σ.length=X.N.length→N[i]?=some x→(lift σ)[i]?=some (some v)→scope.names.lookup x=some .free∧∃ j:Nat,X.N[j]?=some x∧σ[j]?=some (some v))
    (hg:∀ cl C s H ex pn E,PG (blockCx X scope N cl C s H ex pn E) tg g) (ht:∀ cl C s H ex pn E,PIfs (blockCx X scope N cl C s H ex pn E) ifs tc) (he:∀ cl C s H ex pn E,PE (blockCx X scope N cl C s H ex pn E) elt te)
    (hs:∀ x,foldedSetIterable iter X.env x=pure x:=by intro _; rfl) :
    PE X (.ListComp elt [⟨tg,iter,ifs,0⟩] scope pos) (tComp wi g tc te lift):=by
  intro pins s σ H Q I h
  rw [eval_ListComp]
  obtain ⟨cl,hclos,hcl1,hcl2⟩:=closure_of (scope:=scope) (env:=X.env) fun y hy hf=>I.ok.has y.1 (hfree y hy hf)
  refine wpAny_comprehension_free (use:=none) rfl hs hclos hkind hnames (thn (hi pins s σ H _ I h) fun v s1 h1=>thn h1 fun itv s2 h2=>?_)
  obtain ⟨it,fp,tn,J,H2,e,I2,T,st2,f2,q⟩:=h2
  subst e
  refine wpAny_newObj_type (wpAny_newFunctionEnv hcell (by intro y hy; simp at hy) (fun h₁ hns₁ hsb₁=>?_) hkind)
  have I3:Inv X pins σ (upd H2 s2.heap.objs.size (.lst [])) { s2 with heap:=s2.heap.push { cls:=.type "list",data:=.seq ([]:List Value).toArray } }:=I2.lnew (its:=[]) (t':=s2.toks) .nil (Nat.zero_le _)
  have fr:H2 s2.heap.objs.size=none:=I2.fresh
  have hold:∀ b o,(s2.heap.push { cls:=.type "list",data:=.seq ([]:List Value).toArray }).get? b=some o→h₁.get? b=some o:=fun b o e=>hsb₁.extBut b o (Nat.ne_of_lt (Heap.lt_size e)) (Heap.get?_push_of_some _ e)
  have f3:∀ b∈fp,FpOk X pins (upd H2 s2.heap.objs.size (.lst [])) b:=fun b hb=>by
    obtain ⟨o,eo,_⟩:=T.obj 0 _ st2 b hb
    exact ⟨by rw [upd_ne (Nat.ne_of_lt (Heap.lt_size eo))]; exact (f2 b hb).1,(f2 b hb).2⟩
  have fo:∀ b∈fp,∃ o,(s2.heap.push { cls:=.type "list",data:=.seq ([]:List Value).toArray }).get? b=some o:=fun b hb=>by
    obtain ⟨o,eo,_⟩:=T.obj 0 _ st2 b hb
    exact ⟨o,Heap.get?_push_of_some _ eo⟩
  generalize hP:s2.heap.push { cls:=.type "list",data:=.seq ([]:List Value).toArray }=P at *
  obtain ⟨W,⟨m0,w0⟩,turn⟩:=q s2.heap.objs.size fr
  generalize hL:s2.heap.objs.size=L at *
  let R:Result→Shared→Prop:=compPost (model X.prog X.w) X.A X.xe none (EP X pins σ Q) (.ref L) P.objs.size
  let Y:Cx:=blockCx X scope N cl P.objs.size { s2 with heap:=P } (upd H2 L (.lst [])) fp (X.pn++pins) (notedBy (model X.prog X.w) X.A (compEnvC scope cl P.objs.size X.env) fun e s'=>R (.error e) s')
  have IY:Inv Y [] (lift σ) (upd H2 L (.lst [])) { s2 with heap:=h₁,toks:=s2.toks+([]:List (Str × Value)).length } :=
    block_ok (s:={ s2 with heap:=P }) I3 hkind hcell hfree hcl1 hcl2 f3 fo (hlen σ I.len) (fun i x v=>hσ σ i x v I.len) hns₁ hold
  have stY:tn 0 h₁:=T.keep _ _ _ st2 fun b hb o e=>hold b o (by rw [← hP]; exact Heap.get?_push_of_some _ e)
  have fC:∀ b∈fp,b≠P.objs.size∧(b∈fp):=fun b hb=>by
    obtain ⟨o,eo⟩:=fo b hb
    exact ⟨Nat.ne_of_lt (Heap.lt_size eo),hb⟩
  have fpY:∀ {H':Hp},(∀ b∈fp,H' b=none)→∀ b∈fp,FpOk Y [] H' b:=fun {H'} hn b hb=>by
    refine ⟨hn b hb,(fC b hb).1,fun z=>?_,.inl hb,fun x c ex=>(f3 b hb).2.2.2.2.1 x c (hcl2 _ _ ex),fun p hp=>?_⟩
    · rcases List.mem_cons.mp (I3.stkSub b z) with y | y
      · exact (f3 b hb).2.1 y
      · exact (f3 b hb).2.2.1 y
    · have hp':p∈(X.pn++pins)++[]:=hp
      rw [List.append_nil] at hp'
      exact (f3 b hb).2.2.2.2.2 p hp'
  have loop:∀ s4:Shared,s4={ s2 with heap:=h₁,toks:=s2.toks+([]:List (Str × Value)).length } →
      codeAny (model X.prog X.w) X.A (.compLoop (.ListComp elt [⟨tg,iter,ifs,0⟩] scope pos) 0 (.ref it) (.ref L) (compEnvC scope cl P.objs.size X.env)) R s4:=by
    rintro s4 rfl
    refine codeAny_compLoop_any (fun n s'=>∃ i σ' H',Inv Y [] σ' H' s'∧tn i s'.heap∧(∀ b∈fp,H' b=none)∧W i n σ' H') ?_ m0 ⟨0,_,_,IY,stY,fun b hb=>(f3 b hb).1,w0⟩
    rintro n s5 ⟨i,σ5,H5,I5,st5,fr5,w5⟩
    rcases turn i n σ5 H5 w5 with ⟨stop,qn⟩ | ⟨go,Nx,hNx,step⟩
    · refine thn (T.done Y rfl rfl rfl hc i [] s5 σ5 H5 Y.xe I5 (fpY fr5) st5 stop) fun r s6 ⟨hr,I6⟩=>?_
      subst hr
      show R (.ok .next) s6
      obtain ⟨m6,hn6,_⟩:=id I6.loc
      have IX:Inv X pins σ H5 s6:=I3.call' (s':=s6) (ch:=fp) I6.os I6.base I6.hok I6.bare fun b hb=>⟨(f3 b hb).2.2.2.1,(f3 b hb).2.1,(f3 b hb).2.2.2.2.1,(f3 b hb).2.2.2.2.2⟩
      refine ⟨m6,hn6,fun h' sb=>⟨.ref L,H5,IX.turned (t':=s6.toks) (it:=P.objs.size) (fun b o hb e=>(sb.2 b hb).trans e) I6.free (Nat.ne_of_gt I3.lt) (.inr I3.sz) (fun x c ec z=>?_) fun p hp z=>?_,rfl,qn⟩⟩
      · obtain ⟨v0,qv⟩:=I3.cell x c ec
        exact absurd qv.lt (by rw [z]; exact Nat.lt_irrefl _)
      · have z0:=Heap.lt_size (I3.pin p hp).1
        exact absurd z0 (by rw [z]; exact Nat.lt_irrefl _)
    · refine thn (T.item Y rfl rfl rfl hc i [] s5 σ5 H5 Y.xe I5 (fpY fr5) st5 go) fun r s6 ⟨u,hr,h6⟩=>?_
      subst hr
      refine thn h6 fun _ s7 ⟨x,H7,I7,r7,y7,st7,fr7⟩=>?_
      have I7':=I7.pinned (fpY fr7) (T.obj _ _ st7)
      refine thn (hg _ _ _ _ _ _ _ _ s7 σ5 H7 x u _ I7' r7 (step x H7 y7)) fun _ s8 ⟨σ8,H8,I8,q8⟩=>?_
      refine thn (ht _ _ _ _ _ _ _ _ s8 σ8 H8 _ I8 q8) fun ok s9 ⟨H9,I9,q9⟩=>?_
      have again:∀ {sx:Shared} {Hx:Hp},Inv Y ([]++pinsAt fp s7.heap) σ8 Hx sx→Nx σ8 Hx→∃ m,m < n∧∃ i σ' H',Inv Y [] σ' H' sx∧tn i sx.heap∧(∀ b∈fp,H' b=none)∧W i m σ' H':=fun {sx Hx} Ix nx=>by
        obtain ⟨m',hm,wx⟩:=hNx σ8 Hx nx
        refine ⟨m',hm,i+1,σ8,Hx,Ix.unpinned,T.keep _ _ _ st7 fun b hb o e=>(Ix.pin (b,o) (List.mem_append_right _ (List.mem_append_right _ (mem_pinsAt hb e)))).1,fun b hb=>?_,wx⟩
        obtain ⟨o,e,d⟩:=T.obj _ _ st7 b hb
        exact (Ix.pin (b,o) (List.mem_append_right _ (List.mem_append_right _ (mem_pinsAt hb e)))).2.1
      cases ok with
      | false =>
        rw [if_neg Bool.false_ne_true] at q9 ⊢
        exact again I9 q9
      | true =>
        rw [if_pos rfl] at q9 ⊢
        refine thn (he _ _ _ _ _ _ _ _ s9 σ8 H9 _ I9 q9) fun y s10 ⟨v10,H10,I10,r10,ys,hys,hz,q10⟩=>?_
        refine thn (mt_append (X:=Y) _ s10 σ8 H10 (.ref L) [v10] (.ref L) [y] (fun _ H'=>Nx σ8 H') I10 rfl (.cons r10 .nil) ⟨L,ys,v10,rfl,rfl,hys,hz,q10⟩) fun _ s11 ⟨_,H11,I11,_,q11⟩=>?_
        exact again I11 q11
  exact codeAny_compStart_list (loop _ rfl) (T.self X.A 0 _ _ _ stY (loop _ rfl))
end L2
namespace L2
open PySem PySem.Spec PyProof.Rows
theorem comp_by {J:It} {g:TG} {tc:TT} {te:TE} {R:Hp→Prop} {l:Addr} {σ0:St} {H0:Hp} (n:Nat) (Pv:Nat→St→Hp→Prop) (h0:Pv 0 σ0 H0) (hstop:∀ σ H,Pv n σ H→J.stop n H∧R H)
    (hgo:∀ i σ H,i < n→Pv i σ H→J.go i H∧∀ x H',J.yld i H x H'→g x σ H' fun σ2 H2=>tc σ2 H2 fun b H3=>if b=true then te σ2 H3 fun v H4=>∃ ys,H4 l=some (.lst ys)∧ys.length < sizeLine∧Pv (i+1) σ2 (upd H4 l (.lst (ys++[v]))) else Pv (i+1) σ2 H3) :
    ∃ W:Nat→Nat→St→Hp→Prop,(∃ m,W 0 m σ0 H0)∧∀ i m σ H,W i m σ H →
      (J.stop i H∧R H)∨(J.go i H∧∃ N:St→Hp→Prop,(∀ σ' H',N σ' H'→∃ m',m' < m∧W (i+1) m' σ' H') ∧
        ∀ x H',J.yld i H x H'→g x σ H' fun σ2 H2=>tc σ2 H2 fun b H3=>if b=true then te σ2 H3 fun v H4=>∃ ys,H4 l=some (.lst ys)∧ys.length < sizeLine∧N σ2 (upd H4 l (.lst (ys++[v]))) else N σ2 H3):=by
  refine ⟨fun i m σ H=>m=n - i∧i≤n∧Pv i σ H,⟨n,by simp,Nat.zero_le _,h0⟩,?_⟩
  rintro i m σ H ⟨rfl,hi,p⟩
  by_cases hlt:i < n
  · obtain ⟨go,st⟩:=hgo i σ H hlt p
    exact .inr ⟨go,Pv (i+1),fun σ' H' p'=>⟨n - (i+1),by omega,rfl,hlt,p'⟩,st⟩
  · have e:i=n:=by omega
    subst e
    exact .inl (hstop σ H p)
theorem yesT {σ:St} {H:Hp} {F:Bool→Hp→Prop} (h:F true H):tYes σ H F:=h
theorem gN {i:Nat} {v:V} {σ:St} {H:Hp} {Q:St→Hp→Prop} (h:Q (σ.set i (some v)) H):gName i v σ H Q:=h
noncomputable def Its (x:Str):It:=⟨fun i _=>i < x.cps.size,fun i H v H'=>H'=H∧∃ c,x.cps[i]?=some c∧v=.str ⟨#[c]⟩,fun i _=>x.cps.size≤i⟩
theorem turn_str {P:Program} {w:World} {K:PySem.W.Frag} {tg:Expr} {it:Addr} {x:Str} {t:Tok} {ty:String} (hty:ty = "str_ascii_iterator"∨ty = "str_iterator") :
    Turn P w K tg (Its x) [it] it (fun i h=>i≤x.cps.size∧h.IsStrIter it ty x t i) where
  mem:=by simp
  obj:=fun i h st b hb=>by
    have e:b=it:=by simpa using hb
    subst e
    obtain ⟨_,o,e,c,d⟩:=st
    exact ⟨o,e,fun v z=>by rw [d] at z; cases z⟩
  keep:=fun i h h' st k=>by
    obtain ⟨hi,o,e,r⟩:=st
    exact ⟨hi,o,k it (by simp) o e,r⟩
  item:=by
    intro X hP hw hK hc i pins s σ H E I hf st hg
    subst hP hw hK
    obtain ⟨f0,f1,f2,f3,f4,f5⟩:=hf it (by simp)
    have hlt:i < x.cps.size:=hg
    obtain ⟨_,st⟩:=st
    have W:Walks X.prog X.w X.A it [it] [it] x.cps.size (SignAt x) (fun i h=>h.IsStrIter it ty x t i):=by
      rcases hty with rfl | rfl
      · exact Walks.strAscii (I.ok.hd hc) it x t
      · exact Walks.strWide (I.ok.hd hc) it x t
    refine W.item i s _ _ hlt st fun v h' tk hv st' kk=>?_
    obtain ⟨c,u,hc',rfl⟩:=hv
    have I1:Inv X pins σ H { s with heap:=h',toks:=tk }:=I.turned (fun b o hb e=>kk b o (by simpa using hb) e) f0 f1 f3 f4 f5
    obtain ⟨o,e,c2,d⟩:=id st'
    refine ⟨_,rfl,go_of (s:={ s with heap:=h',toks:=tk }) (n:=ty) e c2 d ?_ ⟨.str ⟨#[c]⟩,H,I1,⟨u,rfl⟩,⟨rfl,c,hc',rfl⟩,⟨by omega,st'⟩,fun b hb=>(hf b hb).1⟩⟩
    rcases hty with rfl | rfl <;> decide
  done:=by
    intro X hP hw hK hc i pins s σ H E I hf st hg
    subst hP hw hK
    obtain ⟨f0,f1,f2,f3,f4,f5⟩:=hf it (by simp)
    have hge:x.cps.size≤i:=hg
    obtain ⟨hi,st⟩:=st
    have e:i=x.cps.size:=by omega
    subst e
    have W:Walks X.prog X.w X.A it [it] [it] x.cps.size (SignAt x) (fun i h=>h.IsStrIter it ty x t i):=by
      rcases hty with rfl | rfl
      · exact Walks.strAscii (I.ok.hd hc) it x t
      · exact Walks.strWide (I.ok.hd hc) it x t
    exact W.done s _ _ st fun h' tk kk=>⟨rfl,I.turned (fun b o hb e=>kk b o (by simpa using hb) e) f0 f1 f3 f4 f5⟩
  self:=fun A i s Q E st h=>by
    obtain ⟨_,st⟩:=st
    rcases hty with rfl | rfl
    · exact wpAny_pyIter_striter_ascii st h
    · exact wpAny_pyIter_striter_wide st h
noncomputable def iStr (tl:TE):TI:=fun σ H R=>tl σ H fun v H1=>∃ x,v=.str x∧R (Its x) H1
theorem pi_str {X:Cx} {tg l:Expr} {tl:TE} (hl:PE X l tl):PI X tg l (iStr tl):=by
  intro pins s σ H R I h
  refine thn (hl pins s σ H _ I h) fun v s1 ⟨y,H1,I1,r1,q1⟩=>?_
  obtain ⟨x,e,q⟩:=q1
  subst e
  obtain ⟨t,rfl⟩:=r1
  refine wpAny_pyIter_strU ?_
  have hty:strIterType x = "str_ascii_iterator"∨strIterType x = "str_iterator":=by
    unfold strIterType
    split
    · exact .inl rfl
    · exact .inr rfl
  refine ⟨s1.heap.objs.size,[s1.heap.objs.size],_,_,H1,rfl,I1.kept (t':=s1.toks) fun b o e=>Heap.get?_push_of_some _ e,turn_str (t:=t) hty,⟨Nat.zero_le _,_,Heap.get?_push_size _ rfl,rfl,rfl⟩,fun b hb=>?_,q⟩
  have e:b=s1.heap.objs.size:=by simpa using hb
  subst e
  exact I1.fpOk (Nat.le_refl _) (I1.hok.fresh (Nat.le_refl _))
theorem for_str {x:Str} {g:TG} {tb:TS} {D:Ends} {σ:St} {H:Hp} (Pv:Nat→St→Hp→Prop) (h0:Pv 0 σ H)
    (hs:∀ i c σ H,x.cps[i]?=some c→Pv i σ H→g (.str ⟨#[c]⟩) σ H fun σ2 H2=>tb { D with nx:=Pv (i+1),ct:=Pv (i+1),bk:=D.nx } σ2 H2) (hd:∀ σ H,Pv x.cps.size σ H→D.nx σ H) :
    ∃ W:Nat→Nat→St→Hp→Prop,(∃ m,W 0 m σ H)∧∀ i m σ H,W i m σ H →
      ((Its x).stop i H∧D.nx σ H)∨((Its x).go i H∧∃ N:St→Hp→Prop,(∀ σ' H',N σ' H'→∃ m',m' < m∧W (i+1) m' σ' H')∧∀ v H',(Its x).yld i H v H'→g v σ H' fun σ2 H2=>tb { D with nx:=N,ct:=N,bk:=D.nx } σ2 H2):=by
  refine ⟨fun i m σ H=>m=x.cps.size - i∧i≤x.cps.size∧Pv i σ H,⟨x.cps.size,by simp,Nat.zero_le _,h0⟩,?_⟩
  rintro i m σ H ⟨rfl,hi,p⟩
  by_cases hlt:i < x.cps.size
  · refine .inr ⟨hlt,Pv (i+1),fun σ' H' p'=>⟨x.cps.size - (i+1),by omega,rfl,hlt,p'⟩,fun v H' y=>?_⟩
    obtain ⟨e,c,hc,rfl⟩:=y
    subst e
    exact hs i c σ _ hc p
  · have e:i=x.cps.size:=by omega
    subst e
    exact .inl ⟨Nat.le_refl _,hd σ H p⟩
noncomputable def Ite (K:PySem.W.Frag) (a:Addr):It :=
  ⟨fun i H=>∃ xs x,SqL K H a xs∧xs[i]?=some x,fun i H v H'=>∃ t x,v=.ref t∧H t=none∧H'=upd H t (.tup [.int (i:Nat),x])∧∀ xs,SqL K H a xs→xs[i]?=some x,fun i H=>∃ xs,SqL K H a xs∧xs.length≤i⟩
theorem Inv.turnedT {X:Cx} {pins:List (Addr × Obj)} {σ:St} {H:Hp} {s:Shared} {h':Heap} {t':Nat} {e it:Addr} {xs:List V} {its:List Value} (I:Inv X pins σ H s) (k:∀ b o,b≠e→b≠it→s.heap.get? b=some o→h'.get? b=some o)
    (fe:FpOk X pins H e) (fi:FpOk X pins H it) (he:∃ o,s.heap.get? e=some o) (hi:∃ o,s.heap.get? it=some o) (hv:Vals xs its) (hz:xs.length≤sizeLine)
    (hn:h'.get? s.heap.objs.size=some { cls:=.type "tuple",data:=.seq its.toArray }):Inv X pins σ (upd H s.heap.objs.size (.tup xs)) { s with heap:=h',toks:=t' }:=by
  have fr:H s.heap.objs.size=none:=I.fresh
  have nel:∀ b o,s.heap.get? b=some o→b≠s.heap.objs.size:=fun b o q=>Nat.ne_of_lt (Heap.lt_size q)
  refine I.step (g':=s.gens) (d':=s.drawn) (ch:=[e,it]) (fun b hb=>?_) (fun b o _ _ hc q _=>k b o (fun z=>hc (by simp [z])) (fun z=>hc (by simp [z])) q)
    (fun b o _ _ hc q _=>⟨o.slots,k b o (fun z=>hc (by simp [z])) (fun z=>hc (by simp [z])) q⟩) (fun b o _ q n=>by rw [upd_ne (nel b o q)]; exact n)
    (fun b o hc q=>⟨o,k b o (fun z=>hc (by simp [z])) (fun z=>hc (by simp [z])) q⟩) (fun b ys q=>by rw [upd_ne (ne_of_none q fr)]; exact q) (fun b o u q=>by rw [upd_ne (ne_of_none q fr)]; exact q) (fun b ps q=>⟨#[],by rw [upd_ne (ne_of_none q fr),q]; simp⟩)
    (fun m hm=>?_) (fun b u q=>?_) I.bare
  · have hb':b=e∨b=it:=by simpa using hb
    rcases hb' with rfl | rfl
    · exact ⟨fe.2.2.2.1,fe.2.1,fe.2.2.2.2.1,fe.2.2.2.2.2⟩
    · exact ⟨fi.2.2.2.1,fi.2.1,fi.2.2.2.2.1,fi.2.2.2.2.2⟩
  · obtain ⟨o,es,ep,ho,r⟩:=hm
    exact ⟨o,es,ep,k _ o (Ne.symm fe.2.1) (Ne.symm fi.2.1) ho,r⟩
  · by_cases hb:b=s.heap.objs.size
    · subst hb
      rw [upd_same] at q
      cases q
      exact ⟨hz,its,hv,_,hn,rfl,_,rfl⟩
    · rw [upd_ne hb] at q
      refine (I.hok b u q).stay (fun c v hc q'=>k c v ?_ ?_ q') (fun c q'=>by rw [upd_ne (ne_of_none q' fr)]; exact q') fun c ys q'=>by rw [upd_ne (ne_of_none q' fr)]; exact q'
      · rintro rfl
        rcases hc with z | z
        · rw [← z,fe.1] at q; cases q
        · rw [fe.1] at z; cases z
      · rintro rfl
        rcases hc with z | z
        · rw [← z,fi.1] at q; cases q
        · rw [fi.1] at z; cases z
theorem turn_enum {P:Program} {w:World} {K:PySem.W.Frag} {elts:List Expr} {k1:Nat} {p1:Pos} (a e it:Addr) (hne:e≠it) :
    Turn P w K (.Tuple elts k1 p1) (Ite K a) [e,it] e (fun i h=>(∃ old,IsEnum h e it ((i:Nat):Int) old)∧h.IsListIter it a i) where
  mem:=by simp
  obj:=fun i h st b hb=>by
    obtain ⟨⟨old,he⟩,o,ho,c,d⟩:=st
    have hb':b=e∨b=it:=by simpa using hb
    rcases hb' with rfl | rfl
    · exact ⟨_,he,fun v z=>by
        have z':Data.fields _=Data.cell v:=z
        cases z'⟩
    · exact ⟨o,ho,fun v z=>by rw [d] at z; cases z⟩
  keep:=fun i h h' st k=>by
    obtain ⟨⟨old,he⟩,hit⟩:=st
    exact ⟨⟨old,k e (by simp) _ he⟩,hit.at fun o q=>k it (by simp) o q⟩
  item:=by
    intro X hP hw hK hc i pins s σ H E I hf st hg
    subst hP hw hK
    obtain ⟨xs,x,hq,hx⟩:=hg
    obtain ⟨its,rv,p,hz⟩:=I.list hq
    obtain ⟨u,hu,ru⟩:=rv.get hx
    obtain ⟨⟨old,he⟩,hit⟩:=st
    have fe:=hf e (by simp)
    have fi:=hf it (by simp)
    obtain ⟨oi,hoi,_⟩:=id hit
    refine wpAny_pyNext_enum_item he hit p.isList (x:=u) (by simpa using hu) hne fun h1 heo hit1 ht1 hz1 hk1=>?_
    refine ⟨_,rfl,wpAny_letOwnedTupleGo_enum heo fun h2 he2 hs2=>?_⟩
    have hs2':Heap.SameBut e h1 h2:=hs2
    have hel:e < s.heap.objs.size:=Heap.lt_size he
    have I1:Inv X pins σ (upd H s.heap.objs.size (.tup [.int (i:Nat),x])) { s with heap:=h2,toks:=s.toks+1 } :=
      I.turnedT (its:=[.int i s.toks,u]) (fun b o h1' h2' q=>hs2'.extBut b o h1' (hk1 b o h1' h2' q)) fe fi ⟨_,he⟩ ⟨_,hoi⟩ (.cons ⟨_,rfl⟩ (.cons ru .nil)) (by show 2≤sizeLine; decide) ((hs2'.2 _ (Nat.ne_of_gt hel)).trans ht1)
    refine ⟨.ref s.heap.objs.size,_,I1,rfl,⟨s.heap.objs.size,x,rfl,I.fresh,rfl,fun ys hy=>by rw [I.list_inj hy hq]; exact hx⟩,⟨⟨u,?_⟩,hit1.extBut hs2'.extBut (Ne.symm hne)⟩,fun b hb=>?_⟩
    · have e3:(((i+1:Nat)):Int)=(i:Int)+1:=by push_cast; rfl
      rw [e3]
      exact he2
    · have hb':b=e∨b=it:=by simpa using hb
      have hbl:b≠s.heap.objs.size:=by
        rcases hb' with rfl | rfl
        · exact Nat.ne_of_lt (Heap.lt_size he)
        · exact Nat.ne_of_lt (Heap.lt_size hoi)
      rw [upd_ne hbl]
      exact (hf b hb).1
  done:=by
    intro X hP hw hK hc i pins s σ H E I hf st hg
    subst hP hw hK
    obtain ⟨xs,hq,hx⟩:=hg
    obtain ⟨its,rv,p,hz⟩:=I.list hq
    obtain ⟨⟨old,he⟩,hit⟩:=st
    obtain ⟨f0,f1,f2,f3,f4,f5⟩:=hf it (by simp)
    have hl:=rv.length
    exact wpAny_pyNext_enum_end (I.ok.hd hc) he hit p.isList (by simp; omega) fun h' eb=>⟨rfl,I.turned (t':=s.toks) (fun b o hb e=>eb b o hb e) f0 f1 f3 f4 f5⟩
  self:=fun A i s Q E st h=>by
    obtain ⟨⟨old,he⟩,hit⟩:=st
    exact wpAny_pyIter_enum he h
noncomputable def iEnum (K:PySem.W.Frag) (ta:TA):TI:=fun σ H R=>ta σ H fun vs H1=>∃ a,vs=[.ref a]∧(∃ xs,SqL K H1 a xs)∧R (Ite K a) H1
theorem pi_enum {X:Cx} {elts:List Expr} {k1:Nat} {p1:Pos} {a:Expr} {ta:TA} {p pos:Pos} (hg:Gl X "enumerate") (hm:X.mg "enumerate" = none) (ha:PA X [a] ta) (hs:starEach [a] X.env=[(false,eval a X.env)]:=by rfl)
    (hb:bootBuiltins "enumerate" = some (.type "enumerate"):=PyProof.Rows.boot_enumerate):PI X (.Tuple elts k1 p1) (.Call (.Name "enumerate" p) [a] [] pos) (iEnum X.K ta):=by
  intro pins s σ H R I h
  refine Call_ (ld_blt I hg hm hb (PyProof.Rows.callWith_type1 (thn (ha pos pins s σ H _ I h) fun us s1 ⟨vs,H1,I1,r1,q1⟩=>?_) hs rfl))
  obtain ⟨l,e,⟨xs,hq⟩,q⟩:=q1
  subst e
  cases r1 with
  | cons r rr =>
    cases rr
    cases r
    obtain ⟨its,rv,pl,hz⟩:=I1.list hq
    refine call_enumerate_list pl.isList fun h' he hit hsz hk=>?_
    refine wpAny_pyIter_enum he ?_
    have I2:Inv X pins σ H1 { s1 with heap:=h' }:=I1.kept (t':=s1.toks) hk
    refine ⟨s1.heap.objs.size+1,[s1.heap.objs.size+1,s1.heap.objs.size],_,_,H1,rfl,I2,turn_enum l _ _ (Nat.succ_ne_self _),⟨⟨_,he⟩,hit⟩,fun b hb=>?_,q⟩
    have hb':b=s1.heap.objs.size+1∨b=s1.heap.objs.size:=by simpa using hb
    rcases hb' with rfl | rfl
    · exact I1.fpOk (Nat.le_succ _) (I1.hok.fresh (Nat.le_succ _))
    · exact I1.fpOk (Nat.le_refl _) (I1.hok.fresh (Nat.le_refl _))
theorem for_enum {K:PySem.W.Frag} {a:Addr} {xs:List V} {g:TG} {tb:TS} {D:Ends} {σ:St} {H:Hp} (Pv:Nat→St→Hp→Prop) (h0:Pv 0 σ H) (hl:∀ i σ H,i≤xs.length→Pv i σ H→SqL K H a xs)
    (hs:∀ i x t σ H,xs[i]?=some x→Pv i σ H→H t=none→g (.ref t) σ (upd H t (.tup [.int (i:Nat),x])) fun σ2 H2=>tb { D with nx:=Pv (i+1),ct:=Pv (i+1),bk:=D.nx } σ2 H2) (hd:∀ σ H,Pv xs.length σ H→D.nx σ H) :
    ∃ W:Nat→Nat→St→Hp→Prop,(∃ m,W 0 m σ H)∧∀ i m σ H,W i m σ H →
      ((Ite K a).stop i H∧D.nx σ H)∨((Ite K a).go i H∧∃ N:St→Hp→Prop,(∀ σ' H',N σ' H'→∃ m',m' < m∧W (i+1) m' σ' H')∧∀ x H',(Ite K a).yld i H x H'→g x σ H' fun σ2 H2=>tb { D with nx:=N,ct:=N,bk:=D.nx } σ2 H2):=by
  refine ⟨fun i m σ H=>m=xs.length - i∧i≤xs.length∧Pv i σ H,⟨xs.length,by simp,Nat.zero_le _,h0⟩,?_⟩
  rintro i m σ H ⟨rfl,hi,p⟩
  have q:=hl i σ H hi p
  by_cases hlt:i < xs.length
  · refine .inr ⟨⟨xs,xs[i],q,by simp [hlt]⟩,Pv (i+1),fun σ' H' p'=>⟨xs.length - (i+1),by omega,rfl,hlt,p'⟩,fun v H' y=>?_⟩
    obtain ⟨t,x,rfl,ht,rfl,y⟩:=y
    exact hs i x t σ _ (y xs q) p ht
  · have e:i=xs.length:=by omega
    subst e
    exact .inl ⟨⟨xs,q,Nat.le_refl _⟩,hd σ H p⟩
theorem call_isinst {X:Cx}:CallR X (.builtin "isinstance") (fun xs H Q=>∃ x n t b,xs=[x,.ty n]∧TyOf X.K H x t∧PySem.W.kitOne X.K t (.type n)=some b∧Q (.bl b) H):=by
  intro pins s σ H xs us Q I r h
  obtain ⟨x,n,t,b,rfl,ty,e,q⟩:=h
  obtain ⟨u,v,rfl,ru,rv⟩:=vals2 r
  cases rv
  exact isinst_ok I ru ty e fun tk=>⟨.bl b,H,I.tok _,rfl,q⟩
noncomputable def CDivB (i j:Int):Prop:=0 < j∧j < 2 ^ 64
theorem op_fdivB {X:Cx}:OpR X (binaryOp .FloorDiv) (rI CDivB fun i j=>.int (i / j)):=opI fun i j _ _ _ _ _ hc q=>by
  have h1:(0:Int) < j:=hc.1
  have h2:j < 2 ^ 64:=hc.2
  refine floordiv_int (by omega) (by rw [Int.fdiv_eq_ediv_of_nonneg i (by omega)]; exact q) (.inl (PyProof.noPylong_of_log2 ?_))
  have h3:j.natAbs≠0:=by omega
  have h4:j.natAbs < 2 ^ 64:=by omega
  have h5:j.natAbs.log2 < 64:=(Nat.log2_lt h3).mpr h4
  omega
end L2
namespace L2
open PySem PySem.Spec PyProof.Rows
noncomputable def liftBy (js:List (Option Nat)) (σ:St):St:=js.map fun j=>match j with | some j=>σ.getD j none | none=>none
noncomputable def chkLift (N:List Str) (js:List (Option Nat)) (XN:List Str) (names:List (Str × NameKind)):Bool :=
  decide (N.length=js.length) && (N.zip js).all fun p=>match p.2 with | none=>true | some j=>decide (XN[j]?=some p.1) && decide (names.lookup p.1=some .free)
theorem chk_len {N:List Str} {js:List (Option Nat)} {XN:List Str} {names:List (Str × NameKind)} (h:chkLift N js XN names=true) (σ:St):(liftBy js σ).length=N.length:=by
  unfold chkLift at h
  rw [Bool.and_eq_true] at h
  unfold liftBy
  rw [List.length_map]
  exact (of_decide_eq_true h.1).symm
theorem chk_at {N:List Str} {js:List (Option Nat)} {XN:List Str} {names:List (Str × NameKind)} (h:chkLift N js XN names=true) (σ:St) (i:Nat) (x:Str) (v:V) (h1:N[i]?=some x) (h2:(liftBy js σ)[i]?=some (some v)) :
    names.lookup x=some .free∧∃ j:Nat,XN[j]?=some x∧σ[j]?=some (some v):=by
  unfold chkLift at h
  rw [Bool.and_eq_true,List.all_eq_true] at h
  unfold liftBy at h2
  rw [List.getElem?_map] at h2
  cases e:js[i]? with
  | none=>rw [e] at h2; cases h2
  | some j =>
    rw [e] at h2
    cases j with
    | none=>cases h2
    | some j =>
      have h3:σ.getD j none=some v:=Option.some.inj h2
      have hm:(x,some j)∈N.zip js:=by
        refine List.mem_of_getElem? (i:=i) ?_
        rw [List.getElem?_zip_eq_some]
        exact ⟨h1,e⟩
      have q:=h.2 _ hm
      simp only [Bool.and_eq_true,decide_eq_true_eq] at q
      refine ⟨q.2,j,q.1,?_⟩
      rw [List.getD_eq_getElem?_getD] at h3
      cases e2:σ[j]? with
      | none=>rw [e2] at h3; cases h3
      | some o=>rw [e2] at h3; exact congrArg some h3
theorem pe_compL {X:Cx} {elt tg iter:Expr} {ifs:List Expr} {scope:Scope} {pos:Pos} {wi:TI} {g:TG} {tc:TT} {te:TE} (XN:List Str) (sc:Scope) (N:List Str) (js:List (Option Nat)) (hXN:X.N=XN) (hsc:X.env.scope=sc) (hc:X.calm=true) (hi:PI X tg iter wi)
    (hkind:scope.kind=.function) (hchk:chkLift N js XN scope.names=true) (hcell:∀ y∈scope.names,y.2≠.cell) (hfree:∀ y∈scope.names,y.2=.free→sc.names.lookup y.1=some .cell∨sc.names.lookup y.1=some .free)
    (hnames:∀ y∈scope.names,y.2=.local→scope.names.lookup y.1=some .local)
    (hg:∀ cl C s H ex pn E,PG (blockCx X scope N cl C s H ex pn E) tg g) (ht:∀ cl C s H ex pn E,PIfs (blockCx X scope N cl C s H ex pn E) ifs tc) (he:∀ cl C s H ex pn E,PE (blockCx X scope N cl C s H ex pn E) elt te)
    (hs:∀ x,foldedSetIterable iter X.env x=pure x:=by intro _; rfl) :
    PE X (.ListComp elt [⟨tg,iter,ifs,0⟩] scope pos) (tComp wi g tc te (liftBy js)):=by
  subst hXN
  subst hsc
  exact pe_comp N (liftBy js) hc hi hkind hcell hfree hnames (fun σ _=>chk_len hchk σ) (fun σ i x v _ h1 h2=>chk_at hchk σ i x v h1 h2) hg ht he hs
theorem kit_tt (K:PySem.W.Frag) {T U:String} {b:Bool} (h:(if (Value.type T == Value.type U)=true then some true else (if PySem.W.kitMeta U=true then (fastBuiltinMro T).map (·.contains (.type U)) else none))=some b) :
    PySem.W.kitOne K (.type T) (.type U)=some b:=h
theorem kit_int_tuple (K:PySem.W.Frag):PySem.W.kitOne K (.type "int") (.type "tuple")=some false:=kit_tt K (by decide +kernel)
theorem kit_int_bool (K:PySem.W.Frag):PySem.W.kitOne K (.type "int") (.type "bool")=some false:=kit_tt K (by decide +kernel)
theorem kit_int_str (K:PySem.W.Frag):PySem.W.kitOne K (.type "int") (.type "str")=some false:=kit_tt K (by decide +kernel)
theorem kit_int_int (K:PySem.W.Frag):PySem.W.kitOne K (.type "int") (.type "int")=some true:=kit_tt K (by decide +kernel)
theorem atI_lt {α:Type} {xs:List α} {r:Int} (h0:0≤r) (h1:r < xs.length):∃ v,atI xs r=some v∧v∈xs:=by
  have hk:r.toNat < xs.length:=by omega
  have ek:r=((r.toNat:Nat):Int):=by omega
  refine ⟨xs[r.toNat],?_,List.getElem_mem hk⟩
  have q:atI xs ((r.toNat:Nat):Int)=some xs[r.toNat]:=atI_nat (List.getElem?_eq_getElem hk)
  rw [← ek] at q
  exact q
theorem cutV_ints (ns:List Int) (lo hi:Option Int):∃ ms:List Int,cutV (ns.map V.int) lo hi=ms.map V.int∧ms.length≤ns.length:=by
  refine ⟨(ns.drop (HT.sIx ns.length 0 lo)).take (HT.sIx ns.length ns.length hi - HT.sIx ns.length 0 lo),?_,?_⟩
  · unfold cutV
    rw [List.length_map,List.map_take,List.map_drop]
  · rw [List.length_take,List.length_drop]
    omega
theorem same_new {H:Hp} {p:Addr} (h:H p=none) (o:HO):Same H (upd H p o):=fun b u q=>by rw [upd_ne (ne_of_none q h)]; exact q
theorem map_int_at {ns:List Int} {i:Nat} {y:V} (h:(ns.map V.int)[i]?=some y):∃ z,y=V.int z:=by
  rw [List.getElem?_map] at h
  cases e:ns[i]? with
  | none=>rw [e] at h; cases h
  | some z=>rw [e] at h; exact ⟨z,(Option.some.inj h).symm⟩
theorem small {n:Nat} (h:n≤1000):n≤sizeLine:=Nat.le_of_lt (small1000 h)
theorem smn (n:Nat) (h:n≤1000:=by decide):n≤sizeLine:=small h
theorem sizeLine_big:(1000000:Nat)≤sizeLine:=by rw [sizeLine_eq]; decide
structure Pot (H0:Hp) (p:Addr) (H:Hp):Prop where
  at_:∃ a b:Int,H p=some (.lst [.int a,.int b])
  old:∀ c o,H0 c=some o→c≠p→H c=some o
end L2
namespace L2
open PySem PySem.Spec PyProof.Rows
noncomputable def sz:List Nat→Int
  | []=>0
  | c :: r=>(if c=32∨c=10 then 0 else 1)+sz r
end L2
namespace L2
open PySem PySem.Spec PyProof.Rows
theorem bls_at {bs:List Bool} {its:List Value} (r:Vals (bs.map V.bl) its) {i:Nat} {v:Value} (h:its.toArray[i]?=some v):v=.bool (bs.getD i true):=by
  have h':its[i]?=some v:=by simpa using h
  have hl:=r.length
  have hi:i < its.length:=(List.getElem?_eq_some_iff.mp h').1
  have hb:i < bs.length:=by rw [List.length_map] at hl; omega
  obtain ⟨u,hu,ru⟩:=r.get (i:=i) (x:=V.bl bs[i]) (by rw [List.getElem?_map,List.getElem?_eq_getElem hb]; rfl)
  rw [h'] at hu
  cases hu
  have e:bs.getD i true=bs[i]:=by rw [List.getD_eq_getElem?_getD,List.getElem?_eq_getElem hb]; rfl
  rw [e]
  exact ru
theorem all_range (bs:List Bool):(List.range bs.length).all (fun i=>bs.getD i true)=bs.all id:=by
  rw [Bool.eq_iff_iff,List.all_eq_true,List.all_eq_true]
  constructor
  · intro h b hb
    obtain ⟨i,hi,e⟩:=List.getElem_of_mem hb
    have q:=h i (List.mem_range.mpr hi)
    rw [List.getD_eq_getElem?_getD,List.getElem?_eq_getElem hi] at q
    rw [← e]
    exact q
  · intro h i hi
    have hi':=List.mem_range.mp hi
    rw [List.getD_eq_getElem?_getD,List.getElem?_eq_getElem hi']
    exact h _ (List.getElem_mem hi')
theorem call_allB {X:Cx} (hc:X.calm=true):CallR X (.builtin "all") (fun xs H Q=>∃ (l:Addr) (bs:List Bool),xs=[.ref l]∧SqL X.K H l (bs.map V.bl)∧Q (.bl (bs.all id)) H):=by
  intro pins s σ H xs us Q I r h
  obtain ⟨l,bs,rfl,hq,q⟩:=h
  obtain ⟨u,rfl,ru⟩:=vals1 r
  cases ru
  obtain ⟨its,rv,p,hz⟩:=I.list hq
  have hd:X.A.in1.handled=none:=I.ok.hd hc
  have hl:=rv.length
  refine call_all_walk (wpAny_pyIter_list p.isList ?_)
  obtain ⟨o,n,eo,_⟩:=id p
  have hne:l≠s.heap.objs.size:=Nat.ne_of_lt (Heap.lt_size eo)
  refine ⟨s.heap.objs.size,_,_,_,_,_,fun i=>bs.getD i true,rfl,Walks.list hd s.heap.objs.size l hne its.toArray,⟨⟨_,Heap.get?_push_size _ rfl,rfl,rfl⟩,p.isList.push _⟩,fun i v s' Q' E' hv hQ'=>?_,fun h' tk hk=>?_⟩
  · rw [bls_at rv hv]
    exact wpAny_truthy_bool hQ'
  · have e:its.toArray.size=bs.length:=by rw [List.size_toArray,← hl,List.length_map]
    rw [e,all_range]
    have I1:Inv X pins σ H { s with heap:=s.heap.push { cls:=.type "list_iterator",data:=.fields #[.ref l,.int 0 0] } }:=I.kept (t':=s.toks) fun b o q=>Heap.get?_push_of_some _ q
    obtain ⟨f0,f1,f2,f3,f4,f5⟩:=I.fpOk (b:=s.heap.objs.size) (Nat.le_refl _) I.fresh
    exact ⟨.bl _,H,I1.turned (it:=s.heap.objs.size) (fun b o hb e=>hk b o (by simpa using hb) e) f0 f1 f3 f4 f5,rfl,q⟩
theorem kit_str_tuple (K:PySem.W.Frag):PySem.W.kitOne K (.type "str") (.type "tuple")=some false:=kit_tt K (by decide +kernel)
theorem kit_str_str (K:PySem.W.Frag):PySem.W.kitOne K (.type "str") (.type "str")=some true:=kit_tt K (by decide +kernel)
theorem kit_tuple_tuple (K:PySem.W.Frag):PySem.W.kitOne K (.type "tuple") (.type "tuple")=some true:=kit_tt K (by decide +kernel)
noncomputable def isNm (x:Str):Bool:=decide (1≤x.length) && decide (x.length≤8) && x.cps.toList.all fun c=>decide (97≤c∧c≤122)
end L2
namespace ZT
open PySem
open Sem (wp)
section
variable {prog:Program} {w:World} {A:Around} {E:Value→Shared→Prop} {s:Shared}
theorem tup_item {it t:Addr} {i:Nat} {its:Array Value} {x:Value} {Q:Value→Shared→Prop} (ti:s.heap.IsTupleIter it t i) (tt:s.heap.IsTuple t its) (tx:its[i]?=some x)
    (k:∀ g,g.IsTupleIter it t (i+1)→Heap.SameBut it s.heap g→Q x { s with heap:=g }):wpAny (model prog w) A (Builtin.SmallTypes.nextOf (.ref it)) Q E s:=by
  obtain ⟨o,eo,ec,ed⟩:=id ti
  obtain ⟨ol,el,_,nl,dl⟩:=tt
  unfold Builtin.SmallTypes.nextOf
  refine wpAny_bind (wpAny_callSpecial?_slot (name:=Str.ofString "__next__") ti.typeIs F.slot_tuple_iterator_next (wpAny_call_entry F.slot_tuple_iterator_next ti.typeIs F.entry_tuple_iterator_next ?_ (F.args_tuple_iterator_next_1 _)))
  show wpAny _ _ (field (.ref it) 0 >>= _) _ _ s
  refine wpAny_bind (wpAny_field eo ed (x:=.ref t) rfl ?_)
  show wpAny _ _ (if (Value.ref t == Value.none)=true then _ else _) _ _ s
  rw [if_neg (by intro z; cases z)]
  show wpAny _ _ (field (.ref it) 1 >>= _) _ _ s
  refine wpAny_bind (wpAny_field eo ed (x:=.int i 0) rfl ?_)
  show wpAny _ _ (seqItems? (.ref t) >>= _) _ _ s
  refine wpAny_bind (wpAny_seqItems el dl ?_)
  simp only [Int.toNat_natCast,tx]
  refine wpAny_bind (wpAny_setField eo ed (by simp) (wpAny_pure ⟨x,rfl,wpAny_pure (k _ ?_ (Heap.SameBut.update ..))⟩))
  refine ⟨_,Heap.get?_update_self _ eo (Obj.isFreed_of_fields (Obj.data_mapFields ed _)),(Obj.cls_mapFields ..).trans ec,?_⟩
  rw [Obj.data_mapFields ed]
  simp [rawInt]
theorem tup_end {it t:Addr} {i:Nat} {its:Array Value} {Q:Value→Shared→Prop} (hd:A.handled=none) (ti:s.heap.IsTupleIter it t i) (tt:s.heap.IsTuple t its) (tx:its[i]?=none)
    (k:∀ g e,Heap.ExtBut it s.heap g→(∃ o,g.get? e=some o∧o.cls=.type "StopIteration")→E (.ref e) { s with heap:=g }):wpAny (model prog w) A (Builtin.SmallTypes.nextOf (.ref it)) Q E s:=by
  obtain ⟨o,eo,ec,ed⟩:=id ti
  obtain ⟨ol,el,_,nl,dl⟩:=tt
  unfold Builtin.SmallTypes.nextOf
  refine wpAny_bind (wpAny_callSpecial?_slot (name:=Str.ofString "__next__") ti.typeIs F.slot_tuple_iterator_next (wpAny_call_entry F.slot_tuple_iterator_next ti.typeIs F.entry_tuple_iterator_next ?_ (F.args_tuple_iterator_next_1 _)))
  show wpAny _ _ (field (.ref it) 0 >>= _) _ _ s
  refine wpAny_bind (wpAny_field eo ed (x:=.ref t) rfl ?_)
  show wpAny _ _ (if (Value.ref t == Value.none)=true then _ else _) _ _ s
  rw [if_neg (by intro z; cases z)]
  show wpAny _ _ (field (.ref it) 1 >>= _) _ _ s
  refine wpAny_bind (wpAny_field eo ed (x:=.int i 0) rfl ?_)
  show wpAny _ _ (seqItems? (.ref t) >>= _) _ _ s
  refine wpAny_bind (wpAny_seqItems el dl ?_)
  simp only [Int.toNat_natCast,tx]
  refine wpAny_bind (wpAny_rule (wpAny_bind (wpAny_setField eo ed (by simp) ?_)))
  show wpAny _ _ (newExc (.type "StopIteration") [] >>= _) _ _ _
  refine wpAny_bind ?_
  simp only [newExc,newTuple]
  refine wpAny_bind (wpAny_newObj_type ?_ (by size_fits))
  refine wpAny_bind (m:=firstArgMember _ _) (wpAny_of_eq (a:=Value.none) (by first | rfl | (simp only [firstArgMember]; rfl)) ?_)
  refine wpAny_newObj_type ?_ (by size_fits)
  simp only [raiseNew]
  refine wpAny_bind (wpAny_handled ?_)
  first | rw [show A.in1.handled=none from hd] | rw [hd]
  refine wpAny_bind (wpAny_pure (wpAny_throw ?_))
  exact k _ _ (((Heap.SameBut.update ..).extBut.push _).push _) ⟨_,Heap.get?_push_size _ rfl,rfl⟩
structure Apart (z TI TO i1 i2 t1 t2:Addr):Prop where
  a1:TI≠z
  a2:TO≠z
  a3:i1≠z
  a4:i2≠z
  b1:TI≠TO
  b2:TI≠i1
  b3:TI≠i2
  b4:TO≠i1
  b5:TO≠i2
  b6:i1≠i2
  c1:t1≠z
  c2:t1≠TO
  c3:t1≠i1
  c4:t1≠i2
  d1:t2≠z
  d2:t2≠TO
  d3:t2≠i1
  d4:t2≠i2
theorem zip_item {z TI TO i1 i2 t1 t2:Addr} {n1 n2:Nat} {us vs:Array Value} {x y a b:Value} {Q:Value→Shared→Prop} (D:Apart z TI TO i1 i2 t1 t2) (zz:IsZip s.heap z TI TO .none) (zi:IsPair s.heap TI (.ref i1) (.ref i2)) (zo:IsPair s.heap TO a b)
    (r1:s.heap.IsTupleIter i1 t1 n1) (r2:s.heap.IsTupleIter i2 t2 n2) (u1:s.heap.IsTuple t1 us) (u2:s.heap.IsTuple t2 vs) (x1:us[n1]?=some x) (x2:vs[n2]?=some y)
    (k:∀ g,IsZip g z TI TO (rawInt s.heap.objs.size)→IsPair g TO x y→g.IsTupleIter i1 t1 (n1+1)→g.IsTupleIter i2 t2 (n2+1)→IsPair g s.heap.objs.size x y→g.objs.size=s.heap.objs.size+1 →
      (∀ c o,c≠z→c≠TO→c≠i1→c≠i2→s.heap.get? c=some o→g.get? c=some o)→Q (.ref s.heap.objs.size) { s with heap:=g }) :
    wpAny (model prog w) A (Builtin.«zip.__next__» ⟨[.ref z],[]⟩) (fun fin s'=>∃ v,fin=.done (.ret v)∧Q v s') E s:=by
  show wpAny _ _ (field (.ref z) 2 >>= _) _ _ _
  refine wpAny_bind (wpAny_field zz rfl (x:=.bool false) rfl ?_)
  show wpAny _ _ (field (.ref z) 3 >>= _) _ _ _
  refine wpAny_bind (wpAny_field zz rfl (x:=.ref TI) rfl ?_)
  refine wpAny_bind (wpAny_seqItems zi rfl ?_)
  show wpAny _ _ (Builtin.SmallTypes.ownedTupleIsFree (.ref z) >>= _) _ _ _
  refine wpAny_bind ?_
  unfold Builtin.SmallTypes.ownedTupleIsFree
  refine wpAny_bind (wpAny_field zz rfl (x:=.none) rfl (wpAny_pure ?_))
  simp only [if_true]
  refine wpAny_bind (wpAny_rule ?_)
  refine wpAny_bind (wpAny_field zz rfl (x:=.ref TO) rfl ?_)
  refine wpAny_bind (wpAny_setField_rec zz (by simp) fun g1 zg1 s1=>?_)
  replace zg1:IsZip g1 z TI TO .ellipsis:=zg1
  refine wpAny_bind ?_
  simp only [List.zipIdx_cons,List.zipIdx_nil,List.forIn_cons,List.forIn_nil]
  refine wpAny_bind (wpAny_bind (wpAny_onRaise ?_))
  show wpAny _ _ (Builtin.SmallTypes.nextOf (.ref i1) >>= _) _ _ _
  refine wpAny_bind (tup_item (r1.extBut s1.extBut D.a3) (u1.extBut s1.extBut D.c1) x1 fun g2 rg2 s2=>wpAny_pure ?_)
  have zo2:IsPair g2 TO a b:=s2.extBut _ _ D.b4 (s1.extBut _ _ D.a2 zo)
  refine wpAny_bind (wpAny_seqItems zo2 rfl ?_)
  refine wpAny_bind (wpAny_updateSeq_pair zo2 fun g3 zo3 s3=>?_)
  replace zo3:IsPair g3 TO x b:=zo3
  refine wpAny_bind (wpAny_letGo (wpAny_pure ?_))
  refine wpAny_bind (wpAny_bind (wpAny_onRaise ?_))
  show wpAny _ _ (Builtin.SmallTypes.nextOf (.ref i2) >>= _) _ _ _
  refine wpAny_bind (tup_item (((r2.extBut s1.extBut D.a4).extBut s2.extBut D.b6.symm).extBut s3.extBut D.b5.symm) (((u2.extBut s1.extBut D.d1).extBut s2.extBut D.d3).extBut s3.extBut D.d2) x2 fun g4 rg4 s4=>wpAny_pure ?_)
  have zo4:IsPair g4 TO x b:=s4.extBut _ _ D.b5 zo3
  refine wpAny_bind (wpAny_seqItems zo4 rfl ?_)
  refine wpAny_bind (wpAny_updateSeq_pair zo4 fun g5 zo5 s5=>?_)
  replace zo5:IsPair g5 TO x y:=zo5
  refine wpAny_bind (wpAny_letGo (wpAny_pure (wpAny_pure ?_)))
  refine wpAny_bind (wpAny_seqItems zo5 rfl ?_)
  refine wpAny_bind (wpAny_newTuple ?_)
  have sz:g5.objs.size=s.heap.objs.size:=by rw [s5.1,s4.1,s3.1,s2.1,s1.1]
  have zg5:IsZip g5 z TI TO .ellipsis:=s5.extBut _ _ D.a2.symm (s4.extBut _ _ D.a4.symm (s3.extBut _ _ D.a2.symm (s2.extBut _ _ D.a3.symm zg1)))
  have kk:∀ c o,c≠z→c≠TO→c≠i1→c≠i2→s.heap.get? c=some o→g5.get? c=some o:=fun c o e1 e2 e3 e4 e =>
    s5.extBut _ _ e2 (s4.extBut _ _ e4 (s3.extBut _ _ e2 (s2.extBut _ _ e3 (s1.extBut _ _ e1 e))))
  have rg5:g5.IsTupleIter i1 t1 (n1+1):=((rg2.extBut s3.extBut D.b4.symm).extBut s4.extBut D.b6).extBut s5.extBut D.b4.symm
  have qg5:g5.IsTupleIter i2 t2 (n2+1):=rg4.extBut s5.extBut D.b5.symm
  have lz:z < g5.objs.size:=Heap.lt_size zg5
  show wpAny _ _ (Builtin.SmallTypes.ownedTupleHandOut (.ref z) (.ref g5.objs.size) >>= _) _ _ _
  refine wpAny_bind ?_
  unfold Builtin.SmallTypes.ownedTupleHandOut
  have zg6:IsZip (g5.push { cls:=.type "tuple",data:=.seq #[x,y] }) z TI TO .ellipsis:=Heap.get?_push_of_some _ zg5
  refine wpAny_bind (wpAny_setField_rec zg6 (by simp) fun g7 zg7 s7=>?_)
  replace zg7:IsZip g7 z TI TO (rawInt g5.objs.size):=zg7
  refine wpAny_setField_rec zg7 (by simp) fun g8 zg8 s8=>?_
  replace zg8:IsZip g8 z TI TO (rawInt g5.objs.size):=zg8
  have up:∀ c o,c≠z→g5.get? c=some o→g8.get? c=some o:=fun c o e1 e=>s8.extBut _ _ e1 (s7.extBut _ _ e1 (Heap.get?_push_of_some _ e))
  have pg8:IsPair g8 g5.objs.size x y:=s8.extBut _ _ (Nat.ne_of_gt lz) (s7.extBut _ _ (Nat.ne_of_gt lz) (Heap.get?_push_size _ rfl))
  have sz8:g8.objs.size=g5.objs.size+1:=by rw [s8.1,s7.1,Heap.size_push]
  rw [sz] at zg8 pg8 sz8
  refine wpAny_pure ⟨_,rfl,?_⟩
  show Q (.ref g5.objs.size) _
  rw [sz]
  obtain ⟨o1,eo1,q1⟩:=rg5
  obtain ⟨o2,eo2,q2⟩:=qg5
  exact k g8 zg8 (up _ _ D.a2 zo5) ⟨o1,up _ _ D.a3 eo1,q1⟩ ⟨o2,up _ _ D.a4 eo2,q2⟩ pg8 sz8 fun c o e1 e2 e3 e4 e=>up c o e1 (kk c o e1 e2 e3 e4 e)
theorem zip_end {z TI TO i1 i2 t1 t2:Addr} {n1:Nat} {us:Array Value} {a b:Value} {Q:Fin→Shared→Prop} (hd:A.handled=none) (D:Apart z TI TO i1 i2 t1 t2) (zz:IsZip s.heap z TI TO .none) (zi:IsPair s.heap TI (.ref i1) (.ref i2)) (zo:IsPair s.heap TO a b)
    (r1:s.heap.IsTupleIter i1 t1 n1) (u1:s.heap.IsTuple t1 us) (x1:us[n1]?=none)
    (k:∀ g e,(∀ c o,c≠z→c≠TO→c≠i1→c≠i2→s.heap.get? c=some o→g.get? c=some o)→(∃ o,g.get? e=some o∧o.cls=.type "StopIteration")→E (.ref e) { s with heap:=g }) :
    wpAny (model prog w) A (Builtin.«zip.__next__» ⟨[.ref z],[]⟩) Q E s:=by
  show wpAny _ _ (field (.ref z) 2 >>= _) _ _ _
  refine wpAny_bind (wpAny_field zz rfl (x:=.bool false) rfl ?_)
  show wpAny _ _ (field (.ref z) 3 >>= _) _ _ _
  refine wpAny_bind (wpAny_field zz rfl (x:=.ref TI) rfl ?_)
  refine wpAny_bind (wpAny_seqItems zi rfl ?_)
  show wpAny _ _ (Builtin.SmallTypes.ownedTupleIsFree (.ref z) >>= _) _ _ _
  refine wpAny_bind ?_
  unfold Builtin.SmallTypes.ownedTupleIsFree
  refine wpAny_bind (wpAny_field zz rfl (x:=.none) rfl (wpAny_pure ?_))
  simp only [if_true]
  refine wpAny_bind (wpAny_rule ?_)
  refine wpAny_bind (wpAny_field zz rfl (x:=.ref TO) rfl ?_)
  refine wpAny_bind (wpAny_setField_rec zz (by simp) fun g1 zg1 s1=>?_)
  replace zg1:IsZip g1 z TI TO .ellipsis:=zg1
  refine wpAny_bind ?_
  simp only [List.zipIdx_cons,List.zipIdx_nil,List.forIn_cons,List.forIn_nil]
  refine wpAny_bind (wpAny_bind (wpAny_onRaise ?_))
  show wpAny _ _ (Builtin.SmallTypes.nextOf (.ref i1) >>= _) _ _ _
  refine wpAny_bind (tup_end hd (r1.extBut s1.extBut D.a3) (u1.extBut s1.extBut D.c1) x1 fun g2 e s2 he=>?_)
  obtain ⟨oe,eoe,ece⟩:=he
  have zg2:IsZip g2 z TI TO .ellipsis:=s2 _ _ D.a3.symm zg1
  have nez:e≠z:=fun q=>by subst q; rw [zg2] at eoe; cases eoe; simp at ece
  exact wpAny_setField_rec zg2 (by simp) fun g3 _ s3=>k g3 e (fun c o e1 _ e3 _ q=>s3.extBut _ _ e1 (s2 _ _ e3 (s1.extBut _ _ e1 q))) ⟨oe,s3.extBut _ _ nez eoe,ece⟩
theorem next_item {z TI TO i1 i2 t1 t2:Addr} {n1 n2:Nat} {us vs:Array Value} {x y a b:Value} {Q:Option Value→Shared→Prop} (D:Apart z TI TO i1 i2 t1 t2) (zz:IsZip s.heap z TI TO .none) (zi:IsPair s.heap TI (.ref i1) (.ref i2)) (zo:IsPair s.heap TO a b)
    (r1:s.heap.IsTupleIter i1 t1 n1) (r2:s.heap.IsTupleIter i2 t2 n2) (u1:s.heap.IsTuple t1 us) (u2:s.heap.IsTuple t2 vs) (x1:us[n1]?=some x) (x2:vs[n2]?=some y)
    (k:∀ g,IsZip g z TI TO (rawInt s.heap.objs.size)→IsPair g TO x y→g.IsTupleIter i1 t1 (n1+1)→g.IsTupleIter i2 t2 (n2+1)→IsPair g s.heap.objs.size x y→g.objs.size=s.heap.objs.size+1 →
      (∀ c o,c≠z→c≠TO→c≠i1→c≠i2→s.heap.get? c=some o→g.get? c=some o)→Q (some (.ref s.heap.objs.size)) { s with heap:=g }) :
    wpAny (model prog w) A (pyNext (.ref z)) Q E s:=by
  have tz:s.TypeIs (.ref z) "zip":=⟨_,zz,rfl⟩
  unfold pyNext
  exact wpAny_bind (wpAny_attempt (wpAny_callSpecial?_slot (name:=Str.ofString "__next__") tz F.slot_zip_next (wpAny_call_entry F.slot_zip_next tz F.entry_zip_next
    (zip_item D zz zi zo r1 r2 u1 u2 x1 x2 fun g p1 p2 p3 p4 p5 p6 p7=>wpAny_pure (k g p1 p2 p3 p4 p5 p6 p7)) (F.args_zip_next_1 _))))
theorem next_end {z TI TO i1 i2 t1 t2:Addr} {n1:Nat} {us:Array Value} {a b:Value} {Q:Option Value→Shared→Prop} (hd:A.handled=none) (D:Apart z TI TO i1 i2 t1 t2) (zz:IsZip s.heap z TI TO .none) (zi:IsPair s.heap TI (.ref i1) (.ref i2)) (zo:IsPair s.heap TO a b)
    (r1:s.heap.IsTupleIter i1 t1 n1) (u1:s.heap.IsTuple t1 us) (x1:us[n1]?=none)
    (k:∀ g,(∀ c o,c≠z→c≠TO→c≠i1→c≠i2→s.heap.get? c=some o→g.get? c=some o)→Q none { s with heap:=g }):wpAny (model prog w) A (pyNext (.ref z)) Q E s:=by
  have tz:s.TypeIs (.ref z) "zip":=⟨_,zz,rfl⟩
  unfold pyNext
  refine wpAny_bind (wpAny_attempt (wpAny_callSpecial?_slot (name:=Str.ofString "__next__") tz F.slot_zip_next (wpAny_call_entry F.slot_zip_next tz F.entry_zip_next (zip_end hd D zz zi zo r1 u1 x1 fun g e kk he=>?_) (F.args_zip_next_1 _))))
  obtain ⟨o,eo,ec⟩:=he
  exact wpAny_bind (wpAny_isInstance (T:="StopIteration") (b:=true) ⟨o,eo,ec⟩ isSubtype_stop (wpAny_pure (k _ kk)))
end
noncomputable abbrev zh1 (h:Heap) (t1:Addr):Heap:=h.push { cls:=.type "tuple_iterator",data:=.fields #[.ref t1,.int 0 0] }
noncomputable abbrev zh2 (h:Heap) (t1 t2:Addr):Heap:=(zh1 h t1).push { cls:=.type "tuple_iterator",data:=.fields #[.ref t2,.int 0 0] }
noncomputable abbrev zh3 (h:Heap) (t1 t2:Addr):Heap:=(zh2 h t1 t2).push { cls:=.type "tuple",data:=.seq #[.ref h.objs.size,.ref (zh1 h t1).objs.size] }
noncomputable abbrev zh4 (h:Heap) (t1 t2:Addr):Heap:=(zh3 h t1 t2).push { cls:=.type "tuple",data:=.seq #[.none,.none] }
noncomputable abbrev zh5 (h:Heap) (t1 t2:Addr):Heap:=(zh4 h t1 t2).push { cls:=.type "zip",data:=.fields #[.none,.bool false,.bool false,.ref (zh2 h t1 t2).objs.size,.ref (zh3 h t1 t2).objs.size] }
theorem zip_new (t1 t2:Addr) (us vs:Array Value):Meets (Builtin.«zip.__new__» ⟨[.type "zip",.ref t1,.ref t2],[]⟩) (fun _ R s=>s.heap.IsTuple t1 us∧s.heap.IsTuple t2 vs ∧
      R (.ok (.ret (.ref (zh4 s.heap t1 t2).objs.size))) { s with heap:=zh5 s.heap t1 t2 }) :=
  .of_wp fun prog w A R s h=>by
    obtain ⟨hp,g,d,tk,os⟩:=s; obtain ⟨u1,u2,h⟩:=h
    have hsub:=sub_zip
    have v1:Heap.IsTuple (Shared.heap ⟨hp,g,d,tk,os⟩) t1 us:=u1
    have v2:Heap.IsTuple (Shared.heap ⟨zh1 hp t1,g,d,tk,os⟩) t2 vs:=Heap.IsTuple.push u2 _
    wp_walk using wpAny_pyIter_tuple v1,wpAny_pyIter_tuple v2
    exact ⟨_,rfl,h⟩
theorem call_zip {prog:Program} {w:World} {A:Around} {E:Value→Shared→Prop} {s:Shared} {t1 t2:Addr} {us vs:Array Value} {Q:Value→Shared→Prop} (u1:s.heap.IsTuple t1 us) (u2:s.heap.IsTuple t2 vs)
    (k:∀ g,IsZip g (s.heap.objs.size+4) (s.heap.objs.size+2) (s.heap.objs.size+3) .none→IsPair g (s.heap.objs.size+2) (.ref s.heap.objs.size) (.ref (s.heap.objs.size+1))→IsPair g (s.heap.objs.size+3) .none .none →
      g.IsTupleIter s.heap.objs.size t1 0→g.IsTupleIter (s.heap.objs.size+1) t2 0→g.objs.size=s.heap.objs.size+5→(∀ c o,s.heap.get? c=some o→g.get? c=some o)→Q (.ref (s.heap.objs.size+4)) { s with heap:=g }) :
    wpAny (model prog w) A (call (.type "zip") [.ref t1,.ref t2]) Q E s:=by
  refine callType_new F.called_zip (by decide) (F.typeCall_zip_2 _ _) (F.newCall_zip_2 _ _) (fun obj=>F.args_object_init_3 obj _ _) F.entry_zip_new (zip_new t1 t2 us vs) ⟨u1,u2,?_⟩
  have n1:(zh1 s.heap t1).objs.size=s.heap.objs.size+1:=Heap.size_push ..
  have n2:(zh2 s.heap t1 t2).objs.size=s.heap.objs.size+2:=by rw [Heap.size_push,n1]
  have n3:(zh3 s.heap t1 t2).objs.size=s.heap.objs.size+3:=by rw [Heap.size_push,n2]
  have n4:(zh4 s.heap t1 t2).objs.size=s.heap.objs.size+4:=by rw [Heap.size_push,n3]
  have n5:(zh5 s.heap t1 t2).objs.size=s.heap.objs.size+5:=by rw [Heap.size_push,n4]
  have p5:(zh5 s.heap t1 t2).get? (zh4 s.heap t1 t2).objs.size=some _:=Heap.get?_push_size _ rfl
  have p4:(zh5 s.heap t1 t2).get? (zh3 s.heap t1 t2).objs.size=some _:=Heap.get?_push_of_some _ (Heap.get?_push_size _ rfl)
  have p3:(zh5 s.heap t1 t2).get? (zh2 s.heap t1 t2).objs.size=some _:=Heap.get?_push_of_some _ (Heap.get?_push_of_some _ (Heap.get?_push_size _ rfl))
  have p2:(zh5 s.heap t1 t2).get? (zh1 s.heap t1).objs.size=some _:=Heap.get?_push_of_some _ (Heap.get?_push_of_some _ (Heap.get?_push_of_some _ (Heap.get?_push_size _ rfl)))
  have p1:(zh5 s.heap t1 t2).get? s.heap.objs.size=some _:=Heap.get?_push_of_some _ (Heap.get?_push_of_some _ (Heap.get?_push_of_some _ (Heap.get?_push_of_some _ (Heap.get?_push_size _ rfl))))
  show _∧_
  rw [n2,n3,n4] at p5
  rw [n1,n2] at p3
  rw [n3] at p4
  rw [n1] at p2
  rw [n4]
  exact ⟨⟨_,p5,rfl⟩,k _ p5 p3 p4 ⟨_,p1,rfl,rfl⟩ ⟨_,p2,rfl,rfl⟩ n5 fun c o q=>Heap.get?_push_of_some _ (Heap.get?_push_of_some _ (Heap.get?_push_of_some _ (Heap.get?_push_of_some _ (Heap.get?_push_of_some _ q))))⟩
end ZT
namespace L2
open PySem PySem.Spec PyProof.Rows
section
variable {X:Cx} {pins:List (Addr × Obj)} {σ:St} {H:Hp} {s:Shared} {h':Heap} {t':Nat} {ch:List Addr}
theorem Inv.turnedL (I:Inv X pins σ H s) (k:∀ b o,b ∉ ch→s.heap.get? b=some o→h'.get? b=some o) (f:∀ b∈ch,FpOk X pins H b):Inv X pins σ H { s with heap:=h',toks:=t' }:=by
  refine I.step (g':=s.gens) (d':=s.drawn) (ch:=ch) (fun b hb=>?_) (fun b o _ _ hc q _=>k b o hc q) (fun b o _ _ hc q _=>⟨o.slots,k b o hc q⟩) (fun b o _ q n=>n)
    (fun b o hc q=>⟨o,k b o hc q⟩) (fun b ys q=>q) (fun b o u q=>q) (fun b ps q=>⟨#[],by rw [q]; simp⟩) (fun m hm=>?_) (fun b u q=>?_) I.bare
  · have fe:=f b hb
    exact ⟨fe.2.2.2.1,fe.2.1,fe.2.2.2.2.1,fe.2.2.2.2.2⟩
  · obtain ⟨o,es,ep,ho,r⟩:=hm
    exact ⟨o,es,ep,k _ o (fun z=>(f _ z).2.1 rfl) ho,r⟩
  · refine (I.hok b u q).stay (fun c v hc q'=>k c v (fun z=>?_) q') (fun _ q'=>q') fun _ _ q'=>q'
    have fz:=(f c z).1
    rcases hc with e | e
    · rw [e,q] at fz; cases fz
    · rw [e] at fz; cases fz
theorem Inv.turnedLT {xs:List V} {its:List Value} (I:Inv X pins σ H s) (k:∀ b o,b ∉ ch→s.heap.get? b=some o→h'.get? b=some o) (f:∀ b∈ch,FpOk X pins H b) (hv:Vals xs its) (hz:xs.length≤sizeLine)
    (hn:h'.get? s.heap.objs.size=some { cls:=.type "tuple",data:=.seq its.toArray }):Inv X pins σ (upd H s.heap.objs.size (.tup xs)) { s with heap:=h',toks:=t' }:=by
  have fr:H s.heap.objs.size=none:=I.fresh
  have nel:∀ b o,s.heap.get? b=some o→b≠s.heap.objs.size:=fun b o q=>Nat.ne_of_lt (Heap.lt_size q)
  refine I.step (g':=s.gens) (d':=s.drawn) (ch:=ch) (fun b hb=>?_) (fun b o _ _ hc q _=>k b o hc q) (fun b o _ _ hc q _=>⟨o.slots,k b o hc q⟩) (fun b o _ q n=>by rw [upd_ne (nel b o q)]; exact n)
    (fun b o hc q=>⟨o,k b o hc q⟩) (fun b ys q=>by rw [upd_ne (ne_of_none q fr)]; exact q) (fun b o u q=>by rw [upd_ne (ne_of_none q fr)]; exact q) (fun b ps q=>⟨#[],by rw [upd_ne (ne_of_none q fr),q]; simp⟩) (fun m hm=>?_) (fun b u q=>?_) I.bare
  · have fe:=f b hb
    exact ⟨fe.2.2.2.1,fe.2.1,fe.2.2.2.2.1,fe.2.2.2.2.2⟩
  · obtain ⟨o,es,ep,ho,r⟩:=hm
    exact ⟨o,es,ep,k _ o (fun z=>(f _ z).2.1 rfl) ho,r⟩
  · by_cases hb:b=s.heap.objs.size
    · subst hb
      rw [upd_same] at q
      cases q
      exact ⟨hz,its,hv,_,hn,rfl,_,rfl⟩
    · rw [upd_ne hb] at q
      refine (I.hok b u q).stay (fun c v hc q'=>k c v (fun z=>?_) q') (fun c q'=>by rw [upd_ne (ne_of_none q' fr)]; exact q') fun c ys q'=>by rw [upd_ne (ne_of_none q' fr)]; exact q'
      have fz:=(f c z).1
      rcases hc with e | e
      · rw [e,q] at fz; cases fz
      · rw [e] at fz; cases fz
end
theorem ne_nat {a b:Nat} (h:a < b∨b < a):@Ne Addr a b:=fun e=>by
  have e':@Eq Nat a b:=e
  omega
noncomputable def Itz (K:PySem.W.Frag) (a b:Addr):It :=
  ⟨fun i H=>∃ xs ys x y,SqT K H a xs∧SqT K H b ys∧xs[i]?=some x∧ys[i]?=some y,
   fun i H v H'=>∃ t x y,v=.ref t∧H t=none∧H'=upd H t (.tup [x,y])∧(∀ xs,SqT K H a xs→xs[i]?=some x)∧∀ ys,SqT K H b ys→ys[i]?=some y,
   fun i H=>∃ xs,SqT K H a xs∧xs.length≤i⟩
theorem turn_zip {P:Program} {w:World} {K:PySem.W.Frag} {elts:List Expr} {k1:Nat} {p1:Pos} (a b z TI TO i1 i2:Addr) (D:ZT.Apart z TI TO i1 i2 a b) :
    Turn P w K (.Tuple elts k1 p1) (Itz K a b) [z,TI,TO,i1,i2] z (fun i h=>IsZip h z TI TO .none∧IsPair h TI (.ref i1) (.ref i2)∧(∃ u v,IsPair h TO u v)∧h.IsTupleIter i1 a i∧h.IsTupleIter i2 b i) where
  mem:=by simp
  obj:=fun i h st c hc=>by
    obtain ⟨z1,z2,⟨u,v,z3⟩,⟨o1,e1,c1,d1⟩,⟨o2,e2,c2,d2⟩⟩:=st
    have hc':c=z∨c=TI∨c=TO∨c=i1∨c=i2:=by simpa using hc
    rcases hc' with rfl | rfl | rfl | rfl | rfl
    · exact ⟨_,z1,fun v q=>by have q':Data.fields _=Data.cell v:=q; cases q'⟩
    · exact ⟨_,z2,fun v q=>by have q':Data.seq _ _=Data.cell v:=q; cases q'⟩
    · exact ⟨_,z3,fun v q=>by have q':Data.seq _ _=Data.cell v:=q; cases q'⟩
    · exact ⟨o1,e1,fun v q=>by rw [d1] at q; cases q⟩
    · exact ⟨o2,e2,fun v q=>by rw [d2] at q; cases q⟩
  keep:=fun i h h' st k=>by
    obtain ⟨z1,z2,⟨u,v,z3⟩,⟨o1,e1,r1⟩,⟨o2,e2,r2⟩⟩:=st
    exact ⟨k z (by simp) _ z1,k TI (by simp) _ z2,⟨u,v,k TO (by simp) _ z3⟩,⟨o1,k i1 (by simp) _ e1,r1⟩,⟨o2,k i2 (by simp) _ e2,r2⟩⟩
  item:=by
    intro X hP hw hK hc i pins s σ H E I hf st hg
    subst hP hw hK
    obtain ⟨xs,ys,x,y,ha,hb,hx,hy⟩:=hg
    obtain ⟨z1,z2,⟨u,v,z3⟩,r1,r2⟩:=st
    obtain ⟨ita,va,pa,_⟩:=I.tuple ha
    obtain ⟨itb,vb,pb,_⟩:=I.tuple hb
    obtain ⟨ux,eux,rx⟩:=va.get hx
    obtain ⟨uy,euy,ry⟩:=vb.get hy
    refine ZT.next_item D z1 z2 z3 r1 r2 (show s.heap.IsTuple a ita.toArray from pa) (show s.heap.IsTuple b itb.toArray from pb) (x:=ux) (y:=uy) (by simpa using eux) (by simpa using euy) fun g g1 g2 g3 g4 g5 g6 g7=>?_
    refine ⟨_,rfl,wpAny_letOwnedTupleGo_zip g1 fun g' q1 q2=>?_⟩
    have q2':Heap.SameBut z g g':=q2
    have lz:z < s.heap.objs.size:=Heap.lt_size z1
    have I1:Inv X pins σ (upd H s.heap.objs.size (.tup [x,y])) { s with heap:=g',toks:=s.toks } :=
      I.turnedLT (ch:=[z,TO,i1,i2]) (its:=[ux,uy]) (fun c o hc q=>by
        have hc':¬ (c=z∨c=TO∨c=i1∨c=i2):=by simpa using hc
        exact q2'.extBut c o (fun e=>hc' (.inl e)) (g7 c o (fun e=>hc' (.inl e)) (fun e=>hc' (.inr (.inl e))) (fun e=>hc' (.inr (.inr (.inl e)))) (fun e=>hc' (.inr (.inr (.inr e)))) q))
        (fun c hc=>hf c (by
          have hc':c=z∨c=TO∨c=i1∨c=i2:=by simpa using hc
          rcases hc' with rfl | rfl | rfl | rfl <;> simp)) (.cons rx (.cons ry .nil)) (by show 2≤sizeLine; decide) (q2'.extBut _ _ (Nat.ne_of_gt lz) g5)
    obtain ⟨o1,e1,w1⟩:=id g3
    obtain ⟨o2,e2,w2⟩:=id g4
    have old:∀ c o,s.heap.get? c=some o→c≠s.heap.objs.size:=fun c o e=>Nat.ne_of_lt (Heap.lt_size e)
    refine ⟨.ref s.heap.objs.size,_,I1,rfl,⟨s.heap.objs.size,x,y,rfl,I.fresh,rfl,fun xs' h'=>by rw [I.tuple_inj h' ha]; exact hx,fun ys' h'=>by rw [I.tuple_inj h' hb]; exact hy⟩,
      ⟨q1,q2'.extBut _ _ D.a1 (g7 _ _ D.a1 D.b1 D.b2 D.b3 z2),⟨_,_,q2'.extBut _ _ D.a2 g2⟩,⟨o1,q2'.extBut _ _ D.a3 e1,w1⟩,⟨o2,q2'.extBut _ _ D.a4 e2,w2⟩⟩,fun c hc=>?_⟩
    have hc':c=z∨c=TI∨c=TO∨c=i1∨c=i2:=by simpa using hc
    have hn:c≠s.heap.objs.size:=by
      obtain ⟨p1,f1,_⟩:=r1
      obtain ⟨p2,f2,_⟩:=r2
      rcases hc' with rfl | rfl | rfl | rfl | rfl
      · exact old _ _ z1
      · exact old _ _ z2
      · exact old _ _ z3
      · exact old _ _ f1
      · exact old _ _ f2
    rw [upd_ne hn]
    exact (hf c hc).1
  done:=by
    intro X hP hw hK hc i pins s σ H E I hf st hg
    subst hP hw hK
    obtain ⟨xs,ha,hx⟩:=hg
    obtain ⟨z1,z2,⟨u,v,z3⟩,r1,r2⟩:=st
    obtain ⟨ita,va,pa,_⟩:=I.tuple ha
    have hl:=va.length
    refine ZT.next_end (I.ok.hd hc) D z1 z2 z3 r1 (show s.heap.IsTuple a ita.toArray from pa) (by simp; omega) fun g g7=>⟨rfl,?_⟩
    refine I.turnedL (t':=s.toks) (ch:=[z,TO,i1,i2]) (fun c o hc q=>?_) fun c hc=>hf c ?_
    · have hc':¬ (c=z∨c=TO∨c=i1∨c=i2):=by simpa using hc
      exact g7 c o (fun e=>hc' (.inl e)) (fun e=>hc' (.inr (.inl e))) (fun e=>hc' (.inr (.inr (.inl e)))) (fun e=>hc' (.inr (.inr (.inr e)))) q
    · have hc':c=z∨c=TO∨c=i1∨c=i2:=by simpa using hc
      rcases hc' with rfl | rfl | rfl | rfl <;> simp
  self:=fun A i s Q E st h=>wpAny_pyIter_zip st.1 h
noncomputable def iZip (K:PySem.W.Frag) (ta:TA):TI:=fun σ H R=>ta σ H fun vs H1=>∃ a b,vs=[.ref a,.ref b]∧(∃ xs,SqT K H1 a xs)∧(∃ ys,SqT K H1 b ys)∧R (Itz K a b) H1
theorem boot_zip':bootBuiltins "zip" = some (.type "zip"):=by decide +kernel
theorem pi_zip {X:Cx} {elts:List Expr} {k1:Nat} {p1:Pos} {a b:Expr} {ta:TA} {p pos:Pos} (hg:Gl X "zip") (hm:X.mg "zip" = none) (ha:PA X [a,b] ta) (hs:starEach [a,b] X.env=[(false,eval a X.env),(false,eval b X.env)]:=by rfl)
    (hs2:starEach [b] X.env=[(false,eval b X.env)]:=by rfl):PI X (.Tuple elts k1 p1) (.Call (.Name "zip" p) [a,b] [] pos) (iZip X.K ta):=by
  intro pins s σ H R I h
  refine Call_ (ld_blt I hg hm boot_zip' (PyProof.Rows.callWith_type1 (thn (ha pos pins s σ H _ I h) fun us s1 ⟨vs,H1,I1,r1,q1⟩=>?_) (by rw [hs,hs2]) (by rw [hs2]; rfl)))
  obtain ⟨l1,l2,e,⟨xs,hq⟩,⟨ys,hq'⟩,q⟩:=q1
  subst e
  cases r1 with
  | cons r rr =>
    cases rr with
    | cons r' rr =>
      cases rr
      cases r
      cases r'
      obtain ⟨ita,va,pa,_⟩:=I1.tuple hq
      obtain ⟨itb,vb,pb,_⟩:=I1.tuple hq'
      have la:l1 < s1.heap.objs.size:=pa.lt
      have lb:l2 < s1.heap.objs.size:=pb.lt
      refine ZT.call_zip (show s1.heap.IsTuple l1 ita.toArray from pa) (show s1.heap.IsTuple l2 itb.toArray from pb) fun g g1 g2 g3 g4 g5 g6 g7=>?_
      refine wpAny_pyIter_zip g1 ?_
      have I2:Inv X pins σ H1 { s1 with heap:=g }:=I1.kept (t':=s1.toks) g7
      have D:ZT.Apart (s1.heap.objs.size+4) (s1.heap.objs.size+2) (s1.heap.objs.size+3) s1.heap.objs.size (s1.heap.objs.size+1) l1 l2:=by
        constructor <;> (apply ne_nat; first | exact Or.inl (by omega) | exact Or.inr (by omega) | exact Or.inl (Nat.lt_of_lt_of_le (by assumption) (by omega)))
      refine ⟨s1.heap.objs.size+4,_,_,_,H1,rfl,I2,turn_zip l1 l2 _ _ _ _ _ D,⟨g1,g2,⟨_,_,g3⟩,g4,g5⟩,fun c hc=>?_,q⟩
      have hc':c=s1.heap.objs.size+4∨c=s1.heap.objs.size+2∨c=s1.heap.objs.size+3∨c=s1.heap.objs.size∨c=s1.heap.objs.size+1:=by simpa using hc
      have hle:s1.heap.objs.size≤c:=by rcases hc' with rfl | rfl | rfl | rfl | rfl <;> omega
      exact I1.fpOk hle (I1.hok.fresh hle)
end L2
namespace M01
open PySem
noncomputable def isW (c:Nat):Bool:=decide (97≤c∧c≤122) || decide (65≤c∧c≤90) || decide (48≤c∧c≤57)
noncomputable abbrev S:=List (List Nat) × List Nat
noncomputable def stp (st:S) (c:Nat):S:=if isW c=true then (st.1,st.2++[c]) else (if st.2=[] then st else (st.1++[st.2],[]))
noncomputable def fn (st:S):List (List Nat):=if st.2=[] then st.1 else st.1++[st.2]
noncomputable def cmp (st:S) (rest:List Nat):List (List Nat):=if st.2=[] then st.1 else st.1++[st.2++rest.takeWhile isW]
noncomputable def bl (c:Nat):Nat:=if isW c=true then c else 32
end M01
namespace L2
open PySem PySem.Spec PyProof.Rows
end L2
namespace L2
open PySem PySem.Spec PyProof.Rows
structure Cal (P:Program) (w:World) (K:PySem.W.Frag) (mg:Str→Option Value) (base:Heap) (x:Str) (k:Nat) (ps:List Str) (sp:Sp):Prop where
  ex:∃ (f:Addr) (fd:FuncData),FnOk P w K mg base CX0 k f fd ps sp∧Binds K fd ps []∧PySem.W.keepIn K (.ref f)=true∧mg x=some (.ref f)
structure Has (K:PySem.W.Frag) (mg:Str→Option Value) (x:Str) (st:Stmt) (ps:List Str):Prop where
  ex:∃ (f:Addr) (fd:FuncData),Fun K x x st f fd∧Binds K fd ps []∧mg x=some (.ref f)
section
variable {P:Program} {w:World} {K:PySem.W.Frag} {mg:Str→Option Value} {base:Heap}
theorem Has.cal {x:Str} {st:Stmt} {ps:List Str} {k:Nat} {sp:Sp} (h:Has K mg x st ps) (ok:∀ (f:Addr) (fd:FuncData),Fun K x x st f fd→mg x=some (.ref f)→Binds K fd ps []→FnOk P w K mg base CX0 k f fd ps sp):Cal P w K mg base x k ps sp:=by
  obtain ⟨f,fd,F,b,m⟩:=h.ex
  exact ⟨f,fd,ok f fd F m b,b,F.kp,m⟩
theorem Has.mk' {x:Str} {st:Stmt} {N ps:List Str} {k:Nat} {sp:Sp} (h:Has K mg x st ps) (S:FnScope N ps (defScope st)) (len:∀ vs H Q E,sp vs H Q E→vs.length=ps.length)
    (hbody:∀ (f:Addr) (cdv:Value) (A:Around) (outer:List Env) (s:Shared) (H:Hp) (vs:List V) (Q:VK) (E:XK),Room k (A.deeper (envOfC x (defScope st) s.heap.objs.size f cdv))→sp vs H Q E →
      ∃ t,PSs (cxOf CX0 P w K mg base N x (defScope st) f cdv A outer s H E).nox (defBody st) t∧t { nx:=fun _ H'=>Q .non H',rt:=Q } (start N vs) H):Cal P w K mg base x (k+1) ps sp :=
  h.cal fun f fd F _ _=>F.ok S len (hbody f)
end
theorem pe_cal {X:Cx} {x:Str} {k n:Nat} {ps:List Str} {sp:Sp} {e:Expr} {es:List Expr} {t:TA} {p pos:Pos} (C:Cal X.prog X.w X.K X.mg X.base x k ps sp) (hr:Room n X.A) (hk:k≤n) (hg:Gl X x) (ha:PA X (e :: es) t)
    (hdb:(x == ("__debug__" : Str))=false:=by decide) (he:starEach (e :: es) X.env=(false,eval e X.env) :: starEach es X.env:=by rfl) (hpl:(backTo pos (starEach es X.env)).any (·.1)=false:=by rfl) :
    PE X (.Call (.Name x p) (e :: es) [] pos) (tCall sp [] E0 t):=by
  obtain ⟨f,fd,F,b,kp,m⟩:=C.ex
  exact pe_call F (hr.mono hk) hg m kp b .nil pass0 ha hdb he hpl
inductive D where
  | non | bl (b:Bool) | int (i:Int) | str (x:Str) | tup (ds:List D)
mutual
noncomputable def Den (H:Hp):V→D→Prop
  | v,.non=>v=.non
  | v,.bl b=>v=.bl b
  | v,.int i=>v=.int i
  | v,.str x=>v=.str x
  | v,.tup ds=>∃ (p:Addr) (vs:List V),v=.ref p∧H p=some (.tup vs)∧DenL H vs ds
noncomputable def DenL (H:Hp):List V→List D→Prop
  | [],[]=>True
  | v :: vs,d :: ds=>Den H v d∧DenL H vs ds
  | _,_=>False
end
mutual
theorem Den.same {H H':Hp} (e:Same H H'):∀ {d:D} {v:V},Den H v d→Den H' v d
  | .non,_,h=>h
  | .bl _,_,h=>h
  | .int _,_,h=>h
  | .str _,_,h=>h
  | .tup ds,_,h=>by
    obtain ⟨p,vs,rfl,hp,hd⟩:=h
    exact ⟨p,vs,rfl,e _ _ hp,DenL.same e hd⟩
theorem DenL.same {H H':Hp} (e:Same H H'):∀ {ds:List D} {vs:List V},DenL H vs ds→DenL H' vs ds
  | [],[],_=>trivial
  | _ :: _,_ :: _,h=>⟨Den.same e h.1,DenL.same e h.2⟩
  | [],_ :: _,h=>h.elim
  | _ :: _,[],h=>h.elim
end
theorem DenL.len {H:Hp}:∀ {ds:List D} {vs:List V},DenL H vs ds→vs.length=ds.length
  | [],[],_=>rfl
  | _ :: ds,_ :: vs,h=>by rw [List.length_cons,List.length_cons,DenL.len h.2]
  | [],_ :: _,h=>h.elim
  | _ :: _,[],h=>h.elim
theorem DenL.at_ {H:Hp}:∀ {ds:List D} {vs:List V} {i:Nat} {v:V},DenL H vs ds→vs[i]?=some v→∃ d,ds[i]?=some d∧Den H v d
  | [],[],i,v,_,h=>by simp at h
  | d :: ds,_ :: vs,0,v,h,e=>by
    simp at e
    subst e
    exact ⟨d,rfl,h.1⟩
  | _ :: ds,_ :: vs,i+1,v,h,e=>DenL.at_ (i:=i) h.2 (by simpa using e)
  | [],_ :: _,_,_,h,_=>h.elim
  | _ :: _,[],_,_,h,_=>h.elim
theorem DenL.strs {H:Hp}:∀ xs:List Str,DenL H (xs.map V.str) (xs.map D.str)
  | []=>trivial
  | _ :: r=>⟨rfl,DenL.strs r⟩
theorem DenL.snoc {H:Hp} {v:V} {d:D} (hd:Den H v d):∀ {ds:List D} {vs:List V},DenL H vs ds→DenL H (vs++[v]) (ds++[d])
  | [],[],_=>⟨hd,trivial⟩
  | _ :: _,_ :: _,h=>⟨h.1,DenL.snoc hd h.2⟩
  | [],_ :: _,h=>h.elim
  | _ :: _,[],h=>h.elim
noncomputable def Shal:Nat→D→Prop
  | 0,d=>d≠.non∧∀ ds,d≠.tup ds
  | n+1,d=>d≠.non∧∀ ds,d=.tup ds→ds.length≤100000∧∀ e∈ds,Shal n e
theorem Shal.up:∀ {n:Nat} {d:D},Shal n d→Shal (n+1) d
  | 0,d,h=>⟨h.1,fun ds e=>absurd e (h.2 ds)⟩
  | n+1,d,h=>⟨h.1,fun ds e=>⟨(h.2 ds e).1,fun x hx=>((h.2 ds e).2 x hx).up⟩⟩
theorem shal_str (x:Str):Shal 0 (.str x):=⟨(fun z=>nomatch z),fun _ z=>nomatch z⟩
theorem shal_int (x:Int):Shal 0 (.int x):=⟨(fun z=>nomatch z),fun _ z=>nomatch z⟩
theorem Has.never {P:Program} {w:World} {K:PySem.W.Frag} {mg:Str→Option Value} {base:Heap} {x:Str} {st:Stmt} {ps:List Str} {sp:Sp} (h:Has K mg x st ps) (no:∀ vs H Q E,¬ sp vs H Q E):Cal P w K mg base x 0 ps sp :=
  h.cal fun f fd F _ _=>⟨fun vs H Q E z=>absurd z (no vs H Q E),fun A outer s H args us vs Q E _ _ _ _ z=>absurd z (no vs H Q E)⟩
theorem den_tup {H:Hp} {ds:List D} {v:V} (h:Den H v (.tup ds)):∃ (p:Addr) (vs:List V),v=.ref p∧H p=some (.tup vs)∧DenL H vs ds:=h
noncomputable def Same2 (p:Addr) (H H':Hp):Prop:=∀ c o,H c=some o→c≠p→H' c=some o
mutual
theorem Den.keepT {H H':Hp} (e:∀ (b:Addr) (vs:List V),H b=some (.tup vs)→H' b=some (.tup vs)):∀ {d:D} {v:V},Den H v d→Den H' v d
  | .non,_,h=>h
  | .bl _,_,h=>h
  | .int _,_,h=>h
  | .str _,_,h=>h
  | .tup ds,_,h=>by
    obtain ⟨p,vs,rfl,hp,hd⟩:=h
    exact ⟨p,vs,rfl,e _ _ hp,DenL.keepT e hd⟩
theorem DenL.keepT {H H':Hp} (e:∀ (b:Addr) (vs:List V),H b=some (.tup vs)→H' b=some (.tup vs)):∀ {ds:List D} {vs:List V},DenL H vs ds→DenL H' vs ds
  | [],[],_=>trivial
  | _ :: _,_ :: _,h=>⟨Den.keepT e h.1,DenL.keepT e h.2⟩
  | [],_ :: _,h=>h.elim
  | _ :: _,[],h=>h.elim
end
section
variable {X:Cx} {K:PySem.W.Frag} {o e:Expr} {es:List Expr} {to:TE} {t:TA} {name:Str} {apos cpos:Pos} {T id:String} {r:V→List V→Hp→VK→Prop}
theorem pe_bm0K (hK:X.K=K) (pa:PlainAttrs T) (slot:Slot T name id) (hty:typeOf (.builtin id)=pure (.type "method_descriptor")) (hm:MtR X id r) (ho:PE X o to)
    (hbase:attributeBase o name X.env (eval o X.env)=eval o X.env:=by rfl) (hline:(apos.endLine == cpos.line)=true:=by rfl):PE X (.Call (.Attribute o name apos) [] [] cpos) (tBM0 K T r to):=by
  subst hK
  exact pe_bm0 pa slot hty hm ho hbase hline
theorem ix_tupK (hK:X.K=K):IxR X (rIxT K):=by subst hK; exact ix_tup
theorem call_tuple_ofK (hK:X.K=K):CallR X (.type "tuple") (fun xs H Q=>∃ p ys,xs=[.ref p]∧((SqL K H p ys∧∀ l,H l=none→Q (.ref l) (upd H l (.tup ys)))∨(SqT K H p ys∧Q (.ref p) H))):=by subst hK; exact call_tuple_of
end
end L2
namespace L2
open PySem PySem.Spec PyProof.Rows
section
variable {κ:Type} [DecidableEq κ]
noncomputable def valV (kvs:List (κ × V)) (k:κ):Option V:=(kvs.find? fun kv=>decide (kv.1=k)).map (·.2)
noncomputable def putK (kvs:List (κ × V)) (k:κ) (v:V):List (κ × V) :=
  if (kvs.any fun kv=>decide (kv.1=k))=true then kvs.map (fun kv=>if kv.1=k then (kv.1,v) else kv) else kvs++[(k,v)]
noncomputable def dropK (kvs:List (κ × V)) (k:κ):List (κ × V):=kvs.filter fun kv=>decide (kv.1≠k)
theorem valV_pos {p:κ × V} {r:List (κ × V)} {k:κ} (e:p.1=k):valV (p :: r) k=some p.2:=by simp [valV,List.find?_cons,e]
theorem valV_neg {p:κ × V} {r:List (κ × V)} {k:κ} (e:¬ p.1=k):valV (p :: r) k=valV r k:=by simp [valV,List.find?_cons,e]
theorem valV_any (k:κ):∀ kvs:List (κ × V),(kvs.any fun kv=>decide (kv.1=k))=(valV kvs k).isSome
  | []=>rfl
  | p :: r=>by
    rw [List.any_cons]
    by_cases e:p.1=k
    · simp only [valV_pos e,decide_eq_true e,Bool.true_or,Option.isSome_some]
    · rw [valV_neg e,decide_eq_false e,Bool.false_or]; exact valV_any k r
theorem length_putK (kvs:List (κ × V)) (k:κ) (v:V):(putK kvs k v).length≤kvs.length+1:=by
  unfold putK
  split
  · rw [List.length_map]; omega
  · rw [List.length_append,List.length_cons,List.length_nil]; omega
theorem putK_new {kvs:List (κ × V)} {k:κ} (v:V) (h:valV kvs k=none):putK kvs k v=kvs++[(k,v)]:=by
  unfold putK
  rw [valV_any,h]
  exact if_neg (by decide)
theorem RelO.isSome_eq {o:Option V} {u:Option Value} (r:RelO o u):o.isSome=u.isSome:=by
  cases o with
  | none=>cases u with
    | none=>rfl
    | some _=>exact (show False from r).elim
  | some _=>cases u with
    | none=>exact (show False from r).elim
    | some _=>rfl
theorem KV.val {kvs:List (κ × V)} {vs:List (κ × Value)} (r:KV kvs vs) (k:κ):RelO (valV kvs k) (valueAt vs k):=by
  unfold KV at r
  induction r with
  | nil=>exact True.intro
  | @cons p q ps qs h t ih =>
    obtain ⟨h1,h2⟩:=h
    by_cases e:p.1=k
    · have e':q.1=k:=h1.symm.trans e
      have b:valueAt (q :: qs) k=some q.2:=by simp [valueAt,List.find?_cons,e']
      rw [valV_pos e,b]; exact h2
    · have e':¬ q.1=k:=fun z=>e (h1.trans z)
      have b:valueAt (q :: qs) k=valueAt qs k:=by simp [valueAt,List.find?_cons,e']
      rw [valV_neg e,b]; exact ih
theorem KV.any {kvs:List (κ × V)} {vs:List (κ × Value)} (r:KV kvs vs) (k:κ):(kvs.any fun kv=>decide (kv.1=k))=vs.any fun kv=>decide (kv.1=k):=by
  unfold KV at r
  induction r with
  | nil=>rfl
  | cons h t ih=>rw [List.any_cons,List.any_cons,ih,h.1]
theorem KV.repl {kvs:List (κ × V)} {vs:List (κ × Value)} (r:KV kvs vs) (k:κ) {y:V} {u:Value} (ry:RelV y u) :
    KV (kvs.map fun kv=>if kv.1=k then (kv.1,y) else kv) (vs.map fun kv=>if kv.1=k then (kv.1,u) else kv):=by
  unfold KV at r ⊢
  induction r with
  | nil=>exact .nil
  | @cons p q ps qs h t ih =>
    rw [List.map_cons,List.map_cons]
    refine .cons ?_ ih
    obtain ⟨h1,h2⟩:=h
    by_cases e:p.1=k
    · rw [if_pos e,if_pos (h1.symm.trans e)]; exact ⟨h1,ry⟩
    · rw [if_neg e,if_neg (fun z=>e (h1.trans z))]; exact ⟨h1,h2⟩
theorem KV.put {kvs:List (κ × V)} {vs:List (κ × Value)} (r:KV kvs vs) (k:κ) {y:V} {u:Value} (ry:RelV y u):KV (putK kvs k y) (stored vs k u):=by
  unfold putK stored
  rw [r.any k]
  by_cases e:(vs.any fun kv=>decide (kv.1=k))=true
  · rw [if_pos e,if_pos e]; exact r.repl k ry
  · rw [if_neg e,if_neg e]; exact Paired.snoc r ⟨rfl,ry⟩
theorem KV.length {kvs:List (κ × V)} {vs:List (κ × Value)} (r:KV kvs vs):kvs.length=vs.length:=Paired.length r
end
theorem kV_is {P:Program} {w:World} {k:Key} {u:Value} (r:RelV (kV k) u):(mixKind P w).is k u=true:=by
  cases k with
  | inl i=>obtain ⟨t,e⟩:=(show ∃ t,u=Value.int i t from r); subst e; exact mixKind_int P w i t
  | inr x=>obtain ⟨t,e⟩:=(show ∃ t,u=Value.str x t from r); subst e; exact mixKind_str P w x t
theorem items_are {P:Program} {w:World}:∀ {ks:List Key} {us:List Value},Vals (ks.map kV) us→ItemsAre (mixKind P w) ks us
  | [],_,r=>by rw [List.map_nil] at r; cases r; exact .nil
  | k :: ks,_,r=>by
    rw [List.map_cons] at r
    cases r with
    | cons h t=>exact .cons (kV_is h) (items_are t)
noncomputable abbrev KT (H:Hp):List (List Key × V)→List (List Key × Addr × Value)→Prop:=Paired fun p q=>p.1=q.1∧H q.2.1=some (.tup (p.1.map kV))∧RelV p.2 q.2.2
theorem KT.val {H:Hp} {kvs:List (List Key × V)} {xs:List (List Key × Addr × Value)} (r:KT H kvs xs) (k:List Key):RelO (valV kvs k) ((atKey xs k).map (·.2)):=by
  induction r with
  | nil=>exact True.intro
  | @cons p q ps qs h t ih =>
    obtain ⟨h1,_,h2⟩:=h
    by_cases e:p.1=k
    · have e':q.1=k:=h1.symm.trans e
      have b:atKey (q :: qs) k=some q.2:=by simp [atKey,List.find?_cons,e']
      rw [valV_pos e,b]; exact h2
    · have e':¬ q.1=k:=fun z=>e (h1.trans z)
      have b:atKey (q :: qs) k=atKey qs k:=by simp [atKey,List.find?_cons,e']
      rw [valV_neg e,b]; exact ih
theorem KT.repl {H:Hp} {kvs:List (List Key × V)} {xs:List (List Key × Addr × Value)} (r:KT H kvs xs) (k:List Key) {y:V} {u:Value} (ry:RelV y u) :
    KT H (kvs.map fun kv=>if kv.1=k then (kv.1,y) else kv) (xs.map (putAt k u)):=by
  induction r with
  | nil=>exact .nil
  | @cons p q ps qs h t ih =>
    rw [List.map_cons,List.map_cons]
    refine .cons ?_ ih
    obtain ⟨h1,h2,h3⟩:=h
    unfold putAt
    by_cases e:p.1=k
    · rw [if_pos e,if_pos (h1.symm.trans e)]; exact ⟨h1,h2,ry⟩
    · rw [if_neg e,if_neg (fun z=>e (h1.trans z))]; exact ⟨h1,h2,h3⟩
theorem KT.put {H:Hp} {kvs:List (List Key × V)} {xs:List (List Key × Addr × Value)} (r:KT H kvs xs) (k:List Key) {b:Addr} {y:V} {u:Value} (hb:H b=some (.tup (k.map kV))) (ry:RelV y u) :
    KT H (putK kvs k y) (storedH xs k b u):=by
  have e:(kvs.any fun kv=>decide (kv.1=k))=(atKey xs k).isSome:=by
    rw [valV_any,(r.val k).isSome_eq,Option.isSome_map]
  unfold putK storedH
  rw [e]
  by_cases q:(atKey xs k).isSome=true
  · rw [if_pos q,if_pos q]; exact r.repl k ry
  · rw [if_neg q,if_neg q]; exact Paired.snoc r ⟨rfl,hb,ry⟩
theorem KT.keeps {H H':Hp} {kvs:List (List Key × V)} {xs:List (List Key × Addr × Value)} (r:KT H kvs xs) (ht:∀ b ys,H b=some (.tup ys)→H' b=some (.tup ys)):KT H' kvs xs :=
  Paired.mapP r fun _ _ z=>⟨z.1,ht _ _ z.2.1,z.2.2⟩
section
variable {P:Program} {w:World} {H:Hp} {h:Heap} {a:Addr}
theorem rd_of {u:HO} (ok:HOk P w H h) (e:Rd H a u):ObjOk P w H h a u:=e.ok ok
theorem dk_rd {kvs:List (Key × V)} (ok:HOk P w H h) (e:Rd H a (.dK kvs)):kvs.length≤sizeLine∧(a == sysModules)=false∧∃ vs,KV kvs vs∧h.DictOf (mixKind P w) a vs :=
  show ObjOk P w H h a (.dK kvs) from rd_of ok e
theorem dk_of {kvs:List (Key × V)} (ok:HOk P w H h) (e:H a=some (.dK kvs)):kvs.length≤sizeLine∧(a == sysModules)=false∧∃ vs,KV kvs vs∧h.DictOf (mixKind P w) a vs:=dk_rd ok (.inl e)
theorem key_of {ks:List Key} (ok:HOk P w H h) (e:H a=some (.tup (ks.map kV))):(tupleKind (mixKind P w)).is h ks a:=by
  obtain ⟨_,its,r,o,h1,h2,n,h3⟩:=(show ObjOk P w H h a (.tup (ks.map kV)) from ok a _ e)
  exact ⟨o,its.toArray,n,h1,h2,h3,by simpa using items_are r⟩
theorem dt_rd {kvs:List (List Key × V)} (ok:HOk P w H h) (e:Rd H a (.dT kvs)):kvs.length≤sizeLine∧(a == sysModules)=false ∧
    ∃ xs,KT H kvs xs∧h.DictOfH (tupleKind (mixKind P w)) a xs:=by
  obtain ⟨z,y,xs,r,o,es,ep,h1,h2,h3,h4,h5⟩:=(show ObjOk P w H h a (.dT kvs) from rd_of ok e)
  refine ⟨z,y,xs,r,o,es,ep,h1,h2,h3,h4,fun x hx=>?_,h5⟩
  have all:∀ {l:List (List Key × V)} {m:List (List Key × Addr × Value)},KT H l m→∀ x∈m,(tupleKind (mixKind P w)).is h x.1 x.2.1:=by
    intro l m q
    induction q with
    | nil=>intro x hx; exact nomatch hx
    | @cons p q ps qs hq t ih =>
      intro x hx
      rcases List.mem_cons.mp hx with e | hx
      · subst e
        exact key_of ok (by rw [← hq.1]; exact hq.2.1)
      · exact ih x hx
  exact all r x hx
theorem dt_of {kvs:List (List Key × V)} (ok:HOk P w H h) (e:H a=some (.dT kvs)):kvs.length≤sizeLine∧(a == sysModules)=false ∧
    ∃ xs,KT H kvs xs∧h.DictOfH (tupleKind (mixKind P w)) a xs:=dt_rd ok (.inl e)
end
noncomputable def DGet (H:Hp) (a:Addr) (y:V) (r:Option V):Prop :=
  (∃ kvs k,Rd H a (.dK kvs)∧y=kV k∧r=valV kvs k)∨∃ kvs k b,Rd H a (.dT kvs)∧y=.ref b∧H b=some (.tup (k.map kV))∧r=valV kvs k
noncomputable def DPut (H:Hp) (a:Addr) (y v:V) (H':Hp):Prop :=
  (∃ kvs k,H a=some (.dK kvs)∧y=kV k∧kvs.length < sizeLine∧H'=upd H a (.dK (putK kvs k v))) ∨
  ∃ kvs k b,H a=some (.dT kvs)∧y=.ref b∧H b=some (.tup (k.map kV))∧kvs.length < sizeLine∧H'=upd H a (.dT (putK kvs k v))
theorem DGet.k {H:Hp} {a:Addr} {kvs:List (Key × V)} {k:Key} (e:H a=some (.dK kvs)):DGet H a (kV k) (valV kvs k):=.inl ⟨kvs,k,.inl e,rfl,rfl⟩
theorem DPut.k {H:Hp} {a:Addr} {kvs:List (Key × V)} {k:Key} {v:V} (e:H a=some (.dK kvs)) (hl:kvs.length < sizeLine):DPut H a (kV k) v (upd H a (.dK (putK kvs k v))):=.inl ⟨kvs,k,e,rfl,hl,rfl⟩
section
variable {X:Cx} {pins:List (Addr × Obj)} {σ:St} {H:Hp} {s:Shared} {a:Addr} {y v:V} {u r:Value} {o:Option V} {A:Around} {E:Value→Shared→Prop}
theorem Inv.big (I:Inv X pins σ H s):sysModules < s.heap.objs.size:=by
  have h:mainGlobals < s.heap.objs.size:=(I.mod.glob.keeps I.bk).lt
  exact Nat.lt_trans (by decide) h
theorem d_getItem {Q:Value→Shared→Prop} (hu:A.units+1 < cLine) (I:Inv X pins σ H s) (g:DGet H a y (some v)) (ry:RelV y u) (h:∀ w' s',Inv X pins σ H s'→RelV v w'→Q w' s') :
    wpAny (model X.prog X.w) A (getItem (.ref a) u) Q E s:=by
  rcases g with ⟨kvs,k,e,ey,l⟩ | ⟨kvs,k,b,e,ey,eb,l⟩
  · subst ey
    obtain ⟨z,hd,vs,rel,dd⟩:=dk_rd I.hok e
    obtain ⟨w',hw,rw'⟩:=RelO.some_of (v:=v) (o:=valueAt vs k) (by rw [l]; exact rel.val k)
    exact wpAny_getItem_of (kV_is ry) dd.mapOf hw (h w' _ (I.tok _) rw')
  · subst ey
    cases (show u=Value.ref b from ry)
    obtain ⟨z,hd,xs,rel,dd⟩:=dt_rd I.hok e
    obtain ⟨w',hw,rw'⟩:=RelO.some_of (v:=v) (o:=(atKey xs k).map (·.2)) (by rw [l]; exact rel.val k)
    obtain ⟨p,hp,hp2⟩:=Option.map_eq_some_iff.mp hw
    refine wpAny_getItem_heap (tupleKind_room_in1 hu) (key_of I.hok eb) dd hp ?_
    rw [hp2]
    exact h w' _ (I.tok _) rw'
theorem d_write {h':Heap} {t':Nat} {ob:HO} (I:Inv X pins σ H s) (mu:Mut (H a)) (hs:Heap.SameBut a s.heap h') (he:∃ q,h'.get? a=some q) (new:ObjOk X.prog X.w (upd H a ob) h' a ob) :
    Inv X pins σ (upd H a ob) { s with heap:=h',toks:=t' } :=
  I.write (x:=a) (e:=a) mu (.inl rfl) (fun b q hb z=>(hs.2 b hb).trans z) he new
theorem dk_new {P:Program} {w:World} {H':Hp} {h':Heap} {kvs:List (Key × V)} {vs:List (Key × Value)} (z:kvs.length≤sizeLine) (hd:(a == sysModules)=false) (rel:KV kvs vs) (dd:h'.DictOf (mixKind P w) a vs) :
    ObjOk P w H' h' a (.dK kvs):=⟨z,hd,vs,rel,dd⟩
theorem d_setItem {H':Hp} {Q:Unit→Shared→Prop} (hu:A.units+1 < cLine) (I:Inv X pins σ H s) (g:DPut H a y v H') (ry:RelV y u) (rv:RelV v r) (h:∀ s',Inv X pins σ H' s'→Q () s') :
    wpAny (model X.prog X.w) A (setItem (.ref a) u r) Q E s:=by
  rcases g with ⟨kvs,k,e,ey,l,eH⟩ | ⟨kvs,k,b,e,ey,eb,l,eH⟩
  · subst ey eH
    obtain ⟨z,hd,vs,rel,dd⟩:=dk_of I.hok e
    have hz:vs.length≤sizeLine:=by rw [← rel.length]; exact z
    have hl:(putK kvs k v).length≤sizeLine:=by have:=length_putK kvs k v; omega
    refine wpAny_setItem_pairs (hsz:=hz) (kV_is ry) dd fun h' dd' hs=>h _ ?_
    have he:∃ q,h'.get? a=some q:=let ⟨q,_,_,hq,_⟩:=dd'; ⟨q,hq⟩
    exact d_write I (by rw [e]; exact True.intro) hs he (dk_new hl hd (rel.put k rv) dd')
  · subst ey eH
    cases (show u=Value.ref b from ry)
    obtain ⟨z,hd,xs,rel,dd⟩:=dt_of I.hok e
    have hz:xs.length≤sizeLine:=by rw [← Paired.length rel]; exact z
    have hl:(putK kvs k v).length≤sizeLine:=by have:=length_putK kvs k v; omega
    refine wpAny_setItem_heap (hsz:=hz) (tupleKind_room_in1 hu) (key_of I.hok eb) dd fun h' dd' hs=>h _ ?_
    obtain ⟨q,es,ep,hq,h2,h3,h4,_,h5⟩:=dd'
    refine d_write I (by rw [e]; exact True.intro) hs ⟨q,hq⟩ ⟨hl,hd,_,(rel.put k eb rv).keeps fun c ys ec=>?_,q,es,ep,hq,h2,h3,h4,h5⟩
    rw [upd_ne (ne_of ec e (fun z=>nomatch z))]
    exact ec
end
section
variable {X:Cx} {pins:List (Addr × Obj)} {σ:St} {H:Hp} {s:Shared} {a:Addr} {kvs:List (Key × V)} {k:Key} {u:Value} {A:Around} {E:Value→Shared→Prop}
end
noncomputable def NoSl (i:Expr):Prop:=∀ ov iv,subscripted i false ov iv=operate [ov,iv] (getItem ov iv)
theorem subD_of {prog:Program} {w:World} {A:Around} {E:Value→Shared→Prop} {s:Shared} {env:Env} {value slice:Expr} {pos:Pos} {T id:String} {Q:Value→Shared→Prop}
    (hl:typeLookup (.type T) "__getitem__" = pure (some (.builtin id))) (hs:NoSl slice)
    (h:wpAny (model prog w) A (eval value env) (fun o s₁=>wpAny (model prog w) A (eval slice env) (fun i s₂=>s₂.TypeIs o T∧wpAny (model prog w) A (getItem o i) Q E s₂) E s₁) E s) :
    wpAny (model prog w) A (eval (.Subscript value slice pos) env) Q E s:=by
  refine Subscript_ (wpAny_mono h (fun o s₁ h₁=>wpAny_mono h₁ (fun i s₂ h₂=>?_) fun _ _ x=>x) fun _ _ x=>x)
  obtain ⟨hT,h₂⟩:=h₂
  unfold subscriptTail
  refine wpAny_bind ?_
  rw [getitemInPython_of_ne hT.not_modules]
  refine wpAny_bind (wpAny_specialOf hT hl ?_)
  have fin:wpAny (model prog w) A (subscripted slice false o i) (fun r s₃=>wpAny (model prog w) A (letTemporaryGo value o r >>= fun _=>pure r) Q E s₃) E s₂:=by
    rw [hs o i]
    exact wpAny_operating (wpAny_mono h₂ (fun r s₃ h₃=>wpAny_bind (wpAny_letTemporaryGo (wpAny_pure h₃))) fun _ _ x=>x)
  first
    | exact wpAny_pure (wpAny_bind fin)
    | exact wpAny_bind (wpAny_pure (wpAny_bind fin))
    | exact wpAny_bind fin
theorem dict_typeIs {X:Cx} {pins:List (Addr × Obj)} {σ:St} {H:Hp} {s:Shared} {a:Addr} {y:V} {o:Option V} (I:Inv X pins σ H s) (g:DGet H a y o):s.TypeIs (.ref a) "dict":=by
  rcases g with ⟨kvs,k,e,_,_⟩ | ⟨kvs,k,b,e,_,_,_⟩
  · obtain ⟨_,_,vs,_,dd⟩:=dk_rd I.hok e
    exact dd.typeIs
  · obtain ⟨_,_,xs,_,dd⟩:=dt_rd I.hok e
    exact dd.typeIs
noncomputable def tDGet (td ty:TE):TE:=fun σ H Q=>td σ H fun x H1=>ty σ H1 fun y H2=>∃ a v,x=.ref a∧DGet H2 a y (some v)∧Q v H2
noncomputable def sDPut (td ty tv:TE):TS:=fun D σ H=>tv σ H fun v H1=>td σ H1 fun x H2=>ty σ H2 fun y H3=>∃ a H4,x=.ref a∧DPut H3 a y v H4∧D.nx σ H4
section
variable {X:Cx} {o i e value:Expr} {pos pos' tpos:Pos} {td ty tv:TE}
theorem pe_dget (hu:X.A.units+1 < cLine) (ho:PE X o td) (hi:PE X i ty) (hs:NoSl i):PE X (.Subscript o i pos) (tDGet td ty):=by
  intro pins s σ H Q I h
  refine subD_of PySem.F.slot_dict_getitem.lookup hs (thn (ho pins s σ H _ I h) fun u s1 ⟨x,H1,I1,rx,q1⟩=>thn (hi pins s1 σ H1 _ I1 q1) fun iv s2 ⟨y,H2,I2,ry,a,v,ex,g,q2⟩=>?_)
  subst ex
  obtain rfl:u=Value.ref a:=rx
  exact ⟨dict_typeIs I2 g,d_getItem hu I2 g ry fun w' s3 I3 rw'=>⟨v,H2,I3,rw',q2⟩⟩
theorem ps_dput (hu:X.A.units+1 < cLine) (ho:PE X o td) (hi:PE X i ty) (hv:PE X value tv) (hs:swapsWith value (some (.Subscript o i pos')) pos.line X.env=pure false) :
    PS X (.Assign [.Subscript o i pos'] value pos) (sDPut td ty tv):=by
  intro pins s σ H D I h
  refine wpAny_Assign_Subscript (thn (hv pins s σ H _ I h) fun r s1 ⟨v,H1,I1,rv,q1⟩=>thn (ho pins s1 σ H1 _ I1 q1) fun u s2 ⟨x,H2,I2,rx,q2⟩=>thn (hi pins s2 σ H2 _ I2 q2) fun iv s3 ⟨y,H3,I3,ry,a,H4,ex,g,q3⟩=>?_) hs
  subst ex
  obtain rfl:u=Value.ref a:=rx
  exact d_setItem hu I3 g ry rv fun s4 I4=>⟨σ,H4,I4,q3⟩
end
section
variable {X:Cx} {pos:Pos}
end
noncomputable def mergeK (kvs more:List (Key × V)):List (Key × V):=more.foldl (fun acc kv=>putK acc kv.1 kv.2) kvs
theorem length_mergeK:∀ (more kvs:List (Key × V)),(mergeK kvs more).length≤kvs.length+more.length
  | [],kvs=>by show kvs.length≤kvs.length+0; omega
  | p :: r,kvs=>by
    have h1:=length_mergeK r (putK kvs p.1 p.2)
    have h2:=length_putK kvs p.1 p.2
    show (mergeK (putK kvs p.1 p.2) r).length≤_
    rw [List.length_cons]; omega
structure M1 (X:Cx) (o:Expr) (m:Str) (apos:Pos) (e:Expr) (cpos:Pos):Prop where
  base:attributeBase o m X.env (eval o X.env)=eval o X.env
  few:((backTo cpos (starEach [e] X.env)).all (fun x=>!x.1) && (backToKw cpos (keywordEach [] X.env)).all (fun x=>x.1.isSome)
    && decide (([e]:List Expr).length+([]:List Keyword).length+(if ([]:List Keyword).isEmpty then 0 else 1) < 30))=true
  line:(apos.endLine == cpos.line)=true
  trees:backTo cpos (starEach [e] X.env)=[(false,eval e X.env)]
structure M2 (X:Cx) (o:Expr) (m:Str) (apos:Pos) (e f:Expr) (cpos:Pos):Prop where
  base:attributeBase o m X.env (eval o X.env)=eval o X.env
  few:((backTo cpos (starEach [e,f] X.env)).all (fun x=>!x.1) && (backToKw cpos (keywordEach [] X.env)).all (fun x=>x.1.isSome)
    && decide (([e,f]:List Expr).length+([]:List Keyword).length+(if ([]:List Keyword).isEmpty then 0 else 1) < 30))=true
  line:(apos.endLine == cpos.line)=true
  trees:backTo cpos (starEach [e,f] X.env)=[(false,eval e X.env),(false,eval f X.env)]
section
variable {X:Cx} {pins:List (Addr × Obj)} {σ:St} {H:Hp} {s:Shared} {a:Addr} {y d:V} {u r:Value} {o:Option V} {A:Around} {E:Value→Shared→Prop}
end
section
variable {X:Cx} {o e f:Expr} {apos cpos:Pos} {td ty tx:TE}
end
section
variable {X:Cx} {pins:List (Addr × Obj)} {σ:St} {H:Hp} {s:Shared} {a:Addr} {kvs:List (Key × V)} {A:Around} {E:Value→Shared→Prop}
end
section
variable {X:Cx} {pins:List (Addr × Obj)} {σ:St} {H:Hp} {s:Shared} {a:Addr} {y:V} {u:Value} {A:Around} {E:Value→Shared→Prop}
end
end L2
namespace MD
open PySem
noncomputable abbrev kwD (d:Value):List (Str × Value):=[(Str.ofString "default",d)]
section
variable {prog:Program} {w:World} {A:Around} {R:Result→Shared→Prop} {It:Addr} {fp wr:List Addr} {n:Nat} {Pr:Nat→Value→Prop} {Sx:Nat→Heap→Prop}
end
section
variable {prog:Program} {w:World} {A:Around} {E:Value→Shared→Prop} {s:Shared}
end
end MD
namespace MQ
open PySem
theorem no_keys:typeLookup (.type "list") "keys" = pure none:=am_miss_of_fast (by decide +kernel)
theorem ask {prog:Program} {w:World} {A:Around} {E:Value→Shared→Prop} {s:Shared} {a:Addr} {xs:Array Value} {k:Nat} {sl:Array (Option Value)} {Q:Option Value→Shared→Prop}
    (hx:s.heap.get? a=some { cls:=.type "list",dict:=none,data:=.seq xs k,slots:=sl }) (hA:A.handled=none)
    (h:∀ h' tk,(∀ b o,s.heap.get? b=some o→h'.get? b=some o)→Q none { s with heap:=h',toks:=tk }):wpAny (model prog w) A (getAttr? (.ref a) "keys") Q E s:=by
  obtain ⟨hp,g,d,tk,os⟩:=s
  have ty:∀ tk',(⟨hp,g,d,tk',os⟩:Shared).TypeIs (.ref a) "list":=fun _=>⟨_,hx,rfl⟩
  have f1:=sub_AttributeError
  have f3:=PySem.F.slot_list_getattribute.lookup
  have f4:=PySem.F.slot_list_getattribute.bind (.ref a)
  have f5:=am_list_getattr_none
  unfold getAttr? getAttrBy? getAttrBy
  repeat (any_goals (first | assumption | exact ty _ | ((with_reducible show wpAny _ _ (PySem.call (Value.builtin "list.__getattribute__") _ _) _ _ _); refine call_meets PySem.F.slot_list_getattribute (ty _) am_entry_list_getattribute (PySem.F.args_list_getattribute_2 _ _) (meets_getattribute_miss_list a xs k sl "keys" _ no_keys (by decide +kernel) (by decide +kernel)) ⟨hx,hA,fun h' tk' e ne=>?_⟩) | wp_step))
  obtain ⟨t',u',he⟩:=ne.there
  show wpAny _ _ (getattributeRaised _ _ _ _ _ _ _) _ _ _
  unfold getattributeRaised
  repeat (any_goals (first | assumption | wp_step))
  exact h _ _ ne.keeps
end MQ
namespace DP
open PySem
theorem entry_loop:entryFor table "dict.update.loop" = some Builtin.«dict.update.loop»:=entryFor_of_tree (by kernel_rfl)
theorem plain_loop:plainId "dict.update.loop" = true:=by decide +kernel
section
variable {prog:Program} {w:World} {K:Type} [DecidableEq K] {knd:KeyKind prog w K} {A:Around} {R:Result→Shared→Prop} {It:Addr} {fp wr:List Addr} {n:Nat} {Pr:Nat→Value→Prop} {Sx:Nat→Heap→Prop}
noncomputable def putFrom (ks:Nat→K) (vx:Nat→Value):Nat→Nat→List (K × Value)→List (K × Value)
  | _,0,kvs=>kvs
  | i,k+1,kvs=>putFrom ks vx (i+1) k (stored kvs (ks i) (vx i))
theorem stored_len (kvs:List (K × Value)) (k:K) (v:Value):(stored kvs k v).length≤kvs.length+1:=by
  unfold stored
  split
  · rw [List.length_map]; omega
  · simp
theorem fold (W:Walks prog w A.in1 It fp wr n Pr Sx) (d:Addr) (nd:d ∉ fp) (ks:Nat→K) (vx:Nat→Value) (h0:Heap)
    (pr:∀ i v,Pr i v→∃ (p:Addr) (u:Value) (m:Nat) (o:Obj),v=.ref p∧p ∉ wr∧p≠d∧h0.get? p=some o∧o.cls=.type "tuple"∧o.data=.seq #[u,vx i] m∧knd.is (ks i) u=true) :
    ∀ (k i:Nat) (c:Int) (t:Tok) (kvs:List (K × Value)) (s:Shared),n - i=k→i≤n→Sx i s.heap→(∀ b o,b ∉ wr→b≠d→h0.get? b=some o→s.heap.get? b=some o)→s.heap.DictOf knd d kvs→kvs.length+k≤sizeLine →
    (∀ h' tk,h'.DictOf knd d (putFrom ks vx i k kvs)→(∀ b o,b ∉ wr→b≠d→h0.get? b=some o→h'.get? b=some o)→(∀ b o,b ∉ wr→b≠d→s.heap.get? b=some o→h'.get? b=some o)→R (.ok (.ret .none)) { s with heap:=h',toks:=tk }) →
    codeAny (model prog w) A (.builtin "dict.update.loop" ⟨[.ref d,.ref It,.int c t,.none],[]⟩) R s:=by
  have dw:d ∉ wr:=fun z=>nd (W.sub _ z)
  intro k
  induction k with
  | zero =>
    intro i c t kvs s ek hi st kp hd hz fin
    have ei:i=n:=by omega
    subst ei
    refine codeAny_builtin entry_loop ?_
    rw [Around.under_plainId plain_loop _]
    show wpAny _ A.in1 (pyNext (.ref It) >>= _) _ _ s
    refine wpAny_bind (W.done s _ _ st fun h' tk kp'=>?_)
    show wpAny _ A.in1 (Builtin.Dict.addKeywords d [] >>= _) _ _ _
    obtain ⟨o,es,ep,ho,r⟩:=id hd
    exact wpAny_bind (wpAny_pure (wpAny_pure (fin h' tk ⟨o,es,ep,kp' d o dw ho,r⟩ (fun b o nb nd e=>kp' b o nb (kp b o nb nd e)) fun b o nb nd e=>kp' b o nb e)))
  | succ k ih =>
    intro i c t kvs s ek hi st kp hd hz fin
    have lt:i < n:=by omega
    refine codeAny_builtin entry_loop ?_
    rw [Around.under_plainId plain_loop _]
    show wpAny _ A.in1 (pyNext (.ref It) >>= _) _ _ s
    refine wpAny_bind (W.item i s _ _ lt st fun v h' tk pv st' kp'=>?_)
    obtain ⟨p,u,m,o,rfl,np,npd,ho,hc,hdat,hk⟩:=pr i v pv
    have ho':h'.get? p=some o:=kp' p o np (kp p o np npd ho)
    have hd':h'.DictOf knd d kvs:=by
      obtain ⟨od,es,ep,hod,r⟩:=id hd
      exact ⟨od,es,ep,kp' d od dw hod,r⟩
    refine wpAny_bind (wpAny_holding (wpAny_bind (wpAny_tryCatch ?_)))
    unfold Builtin.Dict.pairItems
    refine wpAny_bind (wpAny_typeOf (T:="tuple") ⟨o,ho',hc⟩ ?_)
    rw [if_pos (by decide)]
    refine wpAny_bind (wpAny_seqItems ho' hdat (wpAny_pure ?_))
    show wpAny _ _ (holding [u,vx i] (dictSet d u (vx i))) _ _ _
    refine wpAny_holding (wpAny_dictSet_pairs hk hd' (fun h2 hd2 sb=>?_) (by omega))
    refine wpAny_pure ⟨plainId_quiet plain_loop _,ih (i+1) _ _ _ _ (by omega) lt (W.frame _ _ _ st' fun b bf o e=>?_) (fun b o nb nbd e=>?_) hd2 ?_ fun h3 tk3 hd3 kp3 kq3=>?_⟩
    · exact (sb.2 b fun z=>nd (z ▸ bf)).trans e
    · exact (sb.2 b nbd).trans (kp' b o nb (kp b o nb nbd e))
    · have:=stored_len kvs (ks i) (vx i)
      omega
    · exact fin h3 tk3 hd3 kp3 fun b o nb nbd e=>kq3 b o nb nbd ((sb.2 b nbd).trans (kp' b o nb e))
end
end DP
namespace DP
open PySem
section
variable {prog:Program} {w:World} {K:Type} [DecidableEq K] {knd:KeyKind prog w K} {A:Around} {E:Value→Shared→Prop} {s:Shared}
theorem call_pairs {l:Addr} {its:Array Value} {c:Nat} {sl:Array (Option Value)} {Q:Value→Shared→Prop} (hl:s.heap.get? l=some { cls:=.type "list",dict:=none,data:=.seq its c,slots:=sl }) (hh:A.handled=none) (ks:Nat→K) (vx:Nat→Value)
    (pr:∀ i v,its[i]?=some v→∃ (p:Addr) (u:Value) (m:Nat) (o:Obj),v=.ref p∧s.heap.get? p=some o∧o.cls=.type "tuple"∧o.data=.seq #[u,vx i] m∧knd.is (ks i) u=true) (hz:its.size≤sizeLine)
    (h:∀ h' tk,h'.DictOf knd s.heap.objs.size (putFrom ks vx 0 its.size [])→(∀ b o,s.heap.get? b=some o→h'.get? b=some o)→Q (.ref s.heap.objs.size) { s with heap:=h',toks:=tk }) :
    wpAny (model prog w) A (PySem.call (.type "dict") [.ref l]) Q E s:=by
  refine callType_codes (Q₁:=fun obj s1=>obj=.ref s.heap.objs.size∧s1={ s with heap:=s.heap.push { cls:=.type "dict",data:=.dict #[] } }) F.kt_called_dict (F.kt_typeCall_dict_1 _) F.entry_dict_init (kt_code_dict_new _ ⟨rfl,rfl⟩) ?_
  rintro obj s1 ⟨rfl,rfl⟩
  have new:(s.heap.push { cls:=.type "dict",data:=.dict #[] }).DictOf knd s.heap.objs.size []:=Heap.DictOf.new s.heap
  refine ⟨new.typeIs,F.args_dict_init_2 _ _,?_⟩
  unfold Builtin.«dict.__init__»
  refine wpAny_bind ?_
  unfold Builtin.Dict.selfAndRest
  refine wpAny_bind (wpAny_notOrdered_dict new.typeIs ?_)
  show wpAny _ _ (pure (s.heap.objs.size,[Value.ref l])) _ _ _
  refine wpAny_pure ?_
  show wpAny _ _ (Builtin.Dict.updateFrom "dict.__init__" s.heap.objs.size (.ref l) [] .none) _ _ _
  unfold Builtin.Dict.updateFrom
  have hl1:(s.heap.push { cls:=.type "dict",data:=.dict #[] }).get? l=some { cls:=.type "list",dict:=none,data:=.seq its c,slots:=sl }:=Heap.get?_push_of_some _ hl
  refine wpAny_bind (wpAny_typeOf (T:="list") ⟨_,hl1,rfl⟩ ?_)
  rw [if_pos (by decide)]
  refine wpAny_bind (MQ.ask hl1 hh fun h2 tk2 kp2=>?_)
  rw [if_pos (show (none:Option Value).isNone=true from rfl)]
  refine wpAny_bind (wpAny_rule (wpAny_bind (wpAny_pyIter_list (items:=its) ⟨_,kp2 _ _ hl1,rfl,_,rfl⟩ ?_)))
  have dl:s.heap.objs.size < h2.objs.size:=Heap.lt_size (kp2 _ _ (Heap.get?_push_size _ rfl))
  have ll:l < s.heap.objs.size:=Heap.lt_size hl
  have lh:l < h2.objs.size:=Nat.lt_trans ll dl
  refine wpAny_pure ⟨plainId_quiet plain_loop _,?_⟩
  refine fold (knd:=knd) (Walks.list (A:=A.in1.in1) hh h2.objs.size l (Nat.ne_of_lt lh) its) s.heap.objs.size ?nd ks vx h2 ?pr its.size 0 _ _ [] _ rfl (Nat.zero_le _) ?st ?kp ?dd ?zz ?fin
  case nd =>
    intro z
    rcases List.mem_cons.mp z with z | z
    · exact absurd z (Nat.ne_of_lt dl)
    · exact absurd (List.mem_singleton.mp z) (Nat.ne_of_gt ll)
  case pr =>
    intro i v hv
    obtain ⟨p,u,m,o,rfl,ho,hc,hd,hk⟩:=pr i v hv
    have lp:p < s.heap.objs.size:=Heap.lt_size ho
    exact ⟨p,u,m,o,rfl,fun z=>absurd (List.mem_singleton.mp z) (Nat.ne_of_lt (Nat.lt_trans lp dl)),Nat.ne_of_lt lp,kp2 _ _ (Heap.get?_push_of_some _ ho),hc,hd,hk⟩
  case st=>exact ⟨⟨_,Heap.get?_push_size _ rfl,rfl,rfl⟩,⟨_,Heap.get?_push_of_some _ (kp2 _ _ hl1),rfl,_,rfl⟩⟩
  case kp=>exact fun b o _ _ e=>Heap.get?_push_of_some _ e
  case dd=>exact (new.keep kp2).push _
  case zz=>simpa using hz
  case fin =>
    intro h' tk hd kp3 kq3
    refine ⟨rfl,h h' tk hd fun b o e=>?_⟩
    have lb:b < s.heap.objs.size:=Heap.lt_size e
    exact kp3 b o (fun z=>absurd (List.mem_singleton.mp z) (Nat.ne_of_lt (Nat.lt_trans lb dl))) (Nat.ne_of_lt lb) (kp2 _ _ (Heap.get?_push_of_some _ e))
end
end DP
namespace L2
open PySem PySem.Spec PyProof.Rows
noncomputable def Prs (H:Hp):List V→List (Key × V)→Prop:=Paired fun v kv=>∃ p:Addr,v=.ref p∧H p=some (.tup [kV kv.1,kv.2])
theorem Prs.same {H H':Hp} (e:Same H H') {vs:List V} {kvs:List (Key × V)} (h:Prs H vs kvs):Prs H' vs kvs:=Paired.mapP h fun _ _ ⟨p,a,b⟩=>⟨p,a,e _ _ b⟩
theorem Prs.snoc {H:Hp} {v:V} {kv:Key × V} (hv:∃ p:Addr,v=.ref p∧H p=some (.tup [kV kv.1,kv.2])):∀ {vs:List V} {kvs:List (Key × V)},Prs H vs kvs→Prs H (vs++[v]) (kvs++[kv])
  | _,_,.nil=>.cons hv .nil
  | _,_,.cons h r=>.cons h (Prs.snoc hv r)
theorem Prs.len {H:Hp} {vs:List V} {kvs:List (Key × V)} (h:Prs H vs kvs):vs.length=kvs.length:=Paired.length h
theorem Prs.at_ {H:Hp} {vs:List V} {kvs:List (Key × V)} (r:Prs H vs kvs):∀ (i:Nat) (v:V),vs[i]?=some v→∃ (kv:Key × V) (p:Addr),kvs[i]?=some kv∧v=.ref p∧H p=some (.tup [kV kv.1,kv.2]):=by
  induction r with
  | nil=>intro i p h; simp at h
  | cons h1 h2 ih =>
    intro i v h
    cases i with
    | zero =>
      simp at h
      subst h
      obtain ⟨p,a,b⟩:=h1
      exact ⟨_,p,rfl,a,b⟩
    | succ i=>simpa using ih i v (by simpa using h)
theorem put_from {kvs:List (Key × V)} {ks:Nat→Key} {vx:Nat→Value}:∀ (n i:Nat) {a:List (Key × V)} {b:List (Key × Value)},KV a b→i+n=kvs.length→(∀ (j:Nat) (kv:Key × V),i≤j→kvs[j]?=some kv→ks j=kv.1∧RelV kv.2 (vx j)) →
    KV (mergeK a (kvs.drop i)) (DP.putFrom ks vx i n b)
  | 0,i,a,b,h,e,_=>by
    rw [List.drop_eq_nil_of_le (by omega)]
    exact h
  | n+1,i,a,b,h,e,hr=>by
    have hi:i < kvs.length:=by omega
    rw [List.drop_eq_getElem_cons hi]
    obtain ⟨e1,r1⟩:=hr i kvs[i] (Nat.le_refl _) (List.getElem?_eq_getElem hi)
    show KV (mergeK (putK a kvs[i].1 kvs[i].2) (kvs.drop (i+1))) (DP.putFrom ks vx (i+1) n (stored b (ks i) (vx i)))
    refine put_from n (i+1) ?_ (by omega) fun j kv hj=>hr j kv (by omega)
    rw [e1]
    exact h.put _ r1
noncomputable def rDictOf:List V→Hp→VK→Prop:=fun xs H Q=>∃ (l:Addr) (vs:List V) (kvs:List (Key × V)),xs=[.ref l]∧H l=some (.lst vs)∧Prs H vs kvs∧∀ p,H p=none→Q (.ref p) (upd H p (.dK (mergeK [] kvs)))
theorem call_dict_of {X:Cx} (hc:X.calm=true):CallR X (.type "dict") rDictOf:=by
  intro pins s σ H xs us Q I r h
  obtain ⟨l,vs,kvs,rfl,hl,hp,q⟩:=h
  obtain ⟨u,rfl,rx⟩:=vals1 r
  cases rx
  obtain ⟨hz,its,c,rv,el,hget⟩:=I.lstM hl
  have hlen:=hp.len
  have key:∀ (i:Nat) (u:Value),its[i]?=some u→∃ (kv:Key × V) (p:Addr) (y z:Value) (m:Nat) (o:Obj),kvs[i]?=some kv∧u=.ref p∧s.heap.get? p=some o∧o.cls=.type "tuple"∧o.data=.seq #[y,z] m∧RelV (kV kv.1) y∧RelV kv.2 z:=fun i u hu=>by
    have hi:i < vs.length:=by
      have:=(List.getElem?_eq_some_iff.mp hu).1
      omega
    obtain ⟨u',hu',ru⟩:=rv.get (i:=i) (x:=vs[i]) (List.getElem?_eq_getElem hi)
    rw [hu] at hu'
    cases hu'
    obtain ⟨kv,p,e1,e2,e3⟩:=hp.at_ i vs[i] (List.getElem?_eq_getElem hi)
    rw [e2] at ru
    cases ru
    obtain ⟨its2,r2,tp,_⟩:=I.tuple (SqT.of (K:=X.K) e3)
    obtain ⟨y,z,ez,ry,rz⟩:=Vals.two r2
    obtain ⟨o,ho,hcl,m,hd⟩:=tp
    refine ⟨kv,p,y,z,m,o,e1,rfl,ho,hcl,?_,ry,rz⟩
    rw [hd,ez]
  have some_at:∀ i:Nat,∃ (k:Key) (v:Value),∀ u,its[i]?=some u→∃ (p:Addr) (y:Value) (m:Nat) (o:Obj),u=.ref p∧s.heap.get? p=some o∧o.cls=.type "tuple"∧o.data=.seq #[y,v] m∧keyIs k y=true∧∃ kv,kvs[i]?=some kv∧k=kv.1∧RelV kv.2 v:=fun i=>by
    cases e:its[i]? with
    | none=>exact ⟨.inl 0,.none,fun u z=>by cases z⟩
    | some u =>
      obtain ⟨kv,p,y,z,m,o,e1,e2,e3,e4,e5,e6,e7⟩:=key i u e
      refine ⟨kv.1,z,fun u' z'=>?_⟩
      cases z'
      have hk:=kV_is (P:=X.prog) (w:=X.w) e6
      exact ⟨p,y,m,o,e2,e3,e4,e5,hk,kv,e1,rfl,e7⟩
  have ch:=fun i=>(some_at i).choose_spec.choose_spec
  refine DP.call_pairs (knd:=mixKind X.prog X.w) hget (I.ok.hd hc) (fun i=>(some_at i).choose) (fun i=>(some_at i).choose_spec.choose) (fun i v hv=>?_) (by rw [List.size_toArray,← el]; exact hz) fun h' tk hd kp=>?_
  · obtain ⟨p,y,m,o,e2,e3,e4,e5,hk,_⟩:=ch i v (by simpa using hv)
    exact ⟨p,y,m,o,e2,e3,e4,e5,hk⟩
  · have hkv:KV (mergeK [] kvs) (DP.putFrom (fun i=>(some_at i).choose) (fun i=>(some_at i).choose_spec.choose) 0 its.toArray.size []):=by
      have:=put_from (kvs:=kvs) (ks:=fun i=>(some_at i).choose) (vx:=fun i=>(some_at i).choose_spec.choose) kvs.length 0 (a:=[]) (b:=[]) .nil (by omega) (fun j kv _ hj=>by
        have hjl:j < its.length:=by
          have:=(List.getElem?_eq_some_iff.mp hj).1
          omega
        obtain ⟨p,y,m,o,_,_,_,_,_,kv',e1,e2,e3⟩:=ch j its[j] (List.getElem?_eq_getElem hjl)
        rw [hj] at e1
        cases e1
        exact ⟨e2,e3⟩)
      rw [List.drop_zero] at this
      rw [List.size_toArray,← el,hlen]
      exact this
    have hml:(mergeK [] kvs).length≤sizeLine:=by
      have:=length_mergeK kvs []
      simp at this
      omega
    have I1:=I.laid (a:=s.heap.objs.size) (o:=.dK (mergeK [] kvs)) (t':=tk) kp (Nat.le_refl _) (dk_new hml (beq_eq_false_iff_ne.mpr (Nat.ne_of_gt I.big)) hkv hd)
    exact ⟨.ref s.heap.objs.size,_,I1,rfl,q _ I.fresh⟩
end L2
namespace L2
open PySem PySem.Spec PyProof.Rows
theorem ints_at {ns:List Int} {its:List Value} (r:Vals (ns.map V.int) its) {i:Nat} {v:Value} (h:its.toArray[i]?=some v):∃ t,v=.int (ns.getD i 0) t:=by
  have h':its[i]?=some v:=by simpa using h
  have hl:=r.length
  have hi:i < its.length:=(List.getElem?_eq_some_iff.mp h').1
  have hb:i < ns.length:=by rw [List.length_map] at hl; omega
  obtain ⟨u,hu,ru⟩:=r.get (i:=i) (x:=V.int ns[i]) (by rw [List.getElem?_map,List.getElem?_eq_getElem hb]; rfl)
  rw [h'] at hu
  cases hu
  obtain ⟨t,rfl⟩:=ru
  refine ⟨t,?_⟩
  rw [List.getD_eq_getElem?_getD,List.getElem?_eq_getElem hb]
  rfl
end L2
namespace M08
noncomputable def lng (t:List Nat):List (List Nat)→Nat
  | []=>0
  | c :: cs=>max (if c.isPrefixOf t=true then c.length else 0) (lng t cs)
noncomputable def ended (ms ks:List (List Nat)) (t:List Nat):Nat:=if lng t ks=0 then lng t ms else 0
end M08
namespace SLi
open PySem
end SLi
namespace L2
open PySem PySem.Spec PyProof.Rows M08
noncomputable abbrev mkT (r:List Nat):V:=V.str ⟨r.toArray⟩
noncomputable abbrev sD (r:List Nat):D:=.str ⟨r.toArray⟩
structure OkC (cs:List (List Nat)):Prop where
  few:cs.length≤100
  size:∀ c∈cs,1≤c.length∧c.length≤8
theorem at_T {cs:List (List Nat)} {i:Nat} (hi:i < cs.length):(cs.map mkT)[i]?=some (mkT cs[i]):=by
  rw [List.getElem?_map,List.getElem?_eq_getElem hi]
  rfl
theorem atI_zero {α:Type} (x:α) (xs:List α):atI (x :: xs) 0=some x:=atI_nat (xs:=x :: xs) (j:=0) rfl
end L2
namespace L2
open PySem PySem.Spec PyProof.Rows M08
end L2
namespace M08
end M08
namespace L2
open PySem PySem.Spec PyProof.Rows
noncomputable def rEqE:R2:=fun x y H Q=>∃ (l b:Addr) (xs:List V),x=.ref l∧y=.ref b∧H l=some (.lst xs)∧H b=some (.lst [])∧Q (.bl xs.isEmpty) H
theorem op_eqE {X:Cx} (hu:X.A.units < cLine):OpR X (compareOp .Eq) rEqE:=by
  intro pins s σ H x y v u Q I rx ry h
  obtain ⟨l,b,xs,rfl,rfl,hl,hb,q⟩:=h
  cases rx
  cases ry
  obtain ⟨its,r1,p1,_⟩:=I.list (SqL.of (K:=X.K) hl)
  obtain ⟨its2,r2,p2,_⟩:=I.list (SqL.of (K:=X.K) hb)
  cases r2
  cases r1 with
  | nil=>exact SeqAt.eq_listAt (e:=fun _=>true) p1.isList p2.isList rfl hu (fun j h1 _=>absurd h1 (Nat.not_lt_zero j)) ⟨.bl true,H,I,rfl,q⟩
  | cons _ _=>exact SeqAt.eq_list_lengthsAt p1.isList p2.isList (by simp) hu ⟨.bl false,H,I,rfl,q⟩
noncomputable def GoodV (H:Hp):V→Prop
  | .str x=>x.length≤1000
  | .non=>True
  | .bl _=>True
  | .int _=>True
  | .ref p=>(∃ xs,H p=some (.lst xs))∨(∃ xs,H p=some (.tup xs))∨∃ kvs,H p=some (.dK kvs)
  | _=>False
end L2
namespace L2
open PySem PySem.Spec PyProof.Rows
noncomputable def notStar:Expr→Bool
  | .Starred ..=>false
  | _=>true
theorem star_cons {e:Expr} {es:List Expr} {env:Env} (h:notStar e=true):starEach (e :: es) env=(false,eval e env) :: starEach es env:=by
  cases e <;> first | rfl | cases h
theorem pa_c {X:Cx} {e:Expr} {es:List Expr} {te:TE} {t:TA} (ha:PE X e te) (hr:PA X es t) (h:notStar e=true:=by rfl):PA X (e :: es) (tCons te t):=pa_cons ha hr (star_cons h)
structure QSs (X:Cx) (st:List Stmt) (t:TS):Prop where
  h:PSs X st t
structure QS (X:Cx) (st:Stmt) (t:TS):Prop where
  h:PS X st t
structure QE (X:Cx) (e:Expr) (t:TE):Prop where
  h:PE X e t
structure QA (X:Cx) (es:List Expr) (t:TA):Prop where
  h:PA X es t
theorem qss_cons {X:Cx} {st:Stmt} {rest:List Stmt} {t u:TS} (h1:QS X st t) (h2:QSs X rest u):QSs X (st :: rest) (tSeq t u):=⟨pss_cons h1.h h2.h⟩
theorem qs_set {X:Cx} {i:Nat} {x:Str} {e:Expr} {te:TE} {pos pos':Pos} (hN:X.N.Nodup) (hi:X.N[i]?=some x) (hx:Loc X.env.scope x) (he:QE X e te) (hs:swapsWith e (some (.Name x pos')) pos.line X.env=pure false:=by rfl)
    (hf:X.fn x=true∨X.env.scope.names.lookup x=some .local:=by first | exact .inl rfl | exact .inr rfl):QS X (.Assign [.Name x pos'] e pos) (tAsg te (gName i)):=⟨ps_set hN hi hx he.h hs hf⟩
theorem qe_lst {X:Cx} {es:List Expr} {t:TA} {pos:Pos} (h:QA X es t):QE X (.List es pos) (tLst t):=⟨pe_lst h.h⟩
theorem qa_nil {X:Cx}:QA X [] tNil:=⟨pa_nil⟩
theorem qa_c {X:Cx} {e:Expr} {es:List Expr} {te:TE} {t:TA} (ha:QE X e te) (hr:QA X es t) (h:notStar e=true:=by rfl):QA X (e :: es) (tCons te t):=⟨pa_c ha.h hr.h h⟩
end L2
namespace M05
noncomputable def nmN:Nat→Nat→List Nat
  | 0,_=>[]
  | f+1,r=>if r=0 then [] else nmN f ((r - 1) / 26)++[97+(r - 1) % 26]
noncomputable def nm (r:Nat):List Nat:=nmN r r
noncomputable def sh:Nat→Nat
  | 0=>0
  | s+1=>26 * sh s+(if s=0 then 0 else 26)
end M05
namespace M05
end M05
namespace L2
open PySem PySem.Spec PyProof.Rows
noncomputable def rCat2:R2:=fun x y H Q=>∃ (a b:Addr) (xs ys:List V),x=.ref a∧y=.ref b∧H a=some (.tup xs)∧H b=some (.tup ys)∧xs.length+ys.length≤sizeLine∧∀ (q:Addr) (H':Hp),Same H H'→H' q=some (.tup (xs++ys))→Q (.ref q) H'
theorem op_catT2 {X:Cx}:OpR X (binaryOp .Add) rCat2:=by
  intro pins s σ H x y v u Q I rx ry h
  obtain ⟨a,b,xs,ys,rfl,rfl,ha,hb,hz,q⟩:=h
  cases xs with
  | cons x1 xs =>
    refine op_catT pins s σ H (.ref a) (.ref b) v u Q I rx ry ⟨a,b,_,_,rfl,rfl,SqT.of ha,SqT.of hb,by simp,hz,fun z=>?_,fun z p hp=>q p _ (same_new hp _) upd_same⟩
    refine q a H (Same.refl H) ?_
    rw [ha,z,List.append_nil]
  | nil =>
    cases rx
    cases ry
    obtain ⟨its,r1,p1,_⟩:=I.tuple (SqT.of (K:=X.K) ha)
    obtain ⟨its2,r2,p2,_⟩:=I.tuple (SqT.of (K:=X.K) hb)
    cases r1
    obtain ⟨⟨cls,dd,data,sl⟩,ho,hc,n,hd⟩:=id p1
    obtain ⟨⟨cls2,dd2,data2,sl2⟩,ho2,hc2,n2,hd2⟩:=id p2
    simp only at hc hd hc2 hd2
    subst hc hd hc2 hd2
    refine concat_meets ⟨_,ho,rfl⟩ ⟨_,ho2,rfl⟩ noFill_tuple_add seq_tuple_add PySem.F.slot_tuple_add PySem.F.entry_tuple_add (PySem.F.args_tuple_add_2 _ _) (tuple_addW0 a b _ its2.toArray n n2 dd dd2 sl sl2 rfl) ⟨ho,ho2,?_⟩
    exact ⟨.ref b,H,I,rfl,q b H (Same.refl H) hb⟩
theorem inV_str (a:Str):∀ xs:List Str,inV (.str a) (xs.map V.str)=decide (a∈xs)
  | []=>rfl
  | x :: xs=>by
    have ih:=inV_str a xs
    unfold inV at ih ⊢
    rw [List.map_cons,List.any_cons,ih]
    show (x == a || decide (a∈xs))=_
    rw [Bool.eq_iff_iff,Bool.or_eq_true,decide_eq_true_eq,decide_eq_true_eq,List.mem_cons,beq_iff_eq]
    constructor
    · rintro (h | h)
      · exact .inl h.symm
      · exact .inr h
    · rintro (h | h)
      · exact .inl h.symm
      · exact .inr h
theorem flat_strs (xs:List Str):(xs.map V.str).all flatV=true:=by
  rw [List.all_eq_true]
  intro v hv
  obtain ⟨x,_,rfl⟩:=List.mem_map.mp hv
  rfl
end L2
namespace ET
open PySem
open Sem (wp)
open AutoSeq1 (wpAny_loadPart')
end ET
namespace L2
open PySem PySem.Spec PyProof.Rows
end L2
namespace L2
open PySem PySem.Spec PyProof.Rows
end L2
namespace DR
open PySem PySem.W
open Sem (wp)
noncomputable def Raw (g:Heap) (d:Addr) (es:Array DictEntry) (ep:Nat):Prop:=∃ o,g.get? d=some o∧o.ExactDict∧o.data=.dict es ep
section
variable {prog:Program} {w:World} {A:Around} {E:Value→Shared→Prop} {s:Shared} {it dd:Addr} {es:Array DictEntry} {i ep:Nat}
end
end DR
namespace L2
open PySem PySem.Spec PyProof.Rows
end L2
namespace SX
open PySem PySem.Spec PyProof.Rows
noncomputable def have_ {K:Type} [DecidableEq K] (val:Nat→K) (i:Nat) (k:K):Bool:=((List.range i).map val).any fun y=>decide (y=k)
noncomputable def many {K:Type} [DecidableEq K] (val:Nat→K):Nat→Nat
  | 0=>0
  | i+1=>if have_ val i (val i)=true then many val i else many val i+1
section
variable {prog:Program} {w:World} {A:Around} {R:Result→Shared→Prop} {I:Addr} {fp wr:List Addr} {G:Array GenState→Array GenState→Prop} {n:Nat} {P:Nat→Value→Prop} {St:Nat→Shared→Prop} {K:Type} [DecidableEq K] {knd:KeyKind prog w K}
end
end SX
namespace L2
open PySem PySem.Spec PyProof.Rows
end L2
namespace L2
open PySem PySem.Spec PyProof.Rows
end L2
namespace ZZ
open PySem
open Sem (wp)
section
variable {prog:Program} {w:World} {A:Around} {E:Value→Shared→Prop} {s:Shared}
end
end ZZ
namespace L2
open PySem PySem.Spec PyProof.Rows
end L2
namespace L2
open PySem PySem.Spec PyProof.Rows
end L2
namespace L2
open PySem PySem.Spec PyProof.Rows
theorem ps_setC0 {X:Cx} {ix:Nat} {xn:Str} {pos' spos:Pos} {elt tg iter:Expr} {ifs:List Expr} {scope:Scope} {pos:Pos} {wi:TI} {g:TG} {tc:TT} {te:TE} (hN:X.N.Nodup) (hix:X.N[ix]?=some xn) (hxl:X.env.scope.names.lookup xn=some .local) (N:List Str) (lift:St→St) (hc:X.calm=true) (hi:PI X tg iter wi)
    (hkind:scope.kind=.function) (hcell:∀ y∈scope.names,y.2≠.cell) (hfree:∀ y∈scope.names,y.2=.free→X.env.kindOf y.1=some .cell∨X.env.kindOf y.1=some .free)
    (hnames:∀ y∈scope.names,y.2=.local→scope.names.lookup y.1=some .local)
    (hlen:∀ σ:St,σ.length=X.N.length→(lift σ).length=N.length)
    (hσ:∀ (σ:St) (i:Nat) (x:Str) (v:V),σ.length=X.N.length→N[i]?=some x→(lift σ)[i]?=some (some v)→scope.names.lookup x=some .free∧∃ j:Nat,X.N[j]?=some x∧σ[j]?=some (some v))
    (hg:∀ cl C s H ex pn E,PG (blockCx X scope N cl C s H ex pn E) tg g) (ht:∀ cl C s H ex pn E,PIfs (blockCx X scope N cl C s H ex pn E) ifs tc) (he:∀ cl C s H ex pn E,PE (blockCx X scope N cl C s H ex pn E) elt te)
    (hs:∀ x,foldedSetIterable iter X.env x=pure x) (hsw:swapsWith (.ListComp elt [⟨tg,iter,ifs,0⟩] scope pos) (some (.Name xn pos')) spos.line X.env=pure true) :
    PS X (.Assign [.Name xn pos'] (.ListComp elt [⟨tg,iter,ifs,0⟩] scope pos) spos) (tAsg (tComp wi g tc te lift) (gName ix)):=by
  intro pins s σ H D I h
  rw [exec_Assign_Name_used _ _ _ _ hsw]
  refine wpAny_bind (wpAny_standAt (wpAny_bind ?_))
  suffices key:wpAny (model X.prog X.w) X.A (comprehension (.ListComp elt [⟨tg,iter,ifs,0⟩] scope pos) scope X.env (firstIterPos [⟨tg,iter,ifs,0⟩] pos) (newList []) (firstAsync [⟨tg,iter,ifs,0⟩]) (firstIter [⟨tg,iter,ifs,0⟩] X.env) (some (assign (.Name xn pos') X.env))) (fun _ s''=>∃ σ' H',Inv X pins σ' H' s''∧D.nx σ' H') X.xe s by
    show wpAny _ _ (comprehension _ _ _ _ _ _ _ _ >>= fun _=>pure ()) _ _ _
    exact wpAny_bind (thn key fun _ s' q=>wpAny_pure (wpAny_pure q))
  obtain ⟨cl,hclos,hcl1,hcl2⟩:=closure_of (scope:=scope) (env:=X.env) fun y hy hf=>I.ok.has y.1 (hfree y hy hf)
  refine wpAny_comprehension_free (use:=some (assign (.Name xn pos') X.env)) rfl hs hclos hkind hnames (thn (hi pins s σ H _ I h) fun v s1 h1=>thn h1 fun itv s2 h2=>?_)
  obtain ⟨it,fp,tn,J,H2,e,I2,T,st2,f2,q⟩:=h2
  subst e
  refine wpAny_newObj_type (wpAny_newFunctionEnv hcell (by intro y hy; simp at hy) (fun h₁ hns₁ hsb₁=>?_) hkind)
  have I3:Inv X pins σ (upd H2 s2.heap.objs.size (.lst [])) { s2 with heap:=s2.heap.push { cls:=.type "list",data:=.seq ([]:List Value).toArray } }:=I2.lnew (its:=[]) (t':=s2.toks) .nil (Nat.zero_le _)
  have fr:H2 s2.heap.objs.size=none:=I2.fresh
  have hold:∀ b o,(s2.heap.push { cls:=.type "list",data:=.seq ([]:List Value).toArray }).get? b=some o→h₁.get? b=some o:=fun b o e=>hsb₁.extBut b o (Nat.ne_of_lt (Heap.lt_size e)) (Heap.get?_push_of_some _ e)
  have f3:∀ b∈fp,FpOk X pins (upd H2 s2.heap.objs.size (.lst [])) b:=fun b hb=>by
    obtain ⟨o,eo,_⟩:=T.obj 0 _ st2 b hb
    exact ⟨by rw [upd_ne (Nat.ne_of_lt (Heap.lt_size eo))]; exact (f2 b hb).1,(f2 b hb).2⟩
  have fo:∀ b∈fp,∃ o,(s2.heap.push { cls:=.type "list",data:=.seq ([]:List Value).toArray }).get? b=some o:=fun b hb=>by
    obtain ⟨o,eo,_⟩:=T.obj 0 _ st2 b hb
    exact ⟨o,Heap.get?_push_of_some _ eo⟩
  generalize hP:s2.heap.push { cls:=.type "list",data:=.seq ([]:List Value).toArray }=P at *
  obtain ⟨W,⟨m0,w0⟩,turn⟩:=q s2.heap.objs.size fr
  generalize hL:s2.heap.objs.size=L at *
  let R:Result→Shared→Prop:=compPost (model X.prog X.w) X.A X.xe (some (assign (.Name xn pos') X.env)) (fun _ s''=>∃ σ' H',Inv X pins σ' H' s''∧D.nx σ' H') (.ref L) P.objs.size
  let Y:Cx:=blockCx X scope N cl P.objs.size { s2 with heap:=P } (upd H2 L (.lst [])) fp (X.pn++pins) (notedBy (model X.prog X.w) X.A (compEnvC scope cl P.objs.size X.env) fun e s'=>R (.error e) s')
  have IY:Inv Y [] (lift σ) (upd H2 L (.lst [])) { s2 with heap:=h₁,toks:=s2.toks+([]:List (Str × Value)).length } :=
    block_ok (s:={ s2 with heap:=P }) I3 hkind hcell hfree hcl1 hcl2 f3 fo (hlen σ I.len) (fun i x v=>hσ σ i x v I.len) hns₁ hold
  have stY:tn 0 h₁:=T.keep _ _ _ st2 fun b hb o e=>hold b o (by rw [← hP]; exact Heap.get?_push_of_some _ e)
  have fC:∀ b∈fp,b≠P.objs.size∧(b∈fp):=fun b hb=>by
    obtain ⟨o,eo⟩:=fo b hb
    exact ⟨Nat.ne_of_lt (Heap.lt_size eo),hb⟩
  have fpY:∀ {H':Hp},(∀ b∈fp,H' b=none)→∀ b∈fp,FpOk Y [] H' b:=fun {H'} hn b hb=>by
    refine ⟨hn b hb,(fC b hb).1,fun z=>?_,.inl hb,fun x c ex=>(f3 b hb).2.2.2.2.1 x c (hcl2 _ _ ex),fun p hp=>?_⟩
    · rcases List.mem_cons.mp (I3.stkSub b z) with y | y
      · exact (f3 b hb).2.1 y
      · exact (f3 b hb).2.2.1 y
    · have hp':p∈(X.pn++pins)++[]:=hp
      rw [List.append_nil] at hp'
      exact (f3 b hb).2.2.2.2.2 p hp'
  have loop:∀ s4:Shared,s4={ s2 with heap:=h₁,toks:=s2.toks+([]:List (Str × Value)).length } →
      codeAny (model X.prog X.w) X.A (.compLoop (.ListComp elt [⟨tg,iter,ifs,0⟩] scope pos) 0 (.ref it) (.ref L) (compEnvC scope cl P.objs.size X.env)) R s4:=by
    rintro s4 rfl
    refine codeAny_compLoop_any (fun n s'=>∃ i σ' H',Inv Y [] σ' H' s'∧tn i s'.heap∧(∀ b∈fp,H' b=none)∧W i n σ' H') ?_ m0 ⟨0,_,_,IY,stY,fun b hb=>(f3 b hb).1,w0⟩
    rintro n s5 ⟨i,σ5,H5,I5,st5,fr5,w5⟩
    rcases turn i n σ5 H5 w5 with ⟨stop,qn⟩ | ⟨go,Nx,hNx,step⟩
    · refine thn (T.done Y rfl rfl rfl hc i [] s5 σ5 H5 Y.xe I5 (fpY fr5) st5 stop) fun r s6 ⟨hr,I6⟩=>?_
      subst hr
      show R (.ok .next) s6
      obtain ⟨m6,hn6,_⟩:=id I6.loc
      have IX:Inv X pins σ H5 s6:=I3.call' (s':=s6) (ch:=fp) I6.os I6.base I6.hok I6.bare fun b hb=>⟨(f3 b hb).2.2.2.1,(f3 b hb).2.1,(f3 b hb).2.2.2.2.1,(f3 b hb).2.2.2.2.2⟩
      have nC:∀ x c,X.env.cells.lookup x=some c→c≠P.objs.size:=fun x c ec z=>by
        obtain ⟨v0,qv⟩:=I3.cell x c ec
        exact absurd qv.lt (by rw [z]; exact Nat.lt_irrefl _)
      have nP:∀ p∈X.pn++pins,p.1≠P.objs.size:=fun p hp z=>by
        have z0:=Heap.lt_size (I3.pin p hp).1
        exact absurd z0 (by rw [z]; exact Nat.lt_irrefl _)
      show wpAny _ _ (assign (.Name xn pos') X.env (.ref L)) _ _ _
      refine wpAny_assign_Name (store_ok2 IX hN hix (.inl hxl) (v:=.ref L) rfl (fun s7 I7 hsb=>?_) (.inr hxl))
      obtain ⟨a7,sb7,ha7⟩:=hsb
      have na7:P.objs.size≠a7:=by
        rcases ha7 with z | z
        · rw [z]
          exact Nat.ne_of_gt I3.lt
        · exact (nC _ _ z).symm
      refine ⟨m6,hn6.at' fun o e=>(sb7.2 _ na7).trans e,fun h' sb=>⟨_,H5,I7.turned (t':=s7.toks) (it:=P.objs.size) (fun b o hb e=>(sb.2 b hb).trans e) I6.free (Nat.ne_of_gt I3.lt) (.inr I3.sz) nC nP,qn⟩⟩
    · refine thn (T.item Y rfl rfl rfl hc i [] s5 σ5 H5 Y.xe I5 (fpY fr5) st5 go) fun r s6 ⟨u,hr,h6⟩=>?_
      subst hr
      refine thn h6 fun _ s7 ⟨x,H7,I7,r7,y7,st7,fr7⟩=>?_
      have I7':=I7.pinned (fpY fr7) (T.obj _ _ st7)
      refine thn (hg _ _ _ _ _ _ _ _ s7 σ5 H7 x u _ I7' r7 (step x H7 y7)) fun _ s8 ⟨σ8,H8,I8,q8⟩=>?_
      refine thn (ht _ _ _ _ _ _ _ _ s8 σ8 H8 _ I8 q8) fun ok s9 ⟨H9,I9,q9⟩=>?_
      have again:∀ {sx:Shared} {Hx:Hp},Inv Y ([]++pinsAt fp s7.heap) σ8 Hx sx→Nx σ8 Hx→∃ m,m < n∧∃ i σ' H',Inv Y [] σ' H' sx∧tn i sx.heap∧(∀ b∈fp,H' b=none)∧W i m σ' H':=fun {sx Hx} Ix nx=>by
        obtain ⟨m',hm,wx⟩:=hNx σ8 Hx nx
        refine ⟨m',hm,i+1,σ8,Hx,Ix.unpinned,T.keep _ _ _ st7 fun b hb o e=>(Ix.pin (b,o) (List.mem_append_right _ (List.mem_append_right _ (mem_pinsAt hb e)))).1,fun b hb=>?_,wx⟩
        obtain ⟨o,e,d⟩:=T.obj _ _ st7 b hb
        exact (Ix.pin (b,o) (List.mem_append_right _ (List.mem_append_right _ (mem_pinsAt hb e)))).2.1
      cases ok with
      | false =>
        rw [if_neg Bool.false_ne_true] at q9 ⊢
        exact again I9 q9
      | true =>
        rw [if_pos rfl] at q9 ⊢
        refine thn (he _ _ _ _ _ _ _ _ s9 σ8 H9 _ I9 q9) fun y s10 ⟨v10,H10,I10,r10,ys,hys,hz,q10⟩=>?_
        refine thn (mt_append (X:=Y) _ s10 σ8 H10 (.ref L) [v10] (.ref L) [y] (fun _ H'=>Nx σ8 H') I10 rfl (.cons r10 .nil) ⟨L,ys,v10,rfl,rfl,hys,hz,q10⟩) fun _ s11 ⟨_,H11,I11,_,q11⟩=>?_
        exact again I11 q11
  exact codeAny_compStart_list (loop _ rfl) (T.self X.A 0 _ _ _ stY (loop _ rfl))
theorem ps_setC {X:Cx} {ix:Nat} {xn:Str} {pos' spos:Pos} {elt tg iter:Expr} {ifs:List Expr} {scope:Scope} {pos:Pos} {wi:TI} {g:TG} {tc:TT} {te:TE} (hN:X.N.Nodup) (hix:X.N[ix]?=some xn) (hxl:X.env.scope.names.lookup xn=some .local) (XN:List Str) (sc:Scope) (N:List Str) (js:List (Option Nat)) (hXN:X.N=XN) (hsc:X.env.scope=sc) (hc:X.calm=true) (hi:PI X tg iter wi)
    (hkind:scope.kind=.function) (hchk:chkLift N js XN scope.names=true) (hcell:∀ y∈scope.names,y.2≠.cell) (hfree:∀ y∈scope.names,y.2=.free→sc.names.lookup y.1=some .cell∨sc.names.lookup y.1=some .free)
    (hnames:∀ y∈scope.names,y.2=.local→scope.names.lookup y.1=some .local)
    (hg:∀ cl C s H ex pn E,PG (blockCx X scope N cl C s H ex pn E) tg g) (ht:∀ cl C s H ex pn E,PIfs (blockCx X scope N cl C s H ex pn E) ifs tc) (he:∀ cl C s H ex pn E,PE (blockCx X scope N cl C s H ex pn E) elt te)
    (hs:∀ x,foldedSetIterable iter X.env x=pure x:=by intro _; rfl) (hsw:swapsWith (.ListComp elt [⟨tg,iter,ifs,0⟩] scope pos) (some (.Name xn pos')) spos.line X.env=pure true:=by rfl) :
    PS X (.Assign [.Name xn pos'] (.ListComp elt [⟨tg,iter,ifs,0⟩] scope pos) spos) (tAsg (tComp wi g tc te (liftBy js)) (gName ix)):=by
  subst hXN
  subst hsc
  exact ps_setC0 hN hix hxl N (liftBy js) hc hi hkind hcell hfree hnames (fun σ _=>chk_len hchk σ) (fun σ i x v _ h1 h2=>chk_at hchk σ i x v h1 h2) hg ht he hs hsw
end L2
set_option maxHeartbeats 1000000
namespace SO
open PySem PySem.W PyProof.Rows
variable {O:KeyOrd} {key:Nat→O.α} {N:Nat}
noncomputable def KN (key:Nat→O.α) (p:Array Nat) (i:Nat):O.α:=key (p.getD i 0)
noncomputable def SortedN (key:Nat→O.α) (p:Array Nat) (k:Nat):Prop:=∀ i j,i≤j→j < k→O.kle (KN key p i) (KN key p j)
noncomputable def FallN (key:Nat→O.α) (p:Array Nat) (k:Nat):Prop:=∀ i j,i≤j→j < k→O.kle (KN key p j) (KN key p i)
noncomputable def InN (N:Nat) (p:Array Nat):Prop:=p.toList.Perm (List.range N)
theorem InN.size {p:Array Nat} (h:InN N p):p.size=N:=by simpa using h.length_eq
theorem InN.lt {p:Array Nat} (h:InN N p) {i:Nat} (hi:i < N):p.getD i 0 < N:=by
  have hs:i < p.size:=by rw [h.size]; exact hi
  have e:p.getD i 0=p[i]:=by simp [Array.getD,hs]
  rw [e]
  exact List.mem_range.mp (h.mem_iff.mp (by simp))
theorem InN.of {p q:Array Nat} (h:InN N p) (g:q.Perm p):InN N q:=(Array.perm_iff_toList_perm.mp g).trans h
theorem KN_congr {p q:Array Nat} {i j:Nat} (h:p[i]?=q[j]?):KN key p i=KN key q j:=by
  unfold KN
  rw [Array.getD_eq_getD_getElem?,Array.getD_eq_getD_getElem?,h]
theorem KN_bubble {p:Array Nat} {src d:Nat} (hs:src < p.size) (hd:d≤src) (k:Nat) :
    KN key (bubble p src d) k=if k=src - d then KN key p src else if src - d < k∧k≤src then KN key p (k - 1) else KN key p k:=by
  have e:=getElem?_bubble hs d hd k
  by_cases h1:k=src - d
  · rw [if_pos h1] at e ⊢; exact KN_congr e
  · rw [if_neg h1] at e ⊢
    by_cases h2:src - d < k∧k≤src
    · rw [if_pos h2] at e ⊢; exact KN_congr e
    · rw [if_neg h2] at e ⊢; exact KN_congr e
theorem KN_rev {p:Array Nat} {i j:Nat} (hj:j≤p.size) (k:Nat):KN key (kas_rev p i j) k=if i≤k∧k < j then KN key p (i+j - 1 - k) else KN key p k:=by
  have e:=getElem?_mirror_all (i:=i) hj k
  unfold kas_rev
  by_cases h1:i≤k∧k < j
  · rw [if_pos h1] at e ⊢; exact KN_congr e
  · rw [if_neg h1] at e ⊢; exact KN_congr e
theorem KN_rev_equal {p:Array Nat} {i j:Nat} (hj:j≤p.size) (heq:∀ k,i≤k→k < j→KN key p k=KN key p (j - 1)) (k:Nat):KN key (kas_rev p i j) k=KN key p k:=by
  rw [KN_rev hj]
  split
  · rw [heq _ (by omega) (by omega),heq k (by omega) (by omega)]
  · rfl
theorem InN.rev {p:Array Nat} (h:InN N p) (i j:Nat):InN N (kas_rev p i j):=h.of (mirror_perm _ _ _ _)
section
variable {cmp:Nat→Nat→(Bool→Shared→Prop)→Shared→Prop} {s:Shared}
noncomputable def Cmp (key:Nat→O.α) (N:Nat) (cmp:Nat→Nat→(Bool→Shared→Prop)→Shared→Prop) (s:Shared):Prop :=
  ∀ (i j:Nat) (C:Bool→Shared→Prop),i < N→j < N→C (O.blt (key i) (key j)) s→cmp i j C s
theorem ask {α:Type} {p:Array Nat} {i j:Nat} {k:Bool→KasT α} {G:α→Shared→Prop} (hc:Cmp key N cmp s) (hp:InN N p) (hi:i < N) (hj:j < N)
    (h:(k (O.blt (KN key p i) (KN key p j))).kasWp cmp G s):(KasT.ask (p.getD i 0) (p.getD j 0) k).kasWp cmp G s :=
  hc _ _ _ (hp.lt hi) (hp.lt hj) h
theorem asc {p:Array Nat} {G:Nat→Shared→Prop} {nrem:Nat} (hc:Cmp key N cmp s) (hp:InN N p) (hN:nrem≤N):∀ (f n:Nat),1≤n→n+f=nrem→SortedN key p n →
    (∀ m,n≤m→m≤nrem→SortedN key p m→(m=nrem∨O.klt (KN key p m) (KN key p (m - 1)))→G m s)→(kas_asc p f n).kasWp cmp G s
  | 0,n,h1,hf,hs,h=>h n (Nat.le_refl _) (by omega) hs (.inl (by omega))
  | f+1,n,h1,hf,hs,h=>by
    unfold kas_asc
    refine ask hc hp (by omega) (by omega) ?_
    cases hl:O.blt (KN key p n) (KN key p (n - 1)) with
    | true =>
      rw [if_pos rfl]
      exact h n (Nat.le_refl _) (by omega) hs (.inr hl)
    | false =>
      rw [if_neg (by simp)]
      refine asc hc hp hN f (n+1) (by omega) (by omega) (fun i j hij hj=>?_) fun m a b c d=>h m (by omega) b c d
      by_cases hjx:j < n
      · exact hs i j hij hjx
      · have hj':j=n:=by omega
        subst hj'
        by_cases hi':i=j
        · subst hi'; exact KeyOrd.kle_refl _
        · exact KeyOrd.kle_trans (hs i (j - 1) (by omega) (by omega)) hl
theorem desc {G:Array Nat × Nat × Nat→Shared→Prop} {nrem:Nat} (hc:Cmp key N cmp s) (hN:nrem≤N):∀ (f:Nat) (p:Array Nat) (n q:Nat),InN N p→1≤n→n+f=nrem→FallN key p n→q+1≤n →
    (∀ i,n - (q+1)≤i→i < n→KN key p i=KN key p (n - 1)) →
    (∀ p m q,InN N p→n≤m→m≤nrem→FallN key p m→q+1≤m→(∀ i,m - (q+1)≤i→i < m→KN key p i=KN key p (m - 1))→G (p,m,q) s)→(kas_desc f p n q).kasWp cmp G s
  | 0,p,n,q,hp,h1,hf,hs,hq,he,h=>h p n q hp (Nat.le_refl _) (by omega) hs hq he
  | f+1,p,n,q,hp,h1,hf,hs,hq,he,h=>by
    unfold kas_desc
    have hsz:n≤p.size:=by rw [hp.size]; omega
    refine ask hc hp (by omega) (by omega) ?_
    cases hl:O.blt (KN key p n) (KN key p (n - 1)) with
    | true =>
      rw [if_pos rfl]
      have step1:∀ xs:Array Nat,(∀ k,KN key xs k=KN key p k)→FallN key xs (n+1):=by
        intro xs hk i j hij hj
        rw [hk,hk]
        by_cases hjx:j < n
        · exact hs i j hij hjx
        · have hj':j=n:=by omega
          subst hj'
          by_cases hi':i=j
          · subst hi'; exact KeyOrd.kle_refl _
          · exact KeyOrd.kle_trans (KeyOrd.kle_of_klt hl) (hs i (j - 1) (by omega) (by omega))
      by_cases hneq:q > 0
      · rw [if_pos hneq]
        exact desc hc hN f _ (n+1) 0 (hp.rev _ _) (by omega) (by omega) (step1 _ (KN_rev_equal hsz he)) (by omega) (fun i a b=>by congr 1; omega) fun p m q x a b c d e=>h p m q x (by omega) b c d e
      · rw [if_neg hneq]
        exact desc hc hN f _ (n+1) 0 hp (by omega) (by omega) (step1 _ fun _=>rfl) (by omega) (fun i a b=>by congr 1; omega) fun p m q x a b c d e=>h p m q x (by omega) b c d e
    | false =>
      rw [if_neg (by simp)]
      refine ask hc hp (by omega) (by omega) ?_
      cases hg:O.blt (KN key p (n - 1)) (KN key p n) with
      | true =>
        rw [if_pos rfl]
        exact h p n q hp (Nat.le_refl _) (by omega) hs hq he
      | false =>
        rw [if_neg (by simp)]
        have heqx:KN key p n=KN key p (n - 1):=KeyOrd.kle_antisymm hg hl
        refine desc hc hN f p (n+1) (q+1) hp (by omega) (by omega) (fun i j hij hj=>?_) (by omega) (fun i a b=>?_) fun p m q x a b c d e=>h p m q x (by omega) b c d e
        · by_cases hjx:j < n
          · exact hs i j hij hjx
          · have hj':j=n:=by omega
            subst hj'
            by_cases hi':i=j
            · subst hi'; exact KeyOrd.kle_refl _
            · rw [heqx]; exact hs i (j - 1) (by omega) (by omega)
        · rw [show n+1 - 1=n by omega]
          by_cases hix:i=n
          · subst hix; rfl
          · rw [heqx]; exact he i (by omega) (by omega)
theorem tail3 {p:Array Nat} {n nrem:Nat} {G:Nat × Array Nat→Shared→Prop} (hc:Cmp key N cmp s) (hp:InN N p) (hN:nrem≤N) (h1:1≤n) (hn:n≤nrem) (hs:FallN key p n)
    (h:∀ m q,InN N q→1≤m→m≤nrem→SortedN key q m→G (m,q) s):(kas_tail3 n nrem p).kasWp cmp G s:=by
  unfold kas_tail3
  rw [KasT.kasWp_bind]
  have hsz:n≤p.size:=by rw [hp.size]; omega
  refine asc (nrem:=nrem) hc (hp.rev _ _) hN _ n h1 (by omega) (fun i j hij hj=>?_) fun m a b c _=>h m _ (hp.rev _ _) (by omega) b c
  rw [KN_rev hsz,KN_rev hsz,if_pos (by omega),if_pos (by omega)]
  exact hs _ _ (by omega) (by omega)
theorem descPart {p:Array Nat} {n nrem:Nat} {G:Nat × Array Nat→Shared→Prop} (hc:Cmp key N cmp s) (hp:InN N p) (hN:nrem≤N) (hn:n+1≤nrem) (hs:FallN key p (n+1))
    (h:∀ m q,InN N q→1≤m→m≤nrem→SortedN key q m→G (m,q) s):(kas_descPart n nrem p).kasWp cmp G s:=by
  unfold kas_descPart
  rw [KasT.kasWp_bind]
  refine desc (nrem:=nrem) hc hN _ p (n+1) 0 hp (by omega) (by omega) hs (by omega) (fun i a b=>by congr 1; omega) fun p' m q hp' hm1 hm2 hf hq he=>?_
  dsimp only
  have hsz:m≤p'.size:=by rw [hp'.size]; omega
  by_cases hneq:q > 0
  · rw [if_pos hneq]
    refine tail3 hc (hp'.rev _ _) hN (by omega) hm2 (fun i j hij hj=>?_) h
    rw [KN_rev_equal hsz he,KN_rev_equal hsz he]
    exact hf i j hij hj
  · rw [if_neg hneq]
    exact tail3 hc hp' hN (by omega) hm2 hf h
theorem count {p:Array Nat} {nrem:Nat} {G:Nat × Array Nat→Shared→Prop} (hc:Cmp key N cmp s) (hp:InN N p) (hN:nrem≤N) (h1:1≤nrem)
    (h:∀ m q,InN N q→1≤m→m≤nrem→SortedN key q m→G (m,q) s):(kas_count nrem p).kasWp cmp G s:=by
  unfold kas_count
  rw [KasT.kasWp_bind]
  refine asc (nrem:=nrem) hc hp hN _ 1 (Nat.le_refl _) (by omega) (fun i j hij hj=>by have:i=j:=(by omega); subst this; exact KeyOrd.kle_refl _) fun n hn1 hn2 hsn hor=>?_
  by_cases hnn:n=nrem
  · rw [if_pos (by simpa using hnn)]
    exact h n p hp hn1 hn2 hsn
  · rw [if_neg (by simpa using hnn)]
    have hlt:O.klt (KN key p n) (KN key p (n - 1)):=hor.resolve_left hnn
    by_cases hgt:n > 1
    · rw [if_pos hgt]
      refine ask hc hp (by omega) (by omega) ?_
      cases hrose:O.blt (KN key p 0) (KN key p (n - 1)) with
      | true =>
        rw [if_pos rfl]
        exact h n p hp hn1 hn2 hsn
      | false =>
        rw [if_neg (by simp)]
        have hsz:n≤p.size:=by rw [hp.size]; omega
        have hall:∀ k,0≤k→k < n→KN key p k=KN key p (n - 1):=by
          intro k _ hk
          have a1:=hsn 0 k (by omega) hk
          have a2:=hsn k (n - 1) (by omega) (by omega)
          exact KeyOrd.kle_antisymm a2 (KeyOrd.kle_trans hrose a1)
        refine descPart hc (hp.rev _ _) hN (by omega) (fun i j hij hj=>?_) h
        rw [KN_rev_equal hsz hall,KN_rev_equal hsz hall]
        by_cases hjn:j < n
        · rw [hall i (by omega) (by omega),hall j (by omega) hjn]; exact KeyOrd.kle_refl _
        · have hj':j=n:=by omega
          subst hj'
          by_cases hi':i=j
          · subst hi'; exact KeyOrd.kle_refl _
          · rw [hall i (by omega) (by omega)]; exact KeyOrd.kle_of_klt hlt
    · rw [if_neg hgt]
      have hn1':n=1:=by omega
      subst hn1'
      refine descPart hc hp hN (by omega) (fun i j hij hj=>?_) h
      by_cases hi':i=j
      · subst hi'; exact KeyOrd.kle_refl _
      · have hi0:i=0:=by omega
        have hj1:j=1:=by omega
        subst hi0; subst hj1
        exact KeyOrd.kle_of_klt hlt
theorem place {p:Array Nat} {k:Nat} {G:Nat→Shared→Prop} (hc:Cmp key N cmp s) (hp:InN N p) (hk:k < N) (hs:SortedN key p k):∀ (f l r:Nat),l≤r→r≤k→r - l≤f →
    (∀ i,i < l→O.kle (KN key p i) (KN key p k))→(∀ i,r≤i→i < k→O.klt (KN key p k) (KN key p i)) →
    (∀ l,l≤k→(∀ i,i < l→O.kle (KN key p i) (KN key p k))→(∀ i,l≤i→i < k→O.klt (KN key p k) (KN key p i))→G l s)→(kas_place p k f l r).kasWp cmp G s
  | 0,l,r,hlr,hrk,hf,hlo,hhi,h=>by
    have e:l=r:=by omega
    subst e
    exact h l hrk hlo hhi
  | f+1,l,r,hlr,hrk,hf,hlo,hhi,h=>by
    unfold kas_place
    by_cases hge:l ≥ r
    · rw [if_pos hge]
      have e:l=r:=by omega
      subst e
      exact h l hrk hlo hhi
    · rw [if_neg hge]
      refine ask hc hp hk (by omega) ?_
      cases hl:O.blt (KN key p k) (KN key p ((l+r) / 2)) with
      | true =>
        rw [if_pos rfl]
        exact place hc hp hk hs f l ((l+r) / 2) (by omega) (by omega) (by omega) hlo (fun i a b=>KeyOrd.klt_of_klt_of_kle hl (hs _ _ a b)) h
      | false =>
        rw [if_neg (by simp)]
        exact place hc hp hk hs f ((l+r) / 2+1) r (by omega) (by omega) (by omega) (fun i a=>KeyOrd.kle_trans (hs i ((l+r) / 2) (by omega) (by omega)) hl) hhi h
theorem bin {n:Nat} {G:Array Nat→Shared→Prop} (hc:Cmp key N cmp s) (hN:n≤N):∀ (f:Nat) (p:Array Nat) (k:Nat),InN N p→k+f=n→SortedN key p k →
    (∀ p,InN N p→SortedN key p n→G p s)→(kas_bin f p k).kasWp cmp G s
  | 0,p,k,hp,hf,hs,h=>h p hp (by rw [show n=k by omega]; exact hs)
  | f+1,p,k,hp,hf,hs,h=>by
    unfold kas_bin
    rw [KasT.kasWp_bind]
    refine place hc hp (by omega) hs k 0 k (by omega) (Nat.le_refl _) (by omega) (fun i a=>by omega) (fun i a b=>by omega) fun l hlk hlo hhi=>?_
    refine bin hc hN f _ (k+1) (hp.of (bubble_perm _ _ _)) (by omega) (fun i j hij hj=>?_) h
    have hks:k < p.size:=by rw [hp.size]; omega
    rw [KN_bubble hks (by omega),KN_bubble hks (by omega),show k - (k - l)=l by omega]
    repeat' split
    all_goals first
      | (exfalso; omega)
      | exact KeyOrd.kle_refl _
      | exact hlo _ (by omega)
      | exact KeyOrd.kle_of_klt (hhi _ (by omega) (by omega))
      | exact hs _ _ (by omega) (by omega)
theorem sort {G:Array Nat→Shared→Prop} (hc:Cmp key N cmp s) (h1:1≤N) (h:∀ p,InN N p→SortedN key p N→G p s):(kas_sort N).kasWp cmp G s:=by
  unfold kas_sort
  rw [KasT.kasWp_bind]
  refine count hc (show InN N _ by unfold InN; simp) (Nat.le_refl _) h1 fun m q hq hm1 hm2 hs=>?_
  dsimp only
  by_cases hlt:m < N
  · rw [if_pos hlt,show max m 1=m by omega]
    exact bin hc (Nat.le_refl _) _ q m hq (by omega) hs h
  · rw [if_neg hlt]
    obtain rfl:m=N:=by omega
    exact h q hq hs
end
section
variable {prog:Program} {w:World} {A:Around} {E:Value→Shared→Prop} {s:Shared}
noncomputable def Keeps (h h':Heap):Prop:=∀ b o,h.get? b=some o→h'.get? b=some o
theorem list_sort {a:Addr} {vs:List Value} {n:Nat} {P:PySem.Fin→Shared→Prop} (key:Nat→O.α) (κ:SortKind) (ho:s.heap.get? a=some (seqObj "list" vs.toArray n)) (h64:vs.length < 64)
    (hk:2≤vs.length→∀ h',(∀ b o,b≠a→s.heap.get? b=some o→h'.get? b=some o)→∀ (Q:SortKind→Shared→Prop),Q κ { s with heap:=h' }→wpAny (model prog w) A (keyKind' vs.toArray) Q E { s with heap:=h' })
    (hc:∀ h',(∀ b o,b≠a→s.heap.get? b=some o→h'.get? b=some o)→Cmp key vs.length (kas_ask prog w A κ vs) { s with heap:=h' })
    (h:∀ p,InN vs.length p→SortedN key p vs.length→P (.done (.ret .none)) { s with heap:=sortedHeap s.heap a vs (List.toArray (p.toList.map fun i=>vs.getD i Value.none)) }) :
    wpAny (model prog w) A (Builtin.«list.sort» ⟨[.ref a],[]⟩) P E s:=by
  rw [list_sort_plain]
  have ha:a < s.heap.objs.size:=Heap.lt_size ho
  refine wpAny_bind (listItems_at ho rfl ?_)
  refine wpAny_bind (listUpdate_at ho rfl ?_ (by rw [sizeLine_eq]; simp; omega))
  obtain ⟨e1,ho1⟩:∃ e1,(s.heap.update a (Obj.mapSeq fun _=>#[])).get? a=some (seqObj "list" #[] e1):=⟨_,get?_update_seq ho (fun _=>#[])⟩
  refine wpAny_bind (seqEpoch_at ho1 rfl ?_)
  refine wpAny_bind (wpAny_newTuple ?_ (by rw [sizeLine_eq]; simp; omega))
  refine wpAny_bind (wpAny_newList ?_)
  refine wpAny_holding ?_
  have keep:∀ b o,b≠a→s.heap.get? b=some o→(((s.heap.update a (Obj.mapSeq fun _=>#[])).push (seqObj "tuple" vs.toArray 0)).push (seqObj "list" #[] 0)).get? b=some o:=fun b o hb q=>by
    have hlt:b < s.heap.objs.size:=Heap.lt_size q
    rw [Heap.get?_push_ne _ _ _ (by rw [size_push',Heap.size_update]; exact Nat.ne_of_lt (Nat.lt_succ_of_lt hlt)),Heap.get?_push_ne _ _ _ (by rw [Heap.size_update]; exact Nat.ne_of_lt hlt),Heap.get?_update_ne _ _ _ _ hb]
    exact q
  have ho6:(((s.heap.update a (Obj.mapSeq fun _=>#[])).push (seqObj "tuple" vs.toArray 0)).push (seqObj "list" #[] 0)).get? a=some (seqObj "list" #[] e1):=by
    rw [Heap.get?_push_ne _ _ _ (by rw [size_push',Heap.size_update]; exact Nat.ne_of_lt (Nat.lt_succ_of_lt ha)),Heap.get?_push_ne _ _ _ (by rw [Heap.size_update]; exact Nat.ne_of_lt ha)]
    exact ho1
  show wpAny (model prog w) A _ P E { s with heap:=((s.heap.update a (Obj.mapSeq fun _=>#[])).push (seqObj "tuple" vs.toArray 0)).push (seqObj "list" #[] 0) }
  dsimp only
  have hsz:vs.toArray.size=vs.length:=by simp
  by_cases h2:vs.toArray.size < 2
  · rw [if_pos h2,if_pos h2]
    refine wpAny_bind (wpAny_pure ?_)
    rw [StateT.run_pure]
    refine wpAny_bind (wpAny_pure ?_)
    dsimp only
    refine wpAny_bind (seqEpoch_at ho6 rfl ?_)
    have e:((arrOf (SortSt.mk' general' (vs.toArray.zip vs.toArray) #[] 7 none)).map (·.2))=List.toArray ((List.range vs.length).toArray.toList.map fun i=>vs.getD i Value.none):=by
      show (vs.toArray.zip vs.toArray).map (·.2)=_
      apply Array.toList_inj.mp
      apply List.ext_getElem
      · simp
      · intro i h1 h2'
        simp at h1 h2' ⊢
        simp [h1]
    rw [e]
    refine wpAny_bind (listUpdate_at ho6 rfl ?_ (hsz2:=by rw [sizeLine_eq]; simp; omega))
    simp only [bne_self_eq_false,Bool.false_eq_true,if_false]
    refine wpAny_pure (h _ (show InN vs.length (List.range vs.length).toArray from List.Perm.refl _) ?_)
    intro i j hij hj
    have:i=j:=by omega
    subst this; exact KeyOrd.kle_refl _
  · rw [if_neg h2,if_neg h2]
    refine wpAny_bind (hk (by omega) _ keep _ ?_)
    refine wpAny_bind (wpAny_mono (kat_run (ks:=vs) (vs:=vs) (Q:=fun st' s'=>∃ p:Array Nat,arrOf st'=p.map (kas_item (vs.toArray.zip vs.toArray))∧failedOf st'=none∧s'=_∧InN vs.length p∧SortedN key p vs.length)
      (G:=fun p s'=>s'=_∧InN vs.length p∧SortedN key p vs.length) rfl (by omega) h64 (fun p st' s' _ har hf hg=>⟨p,har,hf,hg⟩) (sort (hc _ keep) (by omega) fun p a b=>⟨rfl,a,b⟩)) ?_ fun _ _ x=>x)
    rintro ⟨⟨⟩,st'⟩ s' ⟨p,har,hf,rfl,hi,hso⟩
    dsimp only
    have hpl:p.size≤63:=by rw [hi.size]; omega
    refine wpAny_bind (seqEpoch_at ho6 rfl ?_)
    rw [kat_snds rfl har]
    refine wpAny_bind (listUpdate_at ho6 rfl ?_ (hsz2:=by rw [sizeLine_eq]; simp; omega))
    rw [hf]
    simp only [bne_self_eq_false,Bool.false_eq_true,if_false]
    exact wpAny_pure (h p hi hso)
theorem sorted_of {v:Value} {vs:List Value} {g:Heap} {Q:Value→Shared→Prop} (key:Nat→O.α) (κ:SortKind) (h64:vs.length < 64) (kg:Keeps s.heap g)
    (hcol:∀ (Q:List Value→Shared→Prop),Q vs { s with heap:=g }→wpAny (model prog w) A.in1 (collect v) Q E { s with heap:=s.heap })
    (hk:2≤vs.length→∀ h',Keeps s.heap h'→∀ (E:Value→Shared→Prop) (Q:SortKind→Shared→Prop),Q κ { s with heap:=h' }→wpAny (model prog w) A.in1.in1 (keyKind' vs.toArray) Q E { s with heap:=h' })
    (hc:∀ h',Keeps s.heap h'→Cmp key vs.length (kas_ask prog w A.in1.in1 κ vs) { s with heap:=h' })
    (h:∀ (g':Heap) (p:Array Nat),Keeps s.heap g'→InN vs.length p→SortedN key p vs.length→(∃ n,g'.get? g.objs.size=some (seqObj "list" (List.toArray (p.toList.map fun i=>vs.getD i Value.none)) n))→Q (.ref g.objs.size) { s with heap:=g' }) :
    wpAny (model prog w) A (call (.builtin "sorted") [v]) Q E s:=by
  refine Calls.call_function_entry kind_sorted plain_sorted entry_sorted (args_sorted1 _) ?_
  unfold Builtin.«sorted»
  refine wpAny_bind (m:=checkCount "sorted" 1 1 _) (wpAny_pure ?_)
  refine wpAny_bind (hcol _ ?_)
  refine wpAny_bind (wpAny_newList ?_ (by rw [sizeLine_eq]; omega))
  have hoL:(g.push (seqObj "list" vs.toArray 0)).get? g.objs.size=some (seqObj "list" vs.toArray 0):=Heap.get?_push_size _ rfl
  have keep:∀ h',(∀ b o,b≠g.objs.size→(g.push (seqObj "list" vs.toArray 0)).get? b=some o→h'.get? b=some o)→Keeps s.heap h':=fun h' k b o q=>by
    have q':=kg b o q
    exact k b o (Nat.ne_of_lt (Heap.lt_size q')) (Heap.get?_push_of_some _ q')
  show wpAny _ _ _ _ _ { s with heap:=g.push (seqObj "list" vs.toArray 0) }
  refine wpAny_bind (wpAny_holding (wpAny_call_entry slot_list_sort ⟨_,hoL,rfl⟩ entry_list_sort (list_sort key κ hoL h64 (fun z h' k Q q=>hk z h' (keep h' k) _ Q q) (fun h' k=>hc h' (keep h' k)) fun p a1 a2=>⟨_,rfl,?_⟩) (args_list_sort _)))
  refine wpAny_pure ⟨_,rfl,h _ p (keep _ fun b o hb q=>?_) a1 a2 ?_⟩
  · unfold sortedHeap
    have hlt:b < (g.push (seqObj "list" vs.toArray 0)).objs.size:=Heap.lt_size q
    rw [Heap.get?_update_ne _ _ _ _ hb,Heap.get?_push_ne _ _ _ (by rw [size_push',Heap.size_update]; exact Nat.ne_of_lt (Nat.lt_succ_of_lt hlt)),Heap.get?_push_ne _ _ _ (by rw [Heap.size_update]; exact Nat.ne_of_lt hlt),Heap.get?_update_ne _ _ _ _ hb]
    exact q
  · unfold sortedHeap
    have ha:g.objs.size < (g.push (seqObj "list" vs.toArray 0)).objs.size:=Heap.lt_size hoL
    obtain ⟨e1,ho1⟩:∃ e1,((g.push (seqObj "list" vs.toArray 0)).update g.objs.size (Obj.mapSeq fun _=>#[])).get? g.objs.size=some (seqObj "list" #[] e1):=⟨_,get?_update_seq hoL (fun _=>#[])⟩
    have ho6:((((g.push (seqObj "list" vs.toArray 0)).update g.objs.size (Obj.mapSeq fun _=>#[])).push (seqObj "tuple" vs.toArray 0)).push (seqObj "list" #[] 0)).get? g.objs.size=some (seqObj "list" #[] e1):=by
      rw [Heap.get?_push_ne _ _ _ (by rw [size_push',Heap.size_update]; exact Nat.ne_of_lt (Nat.lt_succ_of_lt ha)),Heap.get?_push_ne _ _ _ (by rw [Heap.size_update]; exact Nat.ne_of_lt ha)]
      exact ho1
    exact ⟨_,get?_update_seq ho6 _⟩
end
end SO
set_option maxHeartbeats 4000000
namespace PySem.SeqAt
open AutoSeq1 (wpAny_loadPart')
open MeetsSeq MeetsSeq2 MeetsSeq3 SeqRoads2
noncomputable def LtAt (A:Around) (s:Shared) (y x:Value) (b:Bool):Prop :=
  ∀ (prog:Program) (w:World) (E:Value→Shared→Prop) (Q:Value→Shared→Prop),Q (.bool b) s→wpAny (model prog w) A (richCompare .Lt y x) Q E s
noncomputable def lexR (e f:Nat→Bool) (fin:Bool):List Nat→Bool
  | []=>fin
  | i :: r=>if e i=true then lexR e f fin r else f i
theorem tuple_ltAt (l b:Addr) (items items2:Array Value) (n n2:Nat) (dd dd2:Option Addr) (sl sl2:Array (Option Value)) (e f:Nat→Bool) :
    Meets (Builtin.«tuple.__lt__» ⟨[.ref l,.ref b],[]⟩)
      (fun A R s=>s.heap.get? l=some { cls:=.type "tuple",dict:=dd,data:=.seq items n,slots:=sl }∧s.heap.get? b=some { cls:=.type "tuple",dict:=dd2,data:=.seq items2 n2,slots:=sl2 } ∧
        (∀ j (h1:j < items.size) (h2:j < items2.size),EqAt A.in1 s items[j] items2[j] (e j))∧(∀ j (h1:j < items.size) (h2:j < items2.size),e j=false→LtAt A.in1 s items[j] items2[j] (f j)) ∧
        R (.ok (.ret (.bool (lexR e f (decide (items.size < items2.size)) (List.range (min items.size items2.size)))))) s) :=
  .of_wp fun prog w A R s h=>by
    obtain ⟨hp,g,d,tk,os⟩:=s; obtain ⟨hl,hb,he,hf,h⟩:=h
    have f2:=AutoSeq1.sub_tuple_tuple
    have hZ:(items.toList.zip items2.toList).length=min items.size items2.size:=by simp
    wp_walk using wpAny_loadPart' hl,wpAny_loadPart' hb,wpAny_forIn_list _ (fun rest b s'=>b.1=none∧s'=⟨hp,g,d,tk,os⟩∧∃ i,rest=(items.toList.zip items2.toList).drop i ∧
      R (.ok (.ret (.bool (lexR e f (decide (items.size < items2.size)) ((List.range (min items.size items2.size)).drop i))))) ⟨hp,g,d,tk,os⟩) _
    case turn =>
      rintro ⟨y,x⟩ rest b s' ⟨hb',rfl,i,hz,hR⟩
      have hlt:i < (items.toList.zip items2.toList).length:=by
        rcases Nat.lt_or_ge i (items.toList.zip items2.toList).length with h' | h'
        · exact h'
        · rw [List.drop_of_length_le h'] at hz; cases hz
      have hm:i < min items.size items2.size:=hZ ▸ hlt
      have h1:i < items.size:=Nat.lt_of_lt_of_le hm (Nat.min_le_left _ _)
      have h2:i < items2.size:=Nat.lt_of_lt_of_le hm (Nat.min_le_right _ _)
      rw [List.drop_eq_getElem_cons hlt] at hz
      injection hz with hyx hrest
      have hy:y=items[i]:=by have:=congrArg Prod.fst hyx; simpa using this
      have hx:x=items2[i]:=by have:=congrArg Prod.snd hyx; simpa using this
      subst hy hx
      have hd:(List.range (min items.size items2.size)).drop i=i :: (List.range (min items.size items2.size)).drop (i+1):=by simp [List.drop_eq_getElem_cons,hm]
      rw [hd] at hR
      refine wpAny_bind (he i h1 h2 prog w _ _ ?_)
      cases hy:e i with
      | true =>
        have hR':R (.ok (.ret (.bool (lexR e f (decide (items.size < items2.size)) ((List.range (min items.size items2.size)).drop (i+1)))))) ⟨hp,g,d,tk,os⟩:=by
          have:lexR e f (decide (items.size < items2.size)) (i :: (List.range (min items.size items2.size)).drop (i+1))=lexR e f (decide (items.size < items2.size)) ((List.range (min items.size items2.size)).drop (i+1)):=by
            show (if e i=true then _ else _)=_
            rw [if_pos hy]
          rw [this] at hR
          exact hR
        wp_walk
        exact ⟨rfl,rfl,i+1,hrest,hR'⟩
      | false =>
        have hR':R (.ok (.ret (.bool (f i)))) ⟨hp,g,d,tk,os⟩:=by
          have:lexR e f (decide (items.size < items2.size)) (i :: (List.range (min items.size items2.size)).drop (i+1))=f i:=by
            show (if e i=true then _ else _)=_
            rw [if_neg (by simp [hy])]
          rw [this] at hR
          exact hR
        simp only [Bool.not_false,if_true]
        refine wpAny_bind (wpAny_rule (wpAny_bind (hf i h1 h2 hy prog w _ _ ?_)))
        wp_walk
        exact ⟨_,rfl,hR'⟩
    case fin =>
      rintro ⟨b1,b2⟩ s' ⟨hb',rfl,i,hz,hR⟩
      simp only at hb'
      subst hb'
      have hge:min items.size items2.size≤i:=by
        rcases Nat.lt_or_ge i (items.toList.zip items2.toList).length with h' | h'
        · rw [List.drop_eq_getElem_cons h'] at hz; cases hz
        · exact hZ ▸ h'
      rw [List.drop_of_length_le (by simpa using hge)] at hR
      wp_walk
      exact ⟨_,rfl,by simpa [Builtin.Tuple.tupleCompareSizes,lexR] using hR⟩
    case h =>
      exact ⟨rfl,rfl,0,rfl,by simpa using h⟩
section
variable {A:Around} {s:Shared}
theorem LtAt.tuples {l b:Addr} {items items2:Array Value} {e f:Nat→Bool} (hl:s.heap.IsTuple l items) (hb:s.heap.IsTuple b items2) (hu:A.units < cLine)
    (he:∀ j (h1:j < items.size) (h2:j < items2.size),EqAt A.in1 s items[j] items2[j] (e j)) (hf:∀ j (h1:j < items.size) (h2:j < items2.size),e j=false→LtAt A.in1 s items[j] items2[j] (f j)) :
    LtAt A s (.ref l) (.ref b) (lexR e f (decide (items.size < items2.size)) (List.range (min items.size items2.size))):=fun prog w E Q h=>by
  obtain ⟨⟨cls,dd,data,sl⟩,ho,hc,n,hd⟩:=id hl
  obtain ⟨⟨cls2,dd2,data2,sl2⟩,ho2,hc2,n2,hd2⟩:=id hb
  simp only at hc hd hc2 hd2
  subst hc hd hc2 hd2
  exact richCompare_meets_room (op:=.Lt) ⟨_,ho,rfl⟩ ⟨_,ho2,rfl⟩ F.slot_tuple_lt F.entry_tuple_lt (F.args_tuple_lt_2 _ _) (tuple_ltAt l b items items2 n n2 dd dd2 sl sl2 e f)
    ⟨ho,ho2,he,hf,show Value.bool (lexR e f (decide (items.size < items2.size)) (List.range (min items.size items2.size)))≠Value.notImplemented∧Q (.bool (lexR e f (decide (items.size < items2.size)) (List.range (min items.size items2.size)))) s from ⟨(fun x=>nomatch x),h⟩⟩ hu
end
end PySem.SeqAt
set_option maxHeartbeats 400000
namespace L2
open PySem PySem.Spec PyProof.Rows
noncomputable def rankD:D→Nat
  | .non=>0 | .bl _=>1 | .int _=>2 | .str _=>3 | .tup _=>4
open Classical in
noncomputable def eqD (a b:D):Bool:=decide (a=b)
theorem str_ext {x y:Str} (e:x.cps.toList=y.cps.toList):x=y:=by
  cases x; cases y
  simp only at e
  congr
  exact Array.toList_inj.mp e
theorem eqD_eq {a b:D} (h:eqD a b=true):a=b:=@of_decide_eq_true _ (Classical.propDecidable _) h
theorem eqD_self (d:D):eqD d d=true:=@decide_eq_true _ (Classical.propDecidable _) rfl
theorem eqD_iff {a b:D}:eqD a b=true↔a=b:=⟨eqD_eq,fun h=>by subst h; exact eqD_self _⟩
theorem eqD_no {a b:D} (h:eqD a b=false):a≠b:=fun e=>by
  rw [eqD_iff.mpr e] at h
  cases h
noncomputable def klt:D→D→Bool
  | .bl a=>fun e=>match e with | .bl b=>!a && b | _=>false
  | .int a=>fun e=>match e with | .int b=>decide (a < b) | _=>false
  | .str x=>fun e=>match e with | .str y=>decide (x.cps.toList < y.cps.toList) | _=>false
  | _=>fun _=>false
noncomputable def dlt0 (a b:D):Bool:=decide (rankD a < rankD b) || klt a b
mutual
noncomputable def dlt:D→D→Bool
  | .tup xs=>fun e=>match e with | .tup ys=>dltL xs ys | _=>false
  | .non=>dlt0 .non
  | .bl b=>dlt0 (.bl b)
  | .int i=>dlt0 (.int i)
  | .str x=>dlt0 (.str x)
noncomputable def dltL:List D→List D→Bool
  | []=>fun ys=>match ys with | []=>false | _ :: _=>true
  | x :: xs=>fun ys=>match ys with | []=>false | y :: ys=>if eqD x y=true then dltL xs ys else dlt x y
end
theorem dlt_int (a b:Int):dlt (.int a) (.int b)=decide (a < b):=rfl
theorem dlt_str (x y:Str):dlt (.str x) (.str y)=decide (x.cps.toList < y.cps.toList):=rfl
theorem dlt_tt (xs ys:List D):dlt (.tup xs) (.tup ys)=dltL xs ys:=rfl
theorem dltL_nc (y:D) (ys:List D):dltL [] (y :: ys)=true:=rfl
theorem dltL_cn (x:D) (xs:List D):dltL (x :: xs) []=false:=rfl
theorem dltL_cc (x y:D) (xs ys:List D):dltL (x :: xs) (y :: ys)=if eqD x y=true then dltL xs ys else dlt x y:=rfl
theorem str_tri {x y:Str} (h1:¬ x.cps.toList < y.cps.toList) (h2:¬ y.cps.toList < x.cps.toList):x=y :=
  str_ext (List.le_antisymm (List.not_lt.mp h2) (List.not_lt.mp h1))
theorem ff {P:Prop} (h:false=true):P:=Bool.noConfusion h
theorem klt_e {P:D→D→Prop} (h1:P (.bl false) (.bl true)) (h2:∀ i j:Int,i < j→P (.int i) (.int j)) (h3:∀ x y:Str,x.cps.toList < y.cps.toList→P (.str x) (.str y)):∀ {a b:D},klt a b=true→P a b:=by
  intro a b h
  cases a with
  | bl p =>
    cases b with
    | bl q=>cases p <;> cases q <;> first | exact h1 | exact ff h
    | non=>exact ff h
    | int _=>exact ff h
    | str _=>exact ff h
    | tup _=>exact ff h
  | int p =>
    cases b with
    | int q=>exact h2 p q (of_decide_eq_true h)
    | non=>exact ff h
    | bl _=>exact ff h
    | str _=>exact ff h
    | tup _=>exact ff h
  | str p =>
    cases b with
    | str q=>exact h3 p q (of_decide_eq_true h)
    | non=>exact ff h
    | bl _=>exact ff h
    | int _=>exact ff h
    | tup _=>exact ff h
  | non=>exact ff h
  | tup _=>exact ff h
theorem klt_rank {a b:D} (h:klt a b=true):rankD a=rankD b∧rankD a < 4:=klt_e (P:=fun a b=>rankD a=rankD b∧rankD a < 4) ⟨rfl,by decide⟩ (fun _ _ _=>⟨rfl,by show 2 < 4; decide⟩) (fun _ _ _=>⟨rfl,by show 3 < 4; decide⟩) h
theorem klt_tr {a b c:D} (h:klt a b=true):klt b c=true→klt a c=true:=klt_e (P:=fun a b=>klt b c=true→klt a c=true) (fun h=>by cases c <;> exact ff h)
  (fun i j hij h=>by
    cases c with
    | int k=>exact decide_eq_true (Int.lt_trans hij (of_decide_eq_true h))
    | _=>exact ff h)
  (fun x y hxy h=>by
    cases c with
    | str z=>exact decide_eq_true (List.lt_trans hxy (of_decide_eq_true h))
    | _=>exact ff h) h
theorem dlt0_e {a b:D} (h:dlt0 a b=true):rankD a < rankD b∨klt a b=true:=(Bool.or_eq_true _ _ ▸ h:_∨_).imp of_decide_eq_true id
theorem dlt0_r {a b:D} (h:rankD a < rankD b):dlt0 a b=true:=by unfold dlt0; rw [decide_eq_true h]; rfl
theorem dlt0_k {a b:D} (h:klt a b=true):dlt0 a b=true:=by unfold dlt0; rw [h,Bool.or_true]
theorem dlt_0:∀ {a:D} (b:D),rankD a < 4→dlt a b=dlt0 a b
  | .non,_,_=>rfl
  | .bl _,_,_=>rfl
  | .int _,_,_=>rfl
  | .str _,_,_=>rfl
  | .tup _,_,h=>absurd h (by show ¬ 4 < 4; decide)
theorem tup_lt {xs:List D} {b:D} (h:dlt (.tup xs) b=true):∃ ys,b=.tup ys∧dltL xs ys=true:=by
  cases b with
  | tup ys=>exact ⟨ys,rfl,h⟩
  | _=>exact ff h
theorem tup_of {a:D} (h:¬ rankD a < 4):∃ xs,a=.tup xs:=by
  cases a with
  | tup xs=>exact ⟨xs,rfl⟩
  | non=>exact absurd (show 0 < 4 by decide) h
  | bl _=>exact absurd (show 1 < 4 by decide) h
  | int _=>exact absurd (show 2 < 4 by decide) h
  | str _=>exact absurd (show 3 < 4 by decide) h
theorem dlt_rank {a b:D} (h:dlt a b=true):rankD a≤rankD b:=by
  by_cases ha:rankD a < 4
  · rw [dlt_0 b ha] at h
    rcases dlt0_e h with h | h
    · omega
    · exact Nat.le_of_eq (klt_rank h).1
  · obtain ⟨xs,rfl⟩:=tup_of ha
    obtain ⟨ys,rfl,_⟩:=tup_lt h
    exact Nat.le_refl _
theorem tr0 {a b c:D} (ha:rankD a < 4) (h1:dlt a b=true) (h2:dlt b c=true):dlt a c=true:=by
  rw [dlt_0 _ ha] at h1 ⊢
  have hr:=dlt_rank h2
  rcases dlt0_e h1 with h | h
  · exact dlt0_r (Nat.lt_of_lt_of_le h hr)
  · have hk:=klt_rank h
    rw [dlt_0 _ (by rw [← hk.1]; exact hk.2)] at h2
    rcases dlt0_e h2 with q | q
    · exact dlt0_r (by rw [hk.1]; exact q)
    · exact dlt0_k (klt_tr h q)
theorem tot0:∀ {a:D} (b:D),rankD a < 4→dlt a b=false→dlt b a=false→a=b:=by
  intro a b ha h1 h2
  rw [dlt_0 _ ha] at h1
  have k1:¬ rankD a < rankD b:=fun z=>by rw [dlt0_r z] at h1; cases h1
  have hb:rankD b < 4:=by omega
  rw [dlt_0 _ hb] at h2
  have k2:¬ rankD b < rankD a:=fun z=>by rw [dlt0_r z] at h2; cases h2
  have q1:klt a b=false:=by
    cases h:klt a b with
    | false=>rfl
    | true=>rw [dlt0_k h] at h1; cases h1
  have q2:klt b a=false:=by
    cases h:klt b a with
    | false=>rfl
    | true=>rw [dlt0_k h] at h2; cases h2
  have e:rankD a=rankD b:=by omega
  clear h1 h2 k1 k2 hb
  cases a with
  | non=>cases b <;> first | rfl | exact absurd e (Nat.ne_of_beq_eq_false rfl)
  | bl p =>
    cases b with
    | bl q=>cases p <;> cases q <;> first | rfl | exact ff q1.symm | exact ff q2.symm
    | _=>exact absurd e (Nat.ne_of_beq_eq_false rfl)
  | int p =>
    cases b with
    | int q=>exact congrArg D.int (Int.le_antisymm (Int.not_lt.mp (of_decide_eq_false q2)) (Int.not_lt.mp (of_decide_eq_false q1)))
    | _=>exact absurd e (Nat.ne_of_beq_eq_false rfl)
  | str p =>
    cases b with
    | str q=>exact congrArg D.str (str_tri (of_decide_eq_false q1) (of_decide_eq_false q2))
    | _=>exact absurd e (Nat.ne_of_beq_eq_false rfl)
  | tup _=>exact absurd ha (by show ¬ 4 < 4; decide)
mutual
theorem dlt_irr:∀ d:D,dlt d d=false
  | .non=>rfl
  | .bl b=>by cases b <;> rfl
  | .int i=>decide_eq_false (Int.lt_irrefl i)
  | .str x=>decide_eq_false (List.lt_irrefl _)
  | .tup xs=>dltL_irr xs
theorem dltL_irr:∀ ds:List D,dltL ds ds=false
  | []=>rfl
  | d :: ds=>by rw [dltL_cc,if_pos (eqD_self d)]; exact dltL_irr ds
end
mutual
theorem dlt_tot:∀ a b:D,dlt a b=false→dlt b a=false→a=b
  | .non,b,h1,h2=>tot0 b (by show 0 < 4; decide) h1 h2
  | .bl x,b,h1,h2=>tot0 b (by show 1 < 4; decide) h1 h2
  | .int x,b,h1,h2=>tot0 b (by show 2 < 4; decide) h1 h2
  | .str x,b,h1,h2=>tot0 b (by show 3 < 4; decide) h1 h2
  | .tup xs,b,h1,h2=>by
    by_cases hb:rankD b < 4
    · exact (tot0 (.tup xs) hb h2 h1).symm
    · obtain ⟨ys,rfl⟩:=tup_of hb
      exact congrArg D.tup (dltL_tot xs ys h1 h2)
theorem dltL_tot:∀ a b:List D,dltL a b=false→dltL b a=false→a=b
  | [],[],_,_=>rfl
  | [],_ :: _,h1,_=>ff h1.symm
  | _ :: _,[],_,h2=>ff h2.symm
  | x :: xs,y :: ys,h1,h2=>by
    rw [dltL_cc] at h1 h2
    cases he:eqD x y with
    | true =>
      have e:=eqD_eq he
      subst e
      rw [if_pos he] at h1 h2
      rw [dltL_tot xs ys h1 h2]
    | false =>
      rw [if_neg (fun z=>eqD_no he (eqD_eq z))] at h1
      rw [if_neg (fun z=>eqD_no he (eqD_eq z).symm)] at h2
      exact absurd (dlt_tot x y h1 h2) (eqD_no he)
end
mutual
theorem dlt_tr:∀ a b c:D,dlt a b=true→dlt b c=true→dlt a c=true
  | .non,b,c,h1,h2=>tr0 (by show 0 < 4; decide) h1 h2
  | .bl x,b,c,h1,h2=>tr0 (by show 1 < 4; decide) h1 h2
  | .int x,b,c,h1,h2=>tr0 (by show 2 < 4; decide) h1 h2
  | .str x,b,c,h1,h2=>tr0 (by show 3 < 4; decide) h1 h2
  | .tup xs,b,c,h1,h2=>by
    obtain ⟨ys,rfl,q1⟩:=tup_lt h1
    obtain ⟨zs,rfl,q2⟩:=tup_lt h2
    exact dltL_tr xs ys zs q1 q2
theorem dltL_tr:∀ a b c:List D,dltL a b=true→dltL b c=true→dltL a c=true
  | [],[],_,h1,_=>ff h1
  | [],_ :: _,[],_,h2=>ff h2
  | [],_ :: _,_ :: _,_,_=>rfl
  | _ :: _,[],_,h1,_=>ff h1
  | _ :: _,_ :: _,[],_,h2=>ff h2
  | x :: xs,y :: ys,z :: zs,h1,h2=>by
    rw [dltL_cc] at h1 h2 ⊢
    cases hxy:eqD x y with
    | true =>
      have e:=eqD_eq hxy
      subst e
      rw [if_pos hxy] at h1
      cases hxz:eqD x z with
      | true =>
        rw [if_pos hxz] at h2
        rw [if_pos rfl]
        exact dltL_tr xs ys zs h1 h2
      | false =>
        rw [if_neg (fun z=>eqD_no hxz (eqD_eq z))] at h2
        rw [if_neg Bool.false_ne_true]
        exact h2
    | false =>
      rw [if_neg (fun z=>eqD_no hxy (eqD_eq z))] at h1
      cases hyz:eqD y z with
      | true =>
        have e:=eqD_eq hyz
        subst e
        rw [if_neg (fun z=>eqD_no hxy (eqD_eq z))]
        exact h1
      | false =>
        rw [if_neg (fun z=>eqD_no hyz (eqD_eq z))] at h2
        have g:=dlt_tr x y z h1 h2
        rw [if_neg]
        · exact g
        · intro z'
          have e:=eqD_eq z'
          subst e
          rw [dlt_irr] at g
          cases g
end
noncomputable def ordD:KeyOrd where
  α:=D
  blt:=dlt
  irrefl:=dlt_irr
  trans:=dlt_tr
  negTrans:=fun a b c h=>by
    cases h1:dlt a b with
    | true=>exact .inl rfl
    | false =>
      cases h2:dlt b a with
      | true=>exact .inr (dlt_tr b a c h2 h)
      | false =>
        have e:=dlt_tot a b h1 h2
        subst e
        exact .inr h
  total:=dlt_tot
end L2
set_option maxHeartbeats 200000
namespace L2
open PySem PySem.Spec PyProof.Rows
noncomputable def UpD (ds:List D):Prop:=ds.Pairwise fun a b=>dlt b a=false
mutual
noncomputable def Sim:D→D→Prop
  | .int _=>fun e=>match e with | .int _=>True | _=>False
  | .str _=>fun e=>match e with | .str _=>True | _=>False
  | .tup xs=>fun e=>match e with | .tup ys=>SimL xs ys | _=>False
  | _=>fun _=>False
noncomputable def SimL:List D→List D→Prop
  | []=>fun _=>True
  | x :: xs=>fun ys=>match ys with | []=>True | y :: ys=>Sim x y∧SimL xs ys
end
theorem Sim_t {xs ys:List D} (h:SimL xs ys):Sim (.tup xs) (.tup ys):=h
theorem Sim_t' {xs ys:List D} (h:Sim (.tup xs) (.tup ys)):SimL xs ys:=h
theorem SimL_c {x y:D} {xs ys:List D} (h:Sim x y) (k:SimL xs ys):SimL (x :: xs) (y :: ys):=⟨h,k⟩
theorem SimL_c' {x y:D} {xs ys:List D} (h:SimL (x :: xs) (y :: ys)):Sim x y∧SimL xs ys:=h
theorem SimL_n (ys:List D):SimL [] ys:=trivial
theorem SimL_m (xs:List D):SimL xs []:=by cases xs <;> exact trivial
theorem SimL.at_:∀ {xs ys:List D} {i:Nat} {x y:D},SimL xs ys→xs[i]?=some x→ys[i]?=some y→Sim x y
  | [],_,i,x,y,_,hx,_=>by simp at hx
  | _ :: _,[],i,x,y,_,_,hy=>by simp at hy
  | a :: xs,b :: ys,0,x,y,h,hx,hy=>by
    simp at hx hy
    subst hx; subst hy
    exact (SimL_c' h).1
  | a :: xs,b :: ys,i+1,x,y,h,hx,hy=>by
    exact SimL.at_ (i:=i) (SimL_c' h).2 (by simpa using hx) (by simpa using hy)
mutual
theorem Den.det {H:Hp}:∀ {d e:D} {v:V},Den H v d→Den H v e→d=e
  | .non,e,v,h1,h2=>by
    have:v=.non:=h1
    subst this
    cases e with
    | non=>rfl
    | tup ds=>obtain ⟨p,vs,z,_⟩:=den_tup h2; cases z
    | bl b=>exact absurd (show V.non=.bl b from h2) (fun z=>nomatch z)
    | int b=>exact absurd (show V.non=.int b from h2) (fun z=>nomatch z)
    | str b=>exact absurd (show V.non=.str b from h2) (fun z=>nomatch z)
  | .bl b,e,v,h1,h2=>by
    have:v=.bl b:=h1
    subst this
    cases e with
    | bl c=>have z:V.bl b=.bl c:=h2; cases z; rfl
    | tup ds=>obtain ⟨p,vs,z,_⟩:=den_tup h2; cases z
    | non=>exact absurd (show V.bl b=.non from h2) (fun z=>nomatch z)
    | int c=>exact absurd (show V.bl b=.int c from h2) (fun z=>nomatch z)
    | str c=>exact absurd (show V.bl b=.str c from h2) (fun z=>nomatch z)
  | .int b,e,v,h1,h2=>by
    have:v=.int b:=h1
    subst this
    cases e with
    | int c=>have z:V.int b=.int c:=h2; cases z; rfl
    | tup ds=>obtain ⟨p,vs,z,_⟩:=den_tup h2; cases z
    | non=>exact absurd (show V.int b=.non from h2) (fun z=>nomatch z)
    | bl c=>exact absurd (show V.int b=.bl c from h2) (fun z=>nomatch z)
    | str c=>exact absurd (show V.int b=.str c from h2) (fun z=>nomatch z)
  | .str b,e,v,h1,h2=>by
    have:v=.str b:=h1
    subst this
    cases e with
    | str c=>have z:V.str b=.str c:=h2; cases z; rfl
    | tup ds=>obtain ⟨p,vs,z,_⟩:=den_tup h2; cases z
    | non=>exact absurd (show V.str b=.non from h2) (fun z=>nomatch z)
    | bl c=>exact absurd (show V.str b=.bl c from h2) (fun z=>nomatch z)
    | int c=>exact absurd (show V.str b=.int c from h2) (fun z=>nomatch z)
  | .tup ds,e,v,h1,h2=>by
    obtain ⟨p,vs,rfl,hp,hd⟩:=den_tup h1
    cases e with
    | tup es =>
      obtain ⟨q,us,z,hq,he⟩:=den_tup h2
      cases z
      rw [hp] at hq
      cases hq
      rw [DenL.det hd he]
    | non=>exact absurd (show V.ref p=.non from h2) (fun z=>nomatch z)
    | bl c=>exact absurd (show V.ref p=.bl c from h2) (fun z=>nomatch z)
    | int c=>exact absurd (show V.ref p=.int c from h2) (fun z=>nomatch z)
    | str c=>exact absurd (show V.ref p=.str c from h2) (fun z=>nomatch z)
theorem DenL.det {H:Hp}:∀ {ds es:List D} {vs:List V},DenL H vs ds→DenL H vs es→ds=es
  | [],[],_,_,_=>rfl
  | [],_ :: _,[],_,h=>h.elim
  | [],_ :: _,_ :: _,h,_=>h.elim
  | _ :: _,[],[],h,_=>h.elim
  | _ :: _,[],_ :: _,_,h=>h.elim
  | _ :: _,_ :: _,[],h,_=>h.elim
  | d :: ds,e :: es,v :: vs,h1,h2=>by rw [Den.det h1.1 h2.1,DenL.det h1.2 h2.2]
end
open SeqAt (lexR)
theorem lexR_map (e f:Nat→Bool) (fin:Bool):∀ r:List Nat,lexR e f fin (r.map Nat.succ)=lexR (fun i=>e (i+1)) (fun i=>f (i+1)) fin r
  | []=>rfl
  | i :: r=>by
    show (if e (i+1)=true then lexR e f fin (r.map Nat.succ) else f (i+1))=_
    rw [lexR_map e f fin r]
    rfl
theorem lexR_dlt:∀ xs ys:List D,lexR (fun j=>eqD (xs.getD j .non) (ys.getD j .non)) (fun j=>dlt (xs.getD j .non) (ys.getD j .non)) (decide (xs.length < ys.length)) (List.range (min xs.length ys.length))=dltL xs ys
  | [],[]=>rfl
  | [],y :: ys=>by rw [dltL_nc]; simp [lexR]
  | x :: xs,[]=>by rw [dltL_cn]; simp [lexR]
  | x :: xs,y :: ys=>by
    have ih:=lexR_dlt xs ys
    rw [dltL_cc,show min (x :: xs).length (y :: ys).length=min xs.length ys.length+1 by simp only [List.length_cons]; omega,List.range_succ_eq_map]
    show (if eqD x y=true then lexR _ _ _ ((List.range (min xs.length ys.length)).map Nat.succ) else dlt x y)=_
    rw [lexR_map]
    have ed:decide ((x :: xs).length < (y :: ys).length)=decide (xs.length < ys.length):=by simp
    rw [ed]
    cases he:eqD x y with
    | true =>
      rw [if_pos rfl,if_pos rfl]
      simpa using ih
    | false =>
      rw [if_neg (by simp),if_neg (by simp)]
theorem allR_eq:∀ xs ys:List D,((List.range (min xs.length ys.length)).all (fun j=>eqD (xs.getD j .non) (ys.getD j .non)) && xs.length == ys.length)=eqD (.tup xs) (.tup ys):=by
  intro xs ys
  rw [Bool.eq_iff_iff,eqD_iff]
  constructor
  · intro h
    simp only [Bool.and_eq_true,List.all_eq_true,List.mem_range,beq_iff_eq] at h
    obtain ⟨h1,h2⟩:=h
    congr 1
    apply List.ext_getElem h2
    intro i a b
    have:=eqD_iff.mp (h1 i (by omega))
    simpa [List.getD_eq_getElem?_getD,a,b] using this
  · intro h
    injection h with h
    subst h
    simp [eqD_iff]
end L2
namespace L2
open PySem PySem.Spec PyProof.Rows
section
variable {X:Cx} {pins:List (Addr × Obj)} {σ:St} {H:Hp} {s:Shared}
theorem tup_keep {h h':Heap} {a:Addr} {its:Array Value} (k:SO.Keeps h h') (t:h.IsTuple a its):h'.IsTuple a its:=by
  obtain ⟨o,e,r⟩:=t
  exact ⟨o,k _ _ e,r⟩
theorem eq_intD {s':Shared} {i j:Int} {A:Around} {x y:V} {v u:Value} (hx:Den H x (.int i)) (hy:Den H y (.int j)) (rx:RelV x v) (ry:RelV y u):SeqAt.EqAt A s' v u (eqD (.int i) (.int j)):=by
  have e1:x=.int i:=hx
  have e2:y=.int j:=hy
  subst e1
  subst e2
  obtain ⟨t,rfl⟩:=rx
  obtain ⟨t',rfl⟩:=ry
  have key:=SeqAt.EqAt.int_int (A:=A) (s:=s') i t j t'
  have e:(i == j)=eqD (.int i) (.int j):=by
    rw [Bool.eq_iff_iff,eqD_iff,beq_iff_eq]
    exact ⟨fun z=>by rw [z],fun z=>by injection z⟩
  rw [← e]
  exact key
theorem eq_strD {s':Shared} {i j:Str} {A:Around} {x y:V} {v u:Value} (hx:Den H x (.str i)) (hy:Den H y (.str j)) (rx:RelV x v) (ry:RelV y u):SeqAt.EqAt A s' v u (eqD (.str i) (.str j)):=by
  have e1:x=.str i:=hx
  have e2:y=.str j:=hy
  subst e1
  subst e2
  obtain ⟨t,rfl⟩:=rx
  obtain ⟨t',rfl⟩:=ry
  have key:=SeqAt.EqAt.str_str (A:=A) (s:=s') i t j t'
  have e:(i == j)=eqD (.str i) (.str j):=by
    rw [Bool.eq_iff_iff,eqD_iff,beq_iff_eq]
    exact ⟨fun z=>by rw [z],fun z=>by injection z⟩
  rw [← e]
  exact key
theorem lt_intD {s':Shared} {i j:Int} {A:Around} {x y:V} {v u:Value} (hx:Den H x (.int i)) (hy:Den H y (.int j)) (rx:RelV x v) (ry:RelV y u):SeqAt.LtAt A s' v u (dlt (.int i) (.int j)):=by
  have e1:x=.int i:=hx
  have e2:y=.int j:=hy
  subst e1
  subst e2
  obtain ⟨t,rfl⟩:=rx
  obtain ⟨t',rfl⟩:=ry
  intro prog w E Q h
  rw [dlt_int] at h
  exact PyProof.Rows.lt_int h
theorem lt_strD {s':Shared} {i j:Str} {A:Around} {x y:V} {v u:Value} (hx:Den H x (.str i)) (hy:Den H y (.str j)) (rx:RelV x v) (ry:RelV y u):SeqAt.LtAt A s' v u (dlt (.str i) (.str j)):=by
  have e1:x=.str i:=hx
  have e2:y=.str j:=hy
  subst e1
  subst e2
  obtain ⟨t,rfl⟩:=rx
  obtain ⟨t',rfl⟩:=ry
  intro prog w E Q h
  rw [dlt_str] at h
  exact PyProof.Rows.lt_str h
noncomputable def CmpD (H:Hp) (s':Shared) (n:Nat):Prop :=
  ∀ (d e:D) (A:Around) (x y:V) (v u:Value),Shal n d→Shal n e→Sim d e→Den H x d→Den H y e→RelV x v→RelV y u→A.units+n < cLine→SeqAt.EqAt A s' v u (eqD d e)∧SeqAt.LtAt A s' v u (dlt d e)
theorem cmpD_tup (I:Inv X pins σ H s) {s':Shared} (kp:SO.Keeps s.heap s'.heap) {n:Nat} (ih:CmpD H s' n) {ds es:List D} {A:Around} {x y:V} {v u:Value} (hs:Shal (n+1) (.tup ds)) (hs2:Shal (n+1) (.tup es))
    (hm:Sim (.tup ds) (.tup es)) (hx:Den H x (.tup ds)) (hy:Den H y (.tup es)) (rx:RelV x v) (ry:RelV y u) (hu:A.units+(n+1) < cLine):SeqAt.EqAt A s' v u (eqD (.tup ds) (.tup es))∧SeqAt.LtAt A s' v u (dlt (.tup ds) (.tup es)):=by
  obtain ⟨a,vs,rfl,ha,hda⟩:=den_tup hx
  obtain ⟨b,us,rfl,hb,hdb⟩:=den_tup hy
  cases rx
  cases ry
  obtain ⟨its,r1,p1,_⟩:=I.tuple (SqT.of (K:=X.K) ha)
  obtain ⟨its2,r2,p2,_⟩:=I.tuple (SqT.of (K:=X.K) hb)
  have l1:=hda.len
  have l2:=hdb.len
  have m1:=r1.length
  have m2:=r2.length
  replace hm:=Sim_t' hm
  have both:∀ j (h1:j < its.toArray.size) (h2:j < its2.toArray.size),SeqAt.EqAt A.in1 s' its.toArray[j] its2.toArray[j] (eqD (ds.getD j .non) (es.getD j .non))∧SeqAt.LtAt A.in1 s' its.toArray[j] its2.toArray[j] (dlt (ds.getD j .non) (es.getD j .non)):=by
    intro j h1 h2
    have hj1:j < vs.length:=by simpa [m1] using h1
    have hj2:j < us.length:=by simpa [m2] using h2
    obtain ⟨d1,g1,b1⟩:=hda.at_ (List.getElem?_eq_getElem hj1)
    obtain ⟨d2,g2,b2⟩:=hdb.at_ (List.getElem?_eq_getElem hj2)
    obtain ⟨w1,hw1,rw1⟩:=r1.get (List.getElem?_eq_getElem hj1)
    obtain ⟨w2,hw2,rw2⟩:=r2.get (List.getElem?_eq_getElem hj2)
    have q1:its.toArray[j]=w1:=by
      have:=(List.getElem?_eq_some_iff.mp hw1).2
      simpa using this
    have q2:its2.toArray[j]=w2:=by
      have:=(List.getElem?_eq_some_iff.mp hw2).2
      simpa using this
    rw [q1,q2]
    rw [List.getD_eq_getElem?_getD,List.getD_eq_getElem?_getD,g1,g2]
    have s1:=(hs.2 ds rfl).2 d1 (List.mem_of_getElem? g1)
    have s2:=(hs2.2 es rfl).2 d2 (List.mem_of_getElem? g2)
    exact ih d1 d2 A.in1 _ _ _ _ s1 s2 (hm.at_ g1 g2) b1 b2 rw1 rw2 (by first | (simp only [Around.in1]; omega) | omega)
  constructor
  · by_cases hab:a=b
    · subst hab
      have e:=Den.det hx hy
      rw [eqD_iff.mpr e]
      exact SeqAt.EqAt.same _
    · have key:=SeqAt.EqAt.of_refs hab (SeqAt.RcAt.tuples (A:=A) (s:=s') (e:=fun j=>eqD (ds.getD j .non) (es.getD j .non)) (tup_keep kp p1) (tup_keep kp p2) (by omega) fun j h1 h2=>(both j h1 h2).1)
      have q:=allR_eq ds es
      rw [show ds.length=its.toArray.size by simp; omega,show es.length=its2.toArray.size by simp; omega] at q
      rw [q] at key
      exact key
  · have key:=SeqAt.LtAt.tuples (A:=A) (s:=s') (e:=fun j=>eqD (ds.getD j .non) (es.getD j .non)) (f:=fun j=>dlt (ds.getD j .non) (es.getD j .non)) (tup_keep kp p1) (tup_keep kp p2) (by omega)
      (fun j h1 h2=>(both j h1 h2).1) (fun j h1 h2 _=>(both j h1 h2).2)
    have q:=lexR_dlt ds es
    rw [show ds.length=its.toArray.size by simp; omega,show es.length=its2.toArray.size by simp; omega] at q
    rw [q] at key
    rw [dlt_tt]
    exact key
theorem sim_cases {P:D→D→Prop} (hi:∀ i j,P (.int i) (.int j)) (hs:∀ i j,P (.str i) (.str j)) (ht:∀ xs ys,SimL xs ys→P (.tup xs) (.tup ys)):∀ {d e:D},Sim d e→P d e:=by
  intro d e h
  cases d <;> cases e <;> first | exact hi _ _ | exact hs _ _ | exact ht _ _ (Sim_t' h) | exact False.elim h
theorem cmpD (I:Inv X pins σ H s) {s':Shared} (kp:SO.Keeps s.heap s'.heap):∀ n:Nat,CmpD H s' n:=by
  intro n
  induction n with
  | zero =>
    intro d e A x y v u hs hs2 hm
    revert hs hs2
    refine sim_cases (P:=fun d e=>Shal 0 d→Shal 0 e→Den H x d→Den H y e→RelV x v→RelV y u→A.units+0 < cLine→SeqAt.EqAt A s' v u (eqD d e)∧SeqAt.LtAt A s' v u (dlt d e)) ?_ ?_ ?_ hm
    · exact fun i j _ _ hx hy rx ry _=>⟨eq_intD hx hy rx ry,lt_intD hx hy rx ry⟩
    · exact fun i j _ _ hx hy rx ry _=>⟨eq_strD hx hy rx ry,lt_strD hx hy rx ry⟩
    · exact fun xs ys _ hs _ _ _ _ _ _=>absurd rfl (hs.2 xs)
  | succ n ih =>
    intro d e A x y v u hs hs2 hm
    revert hs hs2
    refine sim_cases (P:=fun d e=>Shal (n+1) d→Shal (n+1) e→Den H x d→Den H y e→RelV x v→RelV y u→A.units+(n+1) < cLine→SeqAt.EqAt A s' v u (eqD d e)∧SeqAt.LtAt A s' v u (dlt d e)) ?_ ?_ ?_ hm
    · exact fun i j _ _ hx hy rx ry _=>⟨eq_intD hx hy rx ry,lt_intD hx hy rx ry⟩
    · exact fun i j _ _ hx hy rx ry _=>⟨eq_strD hx hy rx ry,lt_strD hx hy rx ry⟩
    · exact fun xs ys hm hs hs2 hx hy rx ry hu=>cmpD_tup I kp ih hs hs2 (Sim_t hm) hx hy rx ry hu
end
end L2
set_option maxHeartbeats 400000
namespace SO
open PySem PySem.W PyProof.Rows
section
variable {prog:Program} {w:World} {A:Around} {E:Value→Shared→Prop} {s:Shared}
theorem collect_seq {l:Addr} {c:String} {vs:List Value} {o:Obj} {n:Nat} {Q:List Value→Shared→Prop} (ho:s.heap.get? l=some o) (hc:o.cls=.type c) (hcc:c = "list"∨c = "tuple") (hd:o.data=.seq vs.toArray n)
    (h:Q vs { s with heap:=(s.heap.push (seqObj "list" #[] 0)).update s.heap.objs.size (Obj.mapSeq (· ++ vs.toArray)) }) (hsz:vs.length≤sizeLine) :
    wpAny (model prog w) A (collect (.ref l)) Q E s:=by
  unfold collect
  refine wpAny_bind (wpAny_runValue (codeAny_builtin entry_proto_collect' ?_))
  show wpAny _ _ (do again (.builtin "list.__iadd__" ⟨[← newList [],.ref l],[]⟩)) _ _ s
  refine wpAny_bind (wpAny_newList (wpAny_pure ⟨Code.quiet_builtin _ (by decide +kernel),codeAny_builtin entry_list_iadd' ?_⟩))
  show wpAny _ _ (Builtin.List.listExtendWith (.ref s.heap.objs.size) (.ref l) (.ref s.heap.objs.size)) _ _ { s with heap:=s.heap.push (seqObj "list" #[] 0) }
  unfold Builtin.List.listExtendWith
  have ho':(s.heap.push (seqObj "list" #[] 0)).get? l=some o:=Heap.get?_push_of_some _ ho
  refine wpAny_bind (wpAny_typeOf (T:=c) ⟨o,ho',hc⟩ ?_)
  rw [if_pos (by rcases hcc with rfl | rfl <;> simp)]
  refine wpAny_bind (listItems_at ho' hd ?_)
  refine wpAny_bind (listItems_at (xs:=#[]) (n:=0) (Heap.get?_push_size _ rfl) rfl ?_)
  rw [if_neg (by simp)]
  refine wpAny_bind (listUpdate_at (xs:=#[]) (n:=0) (Heap.get?_push_size _ rfl) rfl ?_ (Nat.zero_le _) (by show (#[]++vs.toArray).size≤sizeLine+1; simp only [Array.size_append,List.size_toArray,List.length_nil]; omega))
  refine wpAny_pure ?_
  show wpAny (model prog w) A (do
      let o ← load s.heap.objs.size
      match o.data with
      | .seq xs _=>pure xs.toList
      | _=>unsupported "internal:collect") Q E { s with heap:=(s.heap.push (seqObj "list" #[] 0)).update s.heap.objs.size (Obj.mapSeq (· ++ vs.toArray)) }
  refine wpAny_bind (wpAny_load (get?_update_seq (Heap.get?_push_size _ rfl) _) ?_)
  show wpAny _ _ (pure ((#[]:Array Value)++vs.toArray).toList) Q E _
  rw [show ((#[]:Array Value)++vs.toArray).toList=vs by simp]
  exact wpAny_pure h
theorem katlex {b fin:Bool} {Q:Bool→Shared→Prop} {e f:Nat→Bool}:∀ (l:List (Value × Value)) (i:Nat),(∀ j p q,l[j]?=some (p,q)→SeqAt.EqAt A s p q (e (i+j))) →
    (∀ j p q,l[j]?=some (p,q)→e (i+j)=false→∀ (Q:Bool→Shared→Prop) (E:Value→Shared→Prop),Q (f (i+j)) s→wpAny (model prog w) A (oneLt' (b && (i+j) == 0) p q) Q E s) →
    Q (SeqAt.lexR e f fin (List.range' i l.length)) s→KatLex prog w A b fin Q l i s
  | [],i,_,_,h=>kat_nil h
  | (p,q) :: l,i,he,hf,h=>by
    refine kat_cons ((he 0 p q rfl) prog w _ _ ?_)
    rw [Nat.add_zero]
    have h':Q (if e i=true then SeqAt.lexR e f fin (List.range' (i+1) l.length) else f i) s:=h
    cases hy:e i with
    | true =>
      rw [hy,if_pos rfl] at h'
      exact kat_yes (katlex l (i+1) (fun j p q z=>by rw [show i+1+j=i+(j+1) by omega]; exact he (j+1) p q (by simpa using z)) (fun j p q z=>by rw [show i+1+j=i+(j+1) by omega]; exact hf (j+1) p q (by simpa using z)) h')
    | false =>
      rw [hy,if_neg (by simp)] at h'
      exact kat_no (by have:=hf 0 p q rfl (by simpa using hy) Q (fun _ _=>False) (by simpa using h'); simpa using this)
end
end SO
namespace L2
open PySem PySem.Spec PyProof.Rows
open SeqAt (lexR)
noncomputable def Hom (ds:List D):Prop:=(∀ a∈ds,∀ b∈ds,Sim a b)∧((∀ d∈ds,∃ i,d=.int i)∨(∀ d∈ds,∃ x,d=.str x)∨(∀ d∈ds,∃ e r,d=.tup (e :: r)))
noncomputable def rSortD (K:PySem.W.Frag):List V→Hp→VK→Prop:=fun xs H Q=>∃ (p:Addr) (vs:List V) (ds:List D),xs=[.ref p]∧(SqL K H p vs∨SqT K H p vs)∧DenL H vs ds∧Hom ds∧ds.length < 64∧(∀ d∈ds,Shal 50 d) ∧
  ∀ (l:Addr) (us:List V) (ds':List D),H l=none→ds'.Perm ds→UpD ds'→DenL H us ds'→Q (.ref l) (upd H l (.lst us))
theorem denL_map {H:Hp} {vs:List V} {ds:List D} (h:DenL H vs ds):∀ l:List Nat,(∀ i∈l,i < ds.length)→DenL H (l.map fun i=>vs.getD i .non) (l.map fun i=>ds.getD i .non)
  | [],_=>trivial
  | i :: l,hl=>by
    refine ⟨?_,denL_map h l fun j hj=>hl j (.tail _ hj)⟩
    have hi:i < vs.length:=by rw [h.len]; exact hl i (.head _)
    obtain ⟨d,hd,r⟩:=h.at_ (List.getElem?_eq_getElem hi)
    dsimp only
    rw [List.getD_eq_getElem?_getD,List.getD_eq_getElem?_getD,hd,List.getElem?_eq_getElem hi]
    exact r
theorem vals_map {vs:List V} {its:List Value} (h:Vals vs its):∀ l:List Nat,(∀ i∈l,i < vs.length)→Vals (l.map fun i=>vs.getD i .non) (l.map fun i=>its.getD i Value.none)
  | [],_=>.nil
  | i :: l,hl=>by
    refine .cons ?_ (vals_map h l fun j hj=>hl j (.tail _ hj))
    have hi:i < vs.length:=hl i (.head _)
    obtain ⟨d,hd,r⟩:=h.get (List.getElem?_eq_getElem hi)
    dsimp only
    rw [List.getD_eq_getElem?_getD,List.getD_eq_getElem?_getD,hd,List.getElem?_eq_getElem hi]
    exact r
section
variable {X:Cx} {pins:List (Addr × Obj)} {σ:St} {H:Hp} {s:Shared}
theorem at3 {vs:List V} {ds:List D} {its:List Value} (hd:DenL H vs ds) (r:Vals vs its) {i:Nat} (hi:i < ds.length):∃ (x:V) (v:Value),vs[i]?=some x∧its[i]?=some v∧its.getD i Value.none=v∧Den H x (ds.getD i .non)∧RelV x v∧ds.getD i .non∈ds:=by
  have hv:i < vs.length:=by rw [hd.len]; exact hi
  obtain ⟨d,g,b⟩:=hd.at_ (List.getElem?_eq_getElem hv)
  obtain ⟨u,hu,ru⟩:=r.get (List.getElem?_eq_getElem hv)
  have e:ds.getD i .non=d:=by rw [List.getD_eq_getElem?_getD,g]; rfl
  rw [e]
  exact ⟨_,u,List.getElem?_eq_getElem hv,hu,by rw [List.getD_eq_getElem?_getD,hu]; rfl,b,ru,List.mem_of_getElem? g⟩
theorem one_false {s':Shared} {prog:Program} {w:World} {A:Around} {v u:Value} {b:Bool} (h:SeqAt.LtAt A s' v u b) (Q:Bool→Shared→Prop) (E:Value→Shared→Prop) (q:Q b s'):wpAny (model prog w) A (oneLt' false v u) Q E s' :=
  PySem.W.kat_one v u (h prog w E _ q)
theorem one_true {s':Shared} {prog:Program} {w:World} {A:Around} {x y:V} {d e:D} {v u:Value} (hm:Sim d e) (hd:Den H x d) (he:Den H y e) (rx:RelV x v) (ry:RelV y u) (nt:∀ ds,d≠.tup ds) (Q:Bool→Shared→Prop) (E:Value→Shared→Prop) (q:Q (dlt d e) s') :
    wpAny (model prog w) A (oneLt' true v u) Q E s':=by
  revert hd he nt q
  refine sim_cases (P:=fun d e=>Den H x d→Den H y e→(∀ ds,d≠.tup ds)→Q (dlt d e) s'→wpAny (model prog w) A (oneLt' true v u) Q E s') ?_ ?_ ?_ hm
  · intro i j hx hy _ q
    have e1:x=.int i:=hx
    have e2:y=.int j:=hy
    subst e1
    subst e2
    obtain ⟨t,rfl⟩:=rx
    obtain ⟨t',rfl⟩:=ry
    rw [dlt_int] at q
    exact oneLt_int q
  · intro i j hx hy _ q
    have e1:x=.str i:=hx
    have e2:y=.str j:=hy
    subst e1
    subst e2
    obtain ⟨t,rfl⟩:=rx
    obtain ⟨t',rfl⟩:=ry
    rw [dlt_str] at q
    exact oneLt_str q
  · intro xs ys _ _ _ nt _
    exact absurd rfl (nt xs)
theorem looks_of {M:Model} {x:V} {v:Value} {d:D} (I:Inv X pins σ H s) {h':Heap} (kp:SO.Keeps s.heap h') (hd:Den H x d) (rx:RelV x v):(∀ i,d=.int i→PySem.W.Looks M h' (typeOf v) (.type "int"))∧(∀ i,d=.str i→PySem.W.Looks M h' (typeOf v) (.type "str")) ∧
    (∀ ds,d=.tup ds→PySem.W.Looks M h' (typeOf v) (.type "tuple")):=by
  refine ⟨fun i e=>?_,fun i e=>?_,fun ds e=>?_⟩
  · subst e
    have e1:x=.int i:=hd
    subst e1
    obtain ⟨t,rfl⟩:=rx
    exact PySem.W.Looks.of_pure rfl
  · subst e
    have e1:x=.str i:=hd
    subst e1
    obtain ⟨t,rfl⟩:=rx
    exact PySem.W.Looks.of_pure rfl
  · subst e
    obtain ⟨a,vs,rfl,ha,hda⟩:=den_tup hd
    cases rx
    obtain ⟨its,r1,⟨o,eo,ec,_⟩,_⟩:=I.tuple (SqT.of (K:=X.K) ha)
    rw [← ec]
    exact (PySem.W.Looks.ld (kp _ _ eo)).andThen .now
noncomputable def tyD:D→Value
  | .int _=>.type "int"
  | .str _=>.type "str"
  | _=>.type "tuple"
theorem tyD_sim {d e:D} (h:Sim d e):tyD d=tyD e:=sim_cases (P:=fun d e=>tyD d=tyD e) (fun _ _=>rfl) (fun _ _=>rfl) (fun _ _ _=>rfl) h
theorem tyD_self (d:D):(tyD d == tyD d)=true:=by cases d <;> rfl
theorem tyD_tup {d e:D} (hm:Sim d e) (h:(tyD d != .type "tuple")=true):∀ ds,d≠.tup ds:=by
  intro ds z
  subst z
  exact absurd (show (Value.type "tuple" != Value.type "tuple")=true from h) (by decide)
theorem looks_ty {M:Model} {x:V} {v:Value} {d e:D} (I:Inv X pins σ H s) {h':Heap} (kp:SO.Keeps s.heap h') (hm:Sim d e) (hd:Den H x d) (rx:RelV x v):PySem.W.Looks M h' (typeOf v) (tyD d):=by
  obtain ⟨a,b,c⟩:=looks_of (M:=M) I kp hd rx
  revert a b c
  exact sim_cases (P:=fun d e=>(∀ i,d=.int i→PySem.W.Looks M h' (typeOf v) (.type "int"))→(∀ i,d=.str i→PySem.W.Looks M h' (typeOf v) (.type "str"))→(∀ ds,d=.tup ds→PySem.W.Looks M h' (typeOf v) (.type "tuple"))→PySem.W.Looks M h' (typeOf v) (tyD d))
    (fun i _ a _ _=>a i rfl) (fun i _ _ b _=>b i rfl) (fun xs _ _ _ _ c=>c xs rfl) hm
theorem kat_tups (I:Inv X pins σ H s) {h':Heap} (kp:SO.Keeps s.heap h'):∀ {vs:List V} {ds:List D} {its:List Value},DenL H vs ds→Vals vs its→(∀ d∈ds,∃ e r,d=.tup (e :: r)) →
    ∃ fs,PySem.W.KatTups h' its fs∧fs.length=its.length∧∀ v∈fs,∃ (x:V) (d:D) (r:List D),Den H x d∧RelV x v∧D.tup (d :: r)∈ds
  | [],[],_,_,.nil,_=>⟨[],trivial,rfl,fun v hv=>by cases hv⟩
  | x :: vs,d :: ds,_,hd,.cons r rr,ht=>by
    obtain ⟨fs,k,l,m⟩:=kat_tups I kp hd.2 rr fun d hd=>ht d (.tail _ hd)
    obtain ⟨e,r0,rfl⟩:=ht d (.head _)
    obtain ⟨a,ws,rfl,ha,hda⟩:=den_tup hd.1
    cases r
    obtain ⟨its1,r1,⟨o,eo,ec,n,ed⟩,_⟩:=I.tuple (SqT.of (K:=X.K) ha)
    match ws,its1,hda,r1,ed with
    | w0 :: ws,_ :: its1,hda,.cons q0 q,ed =>
      refine ⟨_ :: fs,PySem.W.KatTups.cons (kp _ _ eo) ec ed (by simp; rfl) k,by simp [l],fun v hv=>?_⟩
      rcases List.mem_cons.mp hv with rfl | hv
      · exact ⟨w0,e,r0,hda.1,q0,.head _⟩
      · obtain ⟨x,d,r,z1,z2,z3⟩:=m v hv
        exact ⟨x,d,r,z1,z2,.tail _ z3⟩
    | [],_,hda,_,_=>exact hda.elim
theorem sortD_with {E:Value→Shared→Prop} (I:Inv X pins σ H s) {a:Addr} {c:String} {o:Obj} {n:Nat} {vs:List V} {ds:List D} {its:List Value} {Q:VK} (κ:SortKind) (ho:s.heap.get? a=some o) (hc:o.cls=.type c) (hcc:c = "list"∨c = "tuple") (hd:o.data=.seq its.toArray n)
    (hD:DenL H vs ds) (r:Vals vs its) (h64:ds.length < 64)
    (hk:2≤its.length→∀ h',SO.Keeps s.heap h'→∀ (E:Value→Shared→Prop) (Q:SortKind→Shared→Prop),Q κ { s with heap:=h' }→wpAny (model X.prog X.w) X.A.in1.in1 (keyKind' its.toArray) Q E { s with heap:=h' })
    (hcm:∀ h',SO.Keeps s.heap h'→SO.Cmp (O:=ordD) (fun i=>ds.getD i .non) its.length (PySem.W.kas_ask X.prog X.w X.A.in1.in1 κ its) { s with heap:=h' })
    (q:∀ (l:Addr) (us:List V) (ds':List D),H l=none→ds'.Perm ds→UpD ds'→DenL H us ds'→Q (.ref l) (upd H l (.lst us))):wpAny (model X.prog X.w) X.A (call (.builtin "sorted") [.ref a]) (EP X pins σ Q) E s:=by
  have l1:=hD.len
  have l2:=r.length
  have kg:SO.Keeps s.heap ((s.heap.push (seqObj "list" #[] 0)).update s.heap.objs.size (Obj.mapSeq (· ++ its.toArray))):=fun b u e=>by
    rw [Heap.get?_update_ne _ _ _ _ (Nat.ne_of_lt (Heap.lt_size e))]
    exact Heap.get?_push_of_some _ e
  refine SO.sorted_of (O:=ordD) (vs:=its) (fun i=>ds.getD i .non) κ (by omega) kg (fun Q q=>SO.collect_seq ho hc hcc hd q (by rw [sizeLine_eq]; omega)) hk hcm fun g' p kp hp hs hob=>?_
  obtain ⟨m,hob⟩:=hob
  have hlt:∀ i∈p.toList,i < its.length:=fun i hi=>List.mem_range.mp (hp.mem_iff.mp hi)
  have hsz:s.heap.objs.size≤((s.heap.push (seqObj "list" #[] 0)).update s.heap.objs.size (Obj.mapSeq (· ++ its.toArray))).objs.size:=by
    rw [Heap.size_update,size_push']
    exact Nat.le_succ _
  have hps:p.toList.length=its.length:=by simpa using hp.length_eq
  have hU:=vals_map r p.toList fun i hi=>by rw [l2]; exact hlt i hi
  refine ⟨.ref _,_,I.laid (t':=s.toks) (o:=.lst (p.toList.map fun i=>vs.getD i .non)) kp hsz ⟨?_,_,m,hU,hob⟩,rfl,q _ _ (p.toList.map fun i=>ds.getD i .non) (I.hok.fresh hsz) ?_ ?_ (denL_map hD _ fun i hi=>by have:=hlt i hi; omega)⟩
  · rw [List.length_map,sizeLine_eq]
    omega
  · have e:(List.range its.length).map (fun i=>ds.getD i .non)=ds:=by
      apply List.ext_getElem
      · simp; omega
      · intro i h1 h2
        simp [List.getD_eq_getElem?_getD,h2]
    have:=hp.map fun i=>ds.getD i D.non
    rw [e] at this
    exact this
  · unfold UpD
    rw [List.pairwise_iff_getElem]
    intro i j hi hj hij
    have h:=hs i j (Nat.le_of_lt hij) (by simpa [hps] using hj)
    have e:∀ k (hk:k < p.toList.length),SO.KN (O:=ordD) (fun i=>ds.getD i .non) p k=(p.toList.map fun i=>ds.getD i D.non)[k]'(by rw [List.length_map]; exact hk):=by
      intro k hk
      have hk':k < p.size:=by simpa using hk
      unfold SO.KN
      rw [List.getElem_map]
      congr 1
      simp [Array.getD,hk']
    rw [e i (by simpa using hi),e j (by simpa using hj)] at h
    exact h
theorem call_sortedD (hu:X.A.units+64 < cLine):CallR X (.builtin "sorted") (rSortD X.K):=by
  intro pins s σ H xs us Q I r h
  obtain ⟨a,vs,ds,rfl,hp,hD,hom,h64,hsh,q⟩:=h
  obtain ⟨u,rfl,rx⟩:=vals1 r
  cases rx
  obtain ⟨its,rv,c,o,n,hcc,ho,hc,hd⟩:∃ its:List Value,Vals vs its∧∃ (c:String) (o:Obj) (n:Nat),(c = "list"∨c = "tuple")∧s.heap.get? a=some o∧o.cls=.type c∧o.data=.seq its.toArray n:=by
    rcases hp with hp | hp
    · obtain ⟨its,rv,pl,_⟩:=I.list hp
      obtain ⟨o,ho,hc,n,hd⟩:=pl.isList
      exact ⟨its,rv, "list",o,n,.inl rfl,ho,hc,hd⟩
    · obtain ⟨its,rv,⟨o,ho,hc,n,hd⟩,_⟩:=I.tuple hp
      exact ⟨its,rv, "tuple",o,n,.inr rfl,ho,hc,hd⟩
  have l1:=hD.len
  have l2:=rv.length
  have one:(∀ d∈ds,∀ xs,d≠.tup xs)→∀ T,(T != Value.type "tuple")=true→(T == T)=true→(∀ d∈ds,tyD d=T)→wpAny (model X.prog X.w) X.A (call (.builtin "sorted") [.ref a]) (EP X pins σ Q) X.xe s:=by
    intro nt T hT1 hT2 hT
    refine sortD_with I oneType' ho hc hcc hd hD rv h64 (fun h2 h' kp E Q q=>?_) (fun h' kp i j C hi hj q=>?_) q
    · refine PySem.W.kas_kind h2 (T:=T) (fun v hv=>?_) hT1 hT2 q
      obtain ⟨i,hi,rfl⟩:=List.mem_iff_getElem.mp hv
      obtain ⟨x,v,e1,e2,e3,e4,e5,e6⟩:=at3 (i:=i) hD rv (by omega)
      rw [List.getElem?_eq_getElem hi] at e2
      cases e2
      rw [← hT _ e6]
      exact looks_ty I kp (hom.1 _ e6 _ e6) e4 e5
    · obtain ⟨x,v,e1,e2,e3,e4,e5,e6⟩:=at3 (i:=i) hD rv (by omega)
      obtain ⟨y,u,f1,f2,f3,f4,f5,f6⟩:=at3 (i:=j) hD rv (by omega)
      unfold PySem.W.kas_ask
      rw [e3,f3,keyLt'_oneType]
      exact one_true (hom.1 _ e6 _ f6) e4 f4 e5 f5 (nt _ e6) _ _ q
  rcases hom.2 with hi | hi | hi
  · exact one (fun d hd xs e=>by obtain ⟨i,z⟩:=hi d hd; rw [z] at e; cases e) (.type "int") (by decide) (by rfl) (fun d hd=>by obtain ⟨i,z⟩:=hi d hd; rw [z]; rfl)
  · exact one (fun d hd xs e=>by obtain ⟨i,z⟩:=hi d hd; rw [z] at e; cases e) (.type "str") (by decide) (by rfl) (fun d hd=>by obtain ⟨i,z⟩:=hi d hd; rw [z]; rfl)
  · obtain ⟨T,hT2,hT⟩:∃ T:Value,(T == T)=true∧∀ d r,D.tup (d :: r)∈ds→tyD d=T∧Sim d d:=by
      cases hds:ds with
      | nil=>exact ⟨.type "int",by rfl,fun d r z=>by cases z⟩
      | cons d0 ds0 =>
        obtain ⟨e0,r0,rfl⟩:=hi d0 (by rw [hds]; exact .head _)
        refine ⟨tyD e0,tyD_self e0,fun d r z=>?_⟩
        have s1:=hom.1 _ (show D.tup (d :: r)∈ds by rw [hds]; exact z) (.tup (e0 :: r0)) (by rw [hds]; exact .head _)
        have s2:=hom.1 _ (show D.tup (d :: r)∈ds by rw [hds]; exact z) (.tup (d :: r)) (by rw [hds]; exact z)
        replace s1:=SimL_c' (Sim_t' s1)
        replace s2:=SimL_c' (Sim_t' s2)
        exact ⟨tyD_sim s1.1,s2.1⟩
    refine sortD_with I (tuples' (T != Value.type "tuple")) ho hc hcc hd hD rv h64 (fun h2 h' kp E Q q=>?_) (fun h' kp i j C hi' hj q=>?_) q
    · obtain ⟨fs,k,l,m⟩:=kat_tups I kp hD rv hi
      refine PySem.W.kat_kind k (by omega) (T:=T) (fun v hv=>?_) hT2 q
      obtain ⟨x,d,r,z1,z2,z3⟩:=m v hv
      obtain ⟨t1,t2⟩:=hT d r z3
      rw [← t1]
      exact looks_ty I kp t2 z1 z2
    · obtain ⟨x,v,e1,e2,e3,e4,e5,e6⟩:=at3 (i:=i) hD rv (by omega)
      obtain ⟨y,u,f1,f2,f3,f4,f5,f6⟩:=at3 (i:=j) hD rv (by omega)
      unfold PySem.W.kas_ask
      rw [e3,f3]
      have hq:C (dlt (ds.getD i .non) (ds.getD j .non)) { s with heap:=h' }:=q
      obtain ⟨d1,r1,E1⟩:=hi _ e6
      obtain ⟨d2,r2,E2⟩:=hi _ f6
      have sh1:=hsh _ e6
      have sh2:=hsh _ f6
      have sm:=hom.1 _ e6 _ f6
      rw [E1] at e4 e6 hq sh1 sm
      rw [E2] at f4 f6 hq sh2 sm
      obtain ⟨a1,w1,rfl,ha1,hda1⟩:=den_tup e4
      obtain ⟨a2,w2,rfl,ha2,hda2⟩:=den_tup f4
      cases e5
      cases f5
      obtain ⟨its1,v1,⟨o1,eo1,ec1,n1,ed1⟩,_⟩:=I.tuple (SqT.of (K:=X.K) ha1)
      obtain ⟨its2,v2,⟨o2,eo2,ec2,n2,ed2⟩,_⟩:=I.tuple (SqT.of (K:=X.K) ha2)
      have k1:=hda1.len
      have k2:=hda2.len
      have k3:=v1.length
      have k4:=v2.length
      replace sm:=Sim_t' sm
      have cm:=cmpD I (s':={ s with heap:=h' }) kp 49
      have each:∀ (k:Nat) (p q:Value),(its1.zip its2)[k]?=some (p,q)→∃ (x y:V),Den H x ((d1 :: r1).getD k .non)∧Den H y ((d2 :: r2).getD k .non)∧RelV x p∧RelV y q∧Sim ((d1 :: r1).getD k .non) ((d2 :: r2).getD k .non)∧Shal 49 ((d1 :: r1).getD k .non)∧Shal 49 ((d2 :: r2).getD k .non):=by
        intro k p q hz
        rw [List.getElem?_zip_eq_some] at hz
        have b1:k < its1.length:=(List.getElem?_eq_some_iff.mp hz.1).1
        have b2:k < its2.length:=(List.getElem?_eq_some_iff.mp hz.2).1
        obtain ⟨x1,p1,_,g1,_,g2,g3,g4⟩:=at3 (i:=k) hda1 v1 (by omega)
        obtain ⟨x2,p2,_,g1',_,g2',g3',g4'⟩:=at3 (i:=k) hda2 v2 (by omega)
        rw [hz.1] at g1
        rw [hz.2] at g1'
        cases g1
        cases g1'
        refine ⟨x1,x2,g2,g2',g3,g3',sm.at_ (i:=k) ?_ ?_,(sh1.2 _ rfl).2 _ g4,(sh2.2 _ rfl).2 _ g4'⟩
        · rw [List.getD_eq_getElem?_getD,List.getElem?_eq_getElem (by omega)]; rfl
        · rw [List.getD_eq_getElem?_getD,List.getElem?_eq_getElem (by omega)]; rfl
      refine PySem.W.kat_lt (kp _ _ eo1) ed1 (kp _ _ eo2) ed2 (SO.katlex (e:=fun k=>eqD ((d1 :: r1).getD k .non) ((d2 :: r2).getD k .non)) (f:=fun k=>dlt ((d1 :: r1).getD k .non) ((d2 :: r2).getD k .non)) _ 0 (fun k p q z=>?_) (fun k p q z _ Q E hq=>?_) ?_)
      · obtain ⟨x,y,h1,h2,h3,h4,h5,h6,h7⟩:=each k p q z
        rw [Nat.zero_add]
        exact (cm _ _ _ _ _ _ _ h6 h7 h5 h1 h2 h3 h4 (by simp only [Around.in1]; omega)).1
      · obtain ⟨x,y,h1,h2,h3,h4,h5,h6,h7⟩:=each k p q z
        rw [Nat.zero_add] at hq ⊢
        have lt:=(cm _ _ X.A.in1.in1 _ _ _ _ h6 h7 h5 h1 h2 h3 h4 (by simp only [Around.in1]; omega)).2
        cases hb:(T != Value.type "tuple") && k == 0 with
        | false=>exact one_false lt Q E hq
        | true =>
          rw [Bool.and_eq_true,beq_iff_eq] at hb
          obtain ⟨hb,rfl⟩:=hb
          have t1:=hT d1 r1 e6
          exact one_true h5 h1 h2 h3 h4 (show ∀ ds,d1≠.tup ds from tyD_tup t1.2 (by rw [t1.1]; exact hb)) Q E hq
      · have hl:=lexR_dlt (d1 :: r1) (d2 :: r2)
        have e:List.range' 0 (its1.toArray.toList.zip its2.toArray.toList).length=List.range (min (d1 :: r1).length (d2 :: r2).length):=by
          rw [List.range_eq_range']
          congr 1
          simp only [List.length_zip]
          omega
        have ef:decide (its1.toArray.size < its2.toArray.size)=decide ((d1 :: r1).length < (d2 :: r2).length):=by
          rw [show its1.toArray.size=(d1 :: r1).length by simp at k1 k3 ⊢; omega,show its2.toArray.size=(d2 :: r2).length by simp at k2 k4 ⊢; omega]
        rw [e,ef,hl]
        rw [dlt_tt] at hq
        exact hq
end
end L2
namespace PySem.SeqAt
open AutoSeq1 (wpAny_loadPart')
open MeetsSeq MeetsSeq2 MeetsSeq3 SeqRoads2
theorem list_extend_tup (l:Addr) (items:Array Value) (n:Nat) (b:Addr) (items2:Array Value) (n2:Nat) (dd:Option Addr) (sl:Array (Option Value)) (hs0:¬(!items.isEmpty && Builtin.List.listTooLong (items.size+items2.size))=true) (hs1:items.size≤sizeLine) (hs2:items.size+items2.size≤sizeLine+1) :
    Meets (Builtin.«list.extend» ⟨[.ref l,.ref b],[]⟩) (fun _ R s=>s.heap.get? l=some { cls:=.type "list",dict:=none,data:=.seq items n,slots:=#[] }∧s.heap.get? b=some { cls:=.type "tuple",dict:=dd,data:=.seq items2 n2,slots:=sl }∧R (.ok (.ret Value.none)) { s with heap:=s.heap.update l (Obj.mapSeq fun x=>x++items2),toks:=s.toks }) :=
  .of_wp fun prog w A R s h=>by
    obtain ⟨hp,g,d,tk,os⟩:=s; obtain ⟨hl,hb,h⟩:=h; have f2:=AutoSeq1.sub_tuple_tuple
    have hz':(items++items2).size≤sizeLine+1:=by rw [Array.size_append]; exact hs2
    wp_walk using (wpAny_updateSeq hl rfl (hz:=hs1) (_hz':=hz')),wpAny_loadPart' hl,wpAny_loadPart' hb; exact ⟨_,rfl,h⟩
end PySem.SeqAt
namespace L2
open PySem PySem.Spec PyProof.Rows
noncomputable def rExtendT (K:PySem.W.Frag):V→List V→Hp→VK→Prop:=fun x vs H Q=>∃ (l b:Addr) (xs zs:List V),x=.ref l∧vs=[.ref b]∧H l=some (.lst xs)∧SqT K H b zs∧xs.length+zs.length≤sizeLine∧Q .non (upd H l (.lst (xs++zs)))
theorem mt_extendT {X:Cx}:MtM X "list.extend" (rExtendT X.K):=by
  intro pins s σ H x vs v us Q I rx rv h
  obtain ⟨l,b,xs,zs,rfl,rfl,hH,hB,hz,q⟩:=h
  cases rx
  obtain ⟨u,rfl,ru⟩:=rv.one
  cases ru
  obtain ⟨z,its,n,r,hl,e⟩:=I.lstM hH
  obtain ⟨its2,r2,⟨⟨cls,dd,data,sl⟩,e2,ec,n2,ed⟩,_⟩:=I.tuple hB
  simp only at ec ed
  subst ec ed
  have hl2:=r2.length
  have hsz:its.toArray.size+its2.toArray.size≤sizeLine:=by rw [List.size_toArray,List.size_toArray]; omega
  have hlong:¬ (!its.toArray.isEmpty && Builtin.List.listTooLong (its.toArray.size+its2.toArray.size))=true:=by
    rw [notLongL hsz,Bool.and_false]
    exact Bool.false_ne_true
  refine call_meets F.slot_list_extend ⟨_,e,rfl⟩ F.entry_list_extend (F.args_list_extend_2 _ _)
    (SeqAt.list_extend_tup l its.toArray n b its2.toArray n2 dd sl hlong (by rw [List.size_toArray]; omega) (by omega)) ⟨e,e2,?_⟩
  refine ⟨.non,_,I.lset (its':=its++its2) hH e (by simp) (r.append r2) ?_,rfl,q⟩
  rw [List.length_append]
  omega
end L2
namespace L2
open PySem PySem.Spec PyProof.Rows
end L2
namespace L2
open PySem
structure Row70 (xs:List (List Nat)):Prop where
  len:xs.length=70
  nd:xs.Nodup
  nm:∀ x∈xs,isNm ⟨x.toArray⟩=true
end L2
namespace L2
open PySem PySem.Spec PyProof.Rows
end L2
namespace L2
open PySem PySem.Spec PyProof.Rows
end L2
set_option maxHeartbeats 4000000
namespace L2
open PySem PySem.Spec PyProof.Rows
end L2
namespace MN
open PySem
noncomputable abbrev kwD (d:Value):List (Str × Value):=[(Str.ofString "default",d)]
theorem args_d (a v:Value):argsOk "min" ⟨[a],kwD v⟩:=by
  unfold argsOk kwD
  kernel_rfl
section
variable {prog:Program} {w:World} {A:Around} {R:Result→Shared→Prop} {It:Addr} {fp wr:List Addr} {n:Nat} {Pr:Nat→Value→Prop} {Sx:Nat→Heap→Prop}
theorem nm:(toString "min" ++ toString ".loop" : String) = "min.loop":=by decide
theorem on (W:Walks prog w A.in1 It fp wr n Pr Sx) (bt:Nat→Nat→Bool) (cm:CmpOf prog w A.in1 .Lt Pr bt) (B:Addr) (nB:B ∉ fp) (d:Value) :
    ∀ (k j:Nat) (s:Shared) (best:Value) (c:Nat),n - (j+1)=k→j+1≤n→Sx (j+1) s.heap→Pr (argBest bt j) best →
    s.heap.get? B=some { cls:=.type "list",dict:=none,data:=.seq #[best,best] c,slots:=#[] } →
    (∀ v h' tk,Pr (argBest bt (n - 1)) v→(∀ b o,b ∉ wr→b≠B→s.heap.get? b=some o→h'.get? b=some o)→R (.ok (.ret v)) { s with heap:=h',toks:=tk }) →
    codeAny (model prog w) A (.builtin "min.loop" ⟨[.ref It,.none,.ref B],kwD d⟩) R s:=by
  have nW:B ∉ wr:=fun z=>nB (W.sub _ z)
  intro k
  induction k with
  | zero =>
    intro j s best c ek ej st pb eB fin
    have en:j+1=n:=by omega
    refine codeAny_builtin PySem.F.entry_min_loop ?_
    rw [Around.under_plainId (PySem.F.plain_min_loop) _]
    show wpAny _ A.in1 (seqItems? (.ref B) >>= _) _ _ s
    refine wpAny_bind (wpAny_seqItems eB rfl ?_)
    show wpAny _ A.in1 (tryCatch (pyNext (.ref It)) _ >>= _) _ _ s
    refine wpAny_bind (wpAny_tryCatch (W.done s _ _ (en ▸ st) fun h' tk kp=>?_))
    have eB':=kp B _ nW eB
    show wpAny _ A.in1 (updateSeq B (fun _=>#[]) >>= _) _ _ _
    refine wpAny_bind ?_
    refine wpAny_updateSeq eB' rfl (wpAny_bind (wpAny_letGo (wpAny_pure ?_)))
    exact fin best _ tk (by rw [← en]; exact pb) fun b o nb nS e=>(Heap.get?_update_other _ _ (Ne.symm nS)).trans (kp b o nb e)
  | succ k ih =>
    intro j s best c ek ej st pb eB fin
    have lt:j+1 < n:=by omega
    refine codeAny_builtin PySem.F.entry_min_loop ?_
    rw [Around.under_plainId (PySem.F.plain_min_loop) _]
    show wpAny _ A.in1 (seqItems? (.ref B) >>= _) _ _ s
    refine wpAny_bind (wpAny_seqItems eB rfl ?_)
    show wpAny _ A.in1 (tryCatch (pyNext (.ref It)) _ >>= _) _ _ s
    refine wpAny_bind (wpAny_tryCatch (W.item (j+1) s _ _ lt st fun v h' tk pv st' kp=>?_))
    have eB':=kp B _ nW eB
    show wpAny _ A.in1 (tryCatch (holding [v,v] (richCompare .Lt v best >>= _)) _ >>= _) _ _ _
    refine wpAny_bind (wpAny_tryCatch (wpAny_holding (wpAny_bind (cm (j+1) (argBest bt j) v best _ _ _ pv pb ?_))))
    refine wpAny_bind (wpAny_holding (wpAny_truthy_bool ?_))
    refine wpAny_bind (wpAny_letGo (wpAny_pure ?_))
    cases eb:bt (j+1) (argBest bt j) with
    | true =>
      rw [if_pos rfl]
      refine wpAny_bind ?_
      refine wpAny_updateSeq eB' rfl (wpAny_bind (wpAny_letGo ?_))
      rw [nm]
      refine wpAny_pure ⟨plainId_quiet PySem.F.plain_min_loop _,ih (j+1) _ v _ (by omega) lt (W.frame _ _ _ st' fun b bf o e=>?_) (by simp only [argBest,eb,if_true]; exact pv) (Heap.get?_update_self _ eB' rfl) fun v' h2 tk2 pv' kp2=>?_⟩
      · exact (Heap.get?_update_other _ _ (fun z:B=b=>nB (by rw [z]; exact bf))).trans e
      · exact fin v' h2 tk2 pv' fun b o nb nS e=>kp2 b o nb nS ((Heap.get?_update_other _ _ (Ne.symm nS)).trans (kp b o nb e))
    | false =>
      rw [if_neg Bool.false_ne_true]
      refine wpAny_bind (wpAny_letGo ?_)
      rw [nm]
      refine wpAny_pure ⟨plainId_quiet PySem.F.plain_min_loop _,ih (j+1) _ best c (by omega) lt st' (by simp only [argBest,eb,Bool.false_eq_true,if_false]; exact pb) eB' fun v' h2 tk2 pv' kp2=>?_⟩
      exact fin v' h2 tk2 pv' fun b o nb nS e=>kp2 b o nb nS (kp b o nb e)
theorem begin_ (W:Walks prog w A.in1 It fp wr n Pr Sx) (bt:Nat→Nat→Bool) (cm:CmpOf prog w A.in1 .Lt Pr bt) (B:Addr) (nB:B ∉ fp) (d:Value) {s:Shared} {c:Nat} (st:Sx 0 s.heap)
    (eB:s.heap.get? B=some { cls:=.type "list",dict:=none,data:=.seq #[] c,slots:=#[] })
    (none_:n=0→∀ h' tk,(∀ b o,b ∉ wr→s.heap.get? b=some o→h'.get? b=some o)→R (.ok (.ret d)) { s with heap:=h',toks:=tk })
    (fin:0 < n→∀ v h' tk,Pr (argBest bt (n - 1)) v→(∀ b o,b ∉ wr→b≠B→s.heap.get? b=some o→h'.get? b=some o)→R (.ok (.ret v)) { s with heap:=h',toks:=tk }) :
    codeAny (model prog w) A (.builtin "min.loop" ⟨[.ref It,.none,.ref B],kwD d⟩) R s:=by
  have nW:B ∉ wr:=fun z=>nB (W.sub _ z)
  refine codeAny_builtin PySem.F.entry_min_loop ?_
  rw [Around.under_plainId (PySem.F.plain_min_loop) _]
  show wpAny _ A.in1 (seqItems? (.ref B) >>= _) _ _ s
  refine wpAny_bind (wpAny_seqItems eB rfl ?_)
  show wpAny _ A.in1 (tryCatch (pyNext (.ref It)) _ >>= _) _ _ s
  by_cases h0:n=0
  · refine wpAny_bind (wpAny_tryCatch (W.done s _ _ (h0 ▸ st) fun h' tk kp=>?_))
    show wpAny _ A.in1 (rule _ >>= _) _ _ _
    exact wpAny_bind (wpAny_rule (wpAny_pure (none_ h0 h' tk kp)))
  · have hn:0 < n:=by omega
    refine wpAny_bind (wpAny_tryCatch (W.item 0 s _ _ hn st fun v h' tk pv st' kp=>?_))
    have eB':=kp B _ nW eB
    show wpAny _ A.in1 (updateSeq B (fun _=>#[v,v]) >>= _) _ _ _
    refine wpAny_bind ?_
    refine wpAny_updateSeq eB' rfl ?_
    rw [nm]
    refine wpAny_pure ⟨plainId_quiet PySem.F.plain_min_loop _,on W bt cm B nB d _ 0 _ v _ rfl hn (W.frame _ _ _ st' fun b bf o e=>?_) pv (Heap.get?_update_self _ eB' rfl) fun v' h2 tk2 pv' kp2=>?_⟩
    · exact (Heap.get?_update_other _ _ (fun z:B=b=>nB (by rw [z]; exact bf))).trans e
    · exact fin hn v' h2 tk2 pv' fun b o nb nS e=>kp2 b o nb nS ((Heap.get?_update_other _ _ (Ne.symm nS)).trans (kp b o nb e))
end
section
variable {prog:Program} {w:World} {A:Around} {E:Value→Shared→Prop} {s:Shared}
theorem tree_kw {id:String} {b:Builtin} {args:List Value} {kw:List (Str × Value)} {Q:Value→Shared→Prop} (h1:builtinKind id=none) (h2:plainId id=true) (h3:entryFor table id=some b) (h4:argsOk id ⟨args,kw⟩)
    (h:wpAny (model prog w) A.in1 (b ⟨args,kw⟩) (fun fin s'=>match fin with
      | .done f=>(match (Except.ok f:Result) with | .ok (.ret v)=>Q v s' | .ok _=>False | .error e=>E e s')
      | .again c'=>c'.quiet=true∧codeAny (model prog w) A c' (fun r s'=>match r with | .ok (.ret v)=>Q v s' | .ok _=>False | .error e=>E e s') s') E s):wpAny (model prog w) A (call (.builtin id) args kw) Q E s:=by
  refine wpAny_call (codeAny_call_builtin h2 h3 ?_)
  simp only [checkBuiltinCall,h1]
  cases e:Manifest.signature? id with
  | none=>exact wpAny_pure h
  | some sg =>
    have h4':Bind.checkArgs id sg ⟨args,kw⟩=pure ():=by simpa only [argsOk,e] using h4
    simp only [h4']
    exact wpAny_pure h
theorem call {x d:Value} {Q:Value→Shared→Prop}
    (h:wpAny (model prog w) A.in1 (pyIter x) (fun it s2=>∃ I fp wr n Pr Sx bt,it=.ref I∧Walks prog w A.in1 I fp wr n Pr Sx∧Sx 0 s2.heap∧(∀ b∈fp,b < s2.heap.objs.size)∧CmpOf prog w A.in1 .Lt Pr bt ∧
      (n=0→∀ h' tk,(∀ b o,b ∉ wr→s2.heap.get? b=some o→h'.get? b=some o)→Q d { s2 with heap:=h',toks:=tk }) ∧
      (0 < n→∀ v h' tk,Pr (argBest bt (n - 1)) v→(∀ b o,b ∉ wr→s2.heap.get? b=some o→h'.get? b=some o)→Q v { s2 with heap:=h',toks:=tk })) E s) :
    wpAny (model prog w) A (PySem.call (.builtin "min") [x] (kwD d)) Q E s:=by
  refine tree_kw PySem.F.kind_min PySem.F.plain_min PySem.F.entry_min (args_d _ _) ?_
  show wpAny _ A.in1 (Builtin.Builtins.bindParams "min" ["key", "default"] 0 ⟨[],kwD d⟩ >>= _) _ _ s
  refine wpAny_bind (wpAny_of_eq (show Builtin.Builtins.bindParams "min" ["key", "default"] 0 ⟨[],kwD d⟩=pure [none,some d] from rfl) ?_)
  refine wpAny_bind (wpAny_pure ?_)
  refine wpAny_bind (wpAny_mono h (fun it s2 h2=>?_) fun _ _ e=>e)
  obtain ⟨I,fp,wr,n,Pr,Sx,bt,rfl,W,st,hf,cm,q0,q1⟩:=h2
  refine wpAny_bind (wpAny_newObj_type ?_)
  have nB:s2.heap.objs.size ∉ fp:=fun z=>Nat.lt_irrefl _ (hf _ z)
  rw [nm]
  refine wpAny_pure ⟨plainId_quiet PySem.F.plain_min_loop _,begin_ W bt cm s2.heap.objs.size nB d (W.frame _ _ _ st fun b _ o e=>Heap.get?_push_of_some _ e) (Heap.get?_push_size _ rfl) (fun z h' tk kp=>?_) fun z v h' tk pv kp=>?_⟩
  · exact q0 z h' tk fun b o nb e=>kp b o nb (Heap.get?_push_of_some _ e)
  · exact q1 z v h' tk pv fun b o nb e=>kp b o nb (Nat.ne_of_lt (Heap.lt_size e)) (Heap.get?_push_of_some _ e)
end
end MN
namespace L2
open PySem PySem.Spec PyProof.Rows
noncomputable def tMinN (K:PySem.W.Frag) (te:TE):TE:=fun σ H Q=>te σ H fun x H1=>∃ (l:Addr) (ns:List Int),x=.ref l∧SqL K H1 l (ns.map V.int)∧(ns=[]→Q .non H1)∧∀ m∈ns,(∀ n∈ns,m≤n)→Q (.int m) H1
theorem pe_minN {X:Cx} {e:Expr} {te:TE} {p pos cpos kpos:Pos} {j:Nat} (hc:X.calm=true) (hm:X.mg "min" = none) (hg:Gl X "min") (he:PE X e te)
    (hs:backTo pos (starEach [e] X.env)=(false,eval e X.env) :: backTo pos (starEach [] X.env):=by rfl) (hpl:(backTo pos (starEach [e] X.env)).any (·.1)=false:=by rfl)
    (hs':starEach (e :: []) X.env=(false,eval e X.env) :: starEach [] X.env:=by rfl) :
    PE X (.Call (.Name "min" p) [e] [⟨some "default",.Constant .none j cpos,kpos⟩] pos) (tMinN X.K te):=by
  intro pins s σ H Q I h
  refine wpAny_Call_Name_kw (ld_blt I hg hm boot_min ?_)
  let Qm:List V→Hp→Prop:=fun vs H1=>match vs with
    | [x]=>∃ (l:Addr) (ns:List Int),x=.ref l∧SqL X.K H1 l (ns.map V.int)∧(ns=[]→Q .non H1)∧∀ m∈ns,(∀ n∈ns,m≤n)→Q (.int m) H1
    | _=>False
  have h':tCons te tNil σ H Qm:=h
  refine callWith_kw (thn (pa_cons he pa_nil hs' pos pins s σ H Qm I h') fun us s1 ⟨vs,H1,I1,r1,q1⟩=>?_) hs hpl
  refine thn (pk_cons (nm:=some "default") (kpos:=kpos) (pe_non (j:=j) (pos:=cpos)) pk_nil pos pins s1 σ H1 (fun zs H2=>zs=[V.non]∧H2=H1) I1 ⟨rfl,rfl⟩) fun ws s2 ⟨zs,H2,I2,rz,ez,eH⟩=>?_
  subst ez
  subst eH
  obtain ⟨w0,rfl,r0⟩:=vals1 rz
  cases r0
  match vs,r1,q1 with
  | [x],r1,q1 =>
    obtain ⟨u0,rfl,r⟩:=vals1 r1
    obtain ⟨l,ns,rfl,hq,qn,qm⟩:=q1
    cases r
    obtain ⟨its,rv,pl,hz⟩:=I2.list hq
    have hl:=rv.length
    rw [List.length_map] at hl
    have hd:X.A.in1.handled=none:=I2.ok.hd hc
    show wpAny _ _ (PySem.call (.builtin "min") [.ref l] (MN.kwD .none)) _ _ _
    refine MN.call (wpAny_pyIter_list pl.isList ?_)
    obtain ⟨o,n,eo,_⟩:=id pl
    have ll:l < s2.heap.objs.size:=Heap.lt_size eo
    have I3:Inv X pins σ H2 { s2 with heap:=s2.heap.push { cls:=.type "list_iterator",data:=.fields #[.ref l,.int 0 0] } }:=I2.kept (t':=s2.toks) fun b o q=>Heap.get?_push_of_some _ q
    obtain ⟨f0,f1,f2,f3,f4,f5⟩:=I2.fpOk (b:=s2.heap.objs.size) (Nat.le_refl _) I2.fresh
    have ev:its.toArray.size=ns.length:=by rw [List.size_toArray,hl]
    refine ⟨s2.heap.objs.size,_,_,_,_,_,fun i k=>decide (ns.getD i 0 < ns.getD k 0),rfl,Walks.list hd s2.heap.objs.size l (Nat.ne_of_lt ll) its.toArray,⟨⟨_,Heap.get?_push_size _ rfl,rfl,rfl⟩,pl.isList.push _⟩,fun b hb=>?_,CmpOf.ints_lt (fun i=>ns.getD i 0) (fun i v hv=>ints_at rv hv),fun z h' tk kp=>?_,fun z v h' tk hv kp=>?_⟩
    · show b < (s2.heap.push _).objs.size
      rw [Heap.size_push]
      rcases List.mem_cons.mp hb with rfl | hb
      · exact Nat.lt_succ_self _
      · rw [List.mem_singleton.mp hb]
        exact Nat.lt_succ_of_lt ll
    · have en:ns=[]:=List.eq_nil_of_length_eq_zero (by rw [← ev]; exact z)
      exact ⟨.non,H2,I3.turned (it:=s2.heap.objs.size) (fun b o hb e=>kp b o (by simpa using hb) e) f0 f1 f3 f4 f5,rfl,qn en⟩
    · obtain ⟨t,rfl⟩:=ints_at rv hv
      obtain ⟨b1,b2⟩:=argBest_lt (fun i=>ns.getD i 0) (its.toArray.size - 1)
      generalize hk:argBest (fun i k=>decide (ns.getD i 0 < ns.getD k 0)) (its.toArray.size - 1)=k at *
      have hkl:k < ns.length:=by omega
      have ek:ns.getD k 0=ns[k]:=by rw [List.getD_eq_getElem?_getD,List.getElem?_eq_getElem hkl]; rfl
      refine ⟨.int (ns.getD k 0),H2,I3.turned (it:=s2.heap.objs.size) (fun b o hb e=>kp b o (by simpa using hb) e) f0 f1 f3 f4 f5,⟨_,rfl⟩,qm _ (by rw [ek]; exact List.getElem_mem hkl) fun n hn'=>?_⟩
      obtain ⟨i,hi,ei⟩:=List.getElem_of_mem hn'
      have:=b2 i (by omega)
      have ei':ns.getD i 0=n:=by rw [List.getD_eq_getElem?_getD,List.getElem?_eq_getElem hi,← ei]; rfl
      rw [ei'] at this
      exact this
theorem allInts_of {ns:List Int} {its:List Value} (r:Vals (ns.map V.int) its):∃ xs:Array (Int × Tok),its.toArray=intItems xs∧xs.toList.map (·.1)=ns:=by
  induction ns generalizing its with
  | nil =>
    cases r
    exact ⟨#[],by simp [intItems],rfl⟩
  | cons n ns ih =>
    cases r with
    | cons r1 r2 =>
      obtain ⟨t,rfl⟩:=r1
      obtain ⟨xs,e1,e2⟩:=ih r2
      refine ⟨((n,t) :: xs.toList).toArray,?_,?_⟩
      · have e3:_=(intItems xs).toList:=congrArg Array.toList e1
        simp only [intItems,Array.toList_map] at e3
        simp [intItems,e3]
      · simp [e2]
noncomputable def rSum (K:PySem.W.Frag):List V→Hp→VK→Prop:=fun xs H Q=>∃ (l:Addr) (ns:List Int),xs=[.ref l]∧SqL K H l (ns.map V.int)∧∀ m:Int,Q (.int m) H
theorem call_sumI {X:Cx} (hc:X.calm=true):CallR X (.builtin "sum") (rSum X.K):=by
  intro pins s σ H xs us Q I r h
  obtain ⟨l,ns,rfl,hq,q⟩:=h
  obtain ⟨u,rfl,r1⟩:=vals1 r
  cases r1
  obtain ⟨its,rv,pl,hz⟩:=I.list hq
  obtain ⟨xs,e1,e2⟩:=allInts_of rv
  refine sum_intListG (I.ok.hd hc) (xs:=xs) (by rw [← e1]; exact pl.isList) fun h' tk t' hk=>?_
  exact ⟨.int _,H,I.kept (t':=tk) hk,⟨_,rfl⟩,q _⟩
noncomputable def rNeT0 (K:PySem.W.Frag):R2:=fun x y H Q=>∃ (l b:Addr) (xs:List V),x=.ref l∧y=.ref b∧SqT K H l xs∧SqT K H b []∧Q (.bl (!xs.isEmpty)) H
theorem op_neT0 {X:Cx} (hu:X.A.units < cLine):OpR X (compareOp .NotEq) (rNeT0 X.K):=by
  intro pins s σ H x y v u Q I rx ry h
  obtain ⟨l,b,xs,rfl,rfl,hl,hb,q⟩:=h
  cases rx
  cases ry
  obtain ⟨its,r1,p1,_⟩:=I.tuple hl
  obtain ⟨its2,r2,p2,_⟩:=I.tuple hb
  cases r2
  have m1:=r1.length
  have key:=SeqAt.RcNeAt.tuples (A:=X.A) (s:=s) (e:=fun _=>true) p1 p2 hu fun j h1 h2=>absurd h2 (by simp)
  have e:(!((List.range (min its.toArray.size ([]:List Value).toArray.size)).all (fun _=>true) && its.toArray.size == ([]:List Value).toArray.size))=!xs.isEmpty:=by
    cases xs with
    | nil =>
      cases r1
      rfl
    | cons a xs =>
      cases its with
      | nil=>simp at m1
      | cons=>simp
  rw [e] at key
  exact key X.prog X.w _ _ ⟨.bl _,H,I,rfl,q⟩
noncomputable def rListS:List V→Hp→VK→Prop:=fun xs H Q=>∃ x:Str,xs=[.str x]∧x.cps.size≤1000∧∀ l,H l=none→Q (.ref l) (upd H l (.lst (x.cps.toList.map fun c=>V.str ⟨#[c]⟩)))
theorem vals_pt:∀ {xs:List V} {us:List Value},xs.length=us.length→(∀ (i:Nat) x u,xs[i]?=some x→us[i]?=some u→RelV x u)→Vals xs us
  | [],[],_,_=>.nil
  | x :: xs,u :: us,hl,h=>.cons (h 0 x u rfl rfl) (vals_pt (by simpa using hl) fun i y v h1 h2=>h (i+1) y v (by simpa using h1) (by simpa using h2))
  | [],_ :: _,hl,_=>by simp at hl
  | _ :: _,[],hl,_=>by simp at hl
theorem call_listS {X:Cx} (hc:X.calm=true):CallR X (.type "list") rListS:=by
  intro pins s σ H xs us Q I r h
  obtain ⟨x,rfl,hz,q⟩:=h
  obtain ⟨u,rfl,rx⟩:=vals1 r
  obtain ⟨t,rfl⟩:=rx
  refine call_list_str (I.ok.hd hc) x t (fun h' tk acc' c' kp e hit=>?_) (small hz)
  have hv:Vals (x.cps.toList.map fun c=>V.str ⟨#[c]⟩) acc'.toList:=by
    refine vals_pt (by rw [List.length_map]; simpa using hit.1.symm) fun i y v h1 h2=>?_
    obtain ⟨c,t2,e1,rfl⟩:=hit.2 i v (by simpa using h2)
    rw [List.getElem?_map] at h1
    have e1':x.cps.toList[i]?=some c:=by simpa using e1
    rw [e1'] at h1
    cases h1
    exact ⟨t2,rfl⟩
  exact ⟨.ref s.heap.objs.size,_,I.laid (t':=tk) kp (Nat.le_refl _) (show ObjOk X.prog X.w _ h' _ (.lst _) from ⟨by rw [List.length_map]; simpa using small hz,acc'.toList,c',hv,by simpa using e⟩),rfl,q _ (I.hok.fresh (Nat.le_refl _))⟩
end L2
namespace L2
open PySem PySem.Spec PyProof.Rows
theorem freeBlock {X:Cx} {scope:Scope} {N:List Str} {cl:List (Str × Addr)} {C:Addr} {s:Shared} {H:Hp} {ex:List Addr} {pn:List (Addr × Obj)} {E:Value→Shared→Prop} {ns:List (Str × NameKind)} (h:∀ y∈ns,y.2=.free→scope.names.lookup y.1=some .free) :
    ∀ y∈ns,y.2=.free→(blockCx X scope N cl C s H ex pn E).env.scope.names.lookup y.1=some .cell∨(blockCx X scope N cl C s H ex pn E).env.scope.names.lookup y.1=some .free:=fun y hy hf=>relabel_free (h y hy hf)
theorem get_list {X:Cx}:PGet X (rIxL X.K):=by
  intro pins s σ H x y v u Q I rx ry h
  obtain ⟨p,xs,i,z,rfl,rfl,hq,he,q⟩:=h
  cases rx
  obtain ⟨t,rfl⟩:=ry
  obtain ⟨its,r,pl,hz⟩:=I.list hq
  obtain ⟨j,h1,h2,h3,h4,h5⟩:=atI_get he
  obtain ⟨w,ew,rw'⟩:=r.get h2
  have hl:=r.length
  have hn:=line63
  have fin:EP X pins σ Q w s:=⟨z,H,I,rw',q⟩
  by_cases h0:0≤i
  · have hj:i.toNat=j:=by
      rw [seqIndex_of h0 h5] at h1
      exact Option.some.inj h1
    exact wpAny_getItem_list pl.isList h0 (by omega) (by rw [hj]; simpa using ew) fin
  · have hj:(i+(its.toArray.size:Int)).toNat=j:=by
      rw [seqIndex_neg (by omega) h4] at h1
      rw [List.size_toArray,← hl]
      exact Option.some.inj h1
    exact wpAny_getItem_list_neg pl.isList (by omega) (by rw [List.size_toArray] <;> omega) (by omega) (by rw [hj]; simpa using ew) fin
end L2
namespace L2
open PySem PySem.Spec PyProof.Rows
end L2
namespace L2
open PySem PySem.Spec PyProof.Rows
noncomputable def ExcAt (cls:Value) (T e:Addr) (h:Heap):Prop:=∃ oe vs a0,h.get? e=some oe∧oe.cls=cls∧oe.data=.fields vs∧vs[0]?=some a0∧vs[1]?=some (.ref T)
noncomputable def TrAt (T:Addr) (h:Heap):Prop:=∃ oT ts,h.get? T=some oT∧oT.data=.fields ts∧ts[3]?=some .none
noncomputable def ExcO (cls:Value) (T e:Addr):HO:=.ext (ExcAt cls T e)
noncomputable def TrO (T:Addr):HO:=.ext (TrAt T)
theorem excO_ok {P:Program} {w:World} {H:Hp} {h:Heap} {cls:Value} {T e:Addr} (x:ExcAt cls T e h):ObjOk P w H h e (ExcO cls T e):=by
  refine ⟨x,?_,fun h1 h2 p k=>?_⟩
  · obtain ⟨oe,_,_,he,_⟩:=x
    exact ⟨oe,he⟩
  · obtain ⟨oe,vs,a0,he,r⟩:=p
    exact ⟨oe,vs,a0,k oe he,r⟩
theorem trO_ok {P:Program} {w:World} {H:Hp} {h:Heap} {T:Addr} (x:TrAt T h):ObjOk P w H h T (TrO T):=by
  refine ⟨x,?_,fun h1 h2 p k=>?_⟩
  · obtain ⟨oe,_,he,_⟩:=x
    exact ⟨oe,he⟩
  · obtain ⟨oe,vs,he,r⟩:=p
    exact ⟨oe,vs,k oe he,r⟩
noncomputable def CX1 (P:Program) (w:World):CXT:=fun outer H s E e s'=>∃ (ea T:Addr) (cls:Value) (H':Hp),e=.ref ea∧T≠ea∧s'.os=s.os∧AllBare s'.gens∧Un (frs outer) [] H H' s.heap s'.heap∧HOk P w H' s'.heap ∧
  H' ea=some (ExcO cls T ea)∧H' T=some (TrO T)∧E cls (some ea) H'
section
variable {M:Model} {A:Around} {E:Value→Shared→Prop} {s:Shared} {base:Heap} {env:Env} {outer:List Env} {L e:Addr}
structure Left (fs:List Addr) (e:Addr) (cls:Value) (T:Addr) (h h':Heap):Prop where
  keep:∀ b o,h.get? b=some o→b ∉ fs→b≠e→h'.get? b=some o
  slot:∀ b o,h.get? b=some o→b∈fs→∃ sl,h'.get? b=some { o with slots:=sl }
  new:h.get? T=none
  ne:T≠e
  exc:ExcAt cls T e h'
  tr:TrAt T h'
theorem funFrames_of {base B h:Heap} {l:List Env} (hl:h.FunFrames base l) (hB:∀ b∈frs l,B.get? b=none):h.FunFrames B l:=by
  induction l with
  | nil=>trivial
  | cons env r ih =>
    obtain ⟨hk,⟨L,o,hf,hn,ho,hd⟩,hr⟩:=hl
    refine ⟨hk,⟨L,o,hf,hB L ?_,ho,hd⟩,ih hr fun b hb=>hB b ?_⟩
    · unfold frs; rw [List.filterMap_cons,hf]; exact List.mem_cons_self
    · unfold frs; rw [List.filterMap_cons,hf]; exact List.mem_cons_of_mem _ hb
theorem left_of {cls a0:Value} {h':Heap} (hl:s.heap.FunFrames base (env :: outer))
    (x:Heap.LeftW (PySem.W.hideAll s.heap (e :: frs (env :: outer))) (env :: outer) e cls a0 s.heap h'):∃ T,Left (frs (env :: outer)) e cls T s.heap h':=by
  obtain ⟨k1,k2,⟨oe,vs,T,oT,ts,he,⟨hc,h0⟩,hd,h1,hnT,hTe,hT,hdT,h3⟩,k4⟩:=x
  refine ⟨T,fun b o hb hn hne=>k1 b o (PySem.W.hideAll_get _ hb fun z=>?_),fun b o hb hm=>?_,?_,hTe,⟨oe,vs,a0,he,hc,hd,h0,h1⟩,⟨oT,ts,hT,hdT,h3⟩⟩
  · rcases List.mem_cons.mp z with z | z
    · exact hne z
    · exact hn z
  · obtain ⟨_,o',ho',hnf⟩:=hl.mem hm
    rw [hb] at ho'; cases ho'
    exact k4 b o hb hnf
  · cases q:s.heap.get? T with
    | none=>rfl
    | some o =>
      exfalso
      by_cases hm:T∈frs (env :: outer)
      · obtain ⟨_,o',ho',hnf⟩:=hl.mem hm
        obtain ⟨sl,e1⟩:=k4 T o' ho' hnf
        rw [hT] at e1; cases e1
        exact hnf ts hdT
      · have:=PySem.W.hideAll_get (e :: frs (env :: outer)) q fun z=>(List.mem_cons.mp z).elim hTe hm
        rw [hnT] at this; cases this
theorem leave_first {oe:Obj} {vs:Array Value} {a0:Value} {Q:Unit→Shared→Prop} (hfr:A.frames=some (env :: outer)) (hl:s.heap.FunFrames base (env :: outer)) (hf:env.frame=some L)
    (he:s.heap.get? e=some oe) (hd:oe.data=.fields vs) (h1:vs[1]?=some .none) (h0:vs[0]?=some a0)
    (h:∀ h' T,Left (frs (env :: outer)) e oe.cls T s.heap h'→Q () { s with heap:=h' }):wpAny M A (leaving env (.ref e)) Q E s:=by
  refine wpAny_leaving_firstW (base:=PySem.W.hideAll s.heap (e :: frs (env :: outer))) hfr (funFrames_of hl fun b hb=>PySem.W.hideAll_none _ (List.mem_cons_of_mem _ hb)) hf he (fun b o hb=>PySem.W.of_hideAll _ hb) (PySem.W.hideAll_none _ List.mem_cons_self) hd h1 h0 fun h' x=>?_
  obtain ⟨T,y⟩:=left_of hl x
  exact h h' T y
theorem note_next {cls:Value} {T:Addr} {Q:Unit→Shared→Prop} (hfr:A.frames=some (env :: outer)) (hl:s.heap.FunFrames base (env :: outer)) (hf:env.frame=some L)
    (hx:ExcAt cls T e s.heap) (hT:TrAt T s.heap) (hTe:T≠e)
    (h:∀ h1 h' T',(∀ b,b≠T→h1.get? b=s.heap.get? b)→TrAt T h1→Left (frs (env :: outer)) e cls T' h1 h'→Q () { s with heap:=h' }):wpAny M A (noteFrame (.ref e) env) (fun _ s'=>wpAny M A (setFlight (.ref e) none) Q E s') E s:=by
  obtain ⟨oe,vs,a0,he,hcls,hd,h0,h1⟩:=hx
  obtain ⟨oT,ts,hT,hdT,h3⟩:=hT
  subst hcls
  unfold noteFrame
  simp only [hf]
  refine wpAny_bind (wpAny_field he hd h1 ?_)
  rw [if_pos (show (Value.ref T != Value.none)=true from by simp)]
  refine wpAny_bind (wpAny_field hT hdT h3 ?_)
  rw [if_neg (show ¬ ((Value.none == rawInt L)=true) from by simp [rawInt])]
  refine wpAny_bind (wpAny_setField hT hdT (Array.getElem?_eq_some_iff.mp h3).1 ?_)
  have other:∀ b,b≠T→(s.heap.update T (Obj.mapFields (·.setIfInBounds 3 Value.none))).get? b=s.heap.get? b:=fun b hb=>Heap.get?_update_other _ _ (Ne.symm hb)
  have noRecord:∀ b o,s.heap.get? b=some o→(∀ vs,o.data≠.fields vs)→b≠T:=fun b o hb hnf q=>by
    rw [q,hT] at hb; injection hb with hb; subst hb; exact hnf ts hdT
  have hl1:(s.heap.update T (Obj.mapFields (·.setIfInBounds 3 Value.none))).FunFrames base (env :: outer):=hl.of_keeps fun b o hb hnf=>⟨o,(other b (noRecord b o hb hnf)).trans hb,rfl⟩
  have hT1:TrAt T (s.heap.update T (Obj.mapFields (·.setIfInBounds 3 Value.none))) :=
    ⟨_,_,Heap.get?_update_self _ hT (Obj.isFreed_of_fields (Obj.data_mapFields hdT _)),Obj.data_mapFields hdT _,by simp [(Array.getElem?_eq_some_iff.mp h3).1]⟩
  refine wpAny_newEntryW (base:=PySem.W.hideAll (s.heap.update T (Obj.mapFields (·.setIfInBounds 3 Value.none))) (e :: frs (env :: outer))) hfr (funFrames_of hl1 fun b hb=>PySem.W.hideAll_none _ (List.mem_cons_of_mem _ hb)) hf ((other e (Ne.symm hTe)).trans he)
    (fun b o hb=>PySem.W.of_hideAll _ hb) (PySem.W.hideAll_none _ List.mem_cons_self) hd (Array.getElem?_eq_some_iff.mp h1).1 h0 fun h' x=>?_
  obtain ⟨T',y⟩:=left_of (s:={ s with heap:=s.heap.update T (Obj.mapFields (·.setIfInBounds 3 Value.none)) }) hl1 x
  exact h _ h' T' other hT1 y
theorem leave_next {cls:Value} {T:Addr} {Q:Unit→Shared→Prop} (hfr:A.frames=some (env :: outer)) (hl:s.heap.FunFrames base (env :: outer)) (hf:env.frame=some L)
    (hx:ExcAt cls T e s.heap) (hT:TrAt T s.heap) (hTe:T≠e)
    (h:∀ h1 h' T',(∀ b,b≠T→h1.get? b=s.heap.get? b)→TrAt T h1→Left (frs (env :: outer)) e cls T' h1 h'→Q () { s with heap:=h' }):wpAny M A (leaving env (.ref e)) Q E s:=by
  unfold leaving
  exact wpAny_bind (note_next hfr hl hf hx hT hTe h)
end
theorem ObjOk.has {P:Program} {w:World} {H:Hp} {h:Heap} {a:Addr} {o:HO} (x:ObjOk P w H h a o):∃ u,h.get? a=some u:=by
  cases o with
  | lst xs=>obtain ⟨_,_,_,_,e⟩:=x; exact ⟨_,e⟩
  | tup xs=>obtain ⟨_,_,_,ob,e,_⟩:=x; exact ⟨_,e⟩
  | dK kvs=>obtain ⟨_,_,_,_,ob,_,_,e,_⟩:=x; exact ⟨_,e⟩
  | dT kvs=>obtain ⟨_,_,_,_,ob,_,_,e,_⟩:=x; exact ⟨_,e⟩
  | set S n=>obtain ⟨ob,_,_,_,e,_⟩:=x; exact ⟨_,e⟩
  | ins C dx fs=>obtain ⟨_,_,_,e,_⟩:=x; exact ⟨_,e⟩
  | own y=>exact x
  | xd fs=>obtain ⟨_,⟨ob,_,_,e,_⟩,_⟩:=x; exact ⟨_,e⟩
  | rng lo hi=>obtain ⟨_,_,_,e⟩:=x; exact ⟨_,e⟩
  | frz ob u=>exact ⟨_,x.1⟩
  | tbl ps=>exact ⟨_,x⟩
  | met f y=>exact ⟨_,x⟩
  | ext φ=>exact x.2.1
theorem HOk.new {P:Program} {w:World} {H:Hp} {h:Heap} {a:Addr} (x:HOk P w H h) (e:h.get? a=none):H a=none:=by
  cases q:H a with
  | none=>rfl
  | some u =>
    obtain ⟨o,z⟩:=(x a u q).has
    rw [e] at z; cases z
noncomputable abbrev xH (H:Hp) (T e:Addr) (cls:Value):Hp:=upd (upd H T (TrO T)) e (ExcO cls T e)
theorem xH_T {H:Hp} {T e:Addr} {cls:Value} (h:T≠e):xH H T e cls T=some (TrO T):=by
  show upd (upd H T (TrO T)) e (ExcO cls T e) T=_
  rw [upd_ne h]; exact upd_same
section
variable {P:Program} {w:World} {fs:List Addr} {e T T0:Addr} {cls:Value} {H:Hp} {h0 h1 h':Heap}
theorem Left.un (x:Left fs e cls T h1 h') (hok:HOk P w H h0) (hfs:∀ b∈fs,H b=none) (k:∀ b o,h0.get? b=some o→b≠T0→h1.get? b=some o) (kn:∀ b,h1.get? b=none→h0.get? b=none)
    (e1:∀ o,h0.get? e=some o→∃ T1,H e=some (ExcO cls T1 e)) (t1:T0=e∨(H T0=some (TrO T0)∧TrAt T0 h1)):Un fs [] H (xH H T e cls) h0 h'∧HOk P w (xH H T e cls) h':=by
  have hT0:h0.get? T=none:=kn T x.new
  have hTn:H T=none:=hok.new hT0
  have exx:∀ u,H e=some u→∃ T1,u=ExcO cls T1 e:=fun u q=>by
    obtain ⟨o,z⟩:=(hok e u q).has
    obtain ⟨T1,r⟩:=e1 o z
    rw [r] at q; cases q; exact ⟨T1,rfl⟩
  have gen:∀ b u,H b=some u→(∀ φ,u≠.ext φ)→xH H T e cls b=some u:=fun b u q ne=>by
    have hbe:b≠e:=fun z=>by
      subst z
      obtain ⟨T1,r⟩:=exx u q
      exact ne _ r
    have hbT:b≠T:=fun z=>by subst z; rw [hTn] at q; cases q
    show upd (upd H T (TrO T)) e (ExcO cls T e) b=some u
    rw [upd_ne hbe,upd_ne hbT]; exact q
  have ke:∀ b o,h0.get? b=some o→H b=none→b≠e:=fun b o q n z=>by
    subst z
    obtain ⟨T1,r⟩:=e1 o q
    rw [n] at r; cases r
  have kT:∀ b o,h0.get? b=some o→H b=none→b≠T0:=fun b o q n z=>by
    rcases t1 with r | ⟨r,_⟩
    · exact ke b o q n (z.trans r)
    · subst z; rw [n] at r; cases r
  have on:∀ b o,h1.get? b=some o→b≠e→∃ o',h'.get? b=some o':=fun b o q hbe=>by
    by_cases hb:b∈fs
    · obtain ⟨sl,z⟩:=x.slot b o q hb
      exact ⟨_,z⟩
    · exact ⟨o,x.keep b o q hb hbe⟩
  refine ⟨⟨fun b o q n hb _=>x.keep b o (k b o q (kT b o q n)) hb (ke b o q n),fun b o q n hb _=>x.slot b o (k b o q (kT b o q n)) hb,fun b o q n _=>?_,fun b o q _=>?_,fun b xs q=>gen b _ q fun φ z=>(nomatch z),fun b o u q=>gen b _ q fun φ z=>(nomatch z),fun b ps q=>⟨#[],by rw [gen b _ q fun φ z=>(nomatch z)]; simp⟩⟩,fun b u q=>?_⟩
  · have hbT:b≠T:=fun z=>by subst z; rw [hT0] at q; cases q
    show upd (upd H T (TrO T)) e (ExcO cls T e) b=none
    rw [upd_ne (ke b o q n),upd_ne hbT]; exact n
  · by_cases hbe:b=e
    · subst hbe
      obtain ⟨oe,_,_,z,_⟩:=x.exc
      exact ⟨oe,z⟩
    · by_cases hb0:b=T0
      · subst hb0
        rcases t1 with r | ⟨_,oT,_,z,_⟩
        · exact absurd r hbe
        · exact on b oT z hbe
      · exact on b o (k b o q hb0) hbe
  · by_cases hbe:b=e
    · subst hbe
      have:u=ExcO cls T b:=by
        have q':upd (upd H T (TrO T)) b (ExcO cls T b) b=some u:=q
        rw [upd_same] at q'; cases q'; rfl
      subst this
      exact excO_ok x.exc
    · have q1:upd (upd H T (TrO T)) e (ExcO cls T e) b=some u:=q
      rw [upd_ne hbe] at q1
      by_cases hbT:b=T
      · subst hbT
        rw [upd_same] at q1; cases q1
        exact trO_ok x.tr
      · rw [upd_ne hbT] at q1
        have hbf:b ∉ fs:=fun z=>by rw [hfs b z] at q1; cases q1
        by_cases hb0:b=T0
        · subst hb0
          rcases t1 with r | ⟨r,oT,ts,z,y⟩
          · exact absurd r hbe
          · rw [r] at q1; cases q1
            exact trO_ok ⟨oT,ts,x.keep b oT z hbf hbe,y⟩
        · refine (hok b u q1).stay (fun c v hc q2=>?_) (fun c q2=>gen c _ q2 fun φ z=>(nomatch z)) fun c xs q2=>gen c _ q2 fun φ z=>(nomatch z)
          rcases hc with rfl | hc
          · exact x.keep c v (k c v q2 hb0) hbf hbe
          · have hce:c≠e:=fun z=>by
              subst z
              obtain ⟨T1,r⟩:=exx _ hc
              cases r
            have hc0:c≠T0:=fun z=>by
              rcases t1 with r | ⟨r,_⟩
              · exact hce (z.trans r)
              · subst z; rw [r] at hc; cases hc
            exact x.keep c v (k c v q2 hc0) (fun z=>by rw [hfs c z] at hc; cases hc) hce
end
section
variable {X:Cx} {pins:List (Addr × Obj)} {σ:St} {H H':Hp} {s:Shared} {h':Heap}
theorem Inv.out (I:Inv X pins σ H s) (hx:X.ex=[]) (u:Un (frs X.stack) [] H H' s.heap h'):Un (frs X.outer) [] X.H₀ H' X.s₀.heap h':=by
  have hsub:∀ b∈X.fs,b∈frs X.stack:=fun b hb=>by
    rcases I.ok.stk with e | ⟨e,hf⟩
    · rw [e]; exact hb
    · rw [e]; unfold frs; rw [List.filterMap_cons,hf]; exact List.mem_cons_of_mem _ hb
  have b0:=I.base
  rw [hx] at b0
  have t:=(b0.mono (fs':=frs X.stack) (ex':=[]) hsub fun _ z=>z).trans u
  refine ⟨fun b o q n hb hx=>t.keep b o q n (fun z=>?_) hx,fun b o q n hb hx=>t.slot b o q n (hsub b hb) hx,t.free,t.there,t.tups,t.frzs,t.tbls⟩
  rcases List.mem_cons.mp (I.stkSub b z) with r | r
  · subst r
    exact absurd (Nat.lt_of_lt_of_le (Heap.lt_size q) I.ok.above) (Nat.lt_irrefl _)
  · exact hb r
end
section
variable {P:Program} {w:World} {K:PySem.W.Frag} {mg:Str→Option Value} {base:Heap} {N:List Str} {qual:Str} {scope:Scope} {f:Addr} {cd:Value} {A:Around} {outer:List Env} {s0:Shared} {H0:Hp} {E:XK}
  {pins:List (Addr × Obj)} {σ:St} {H:Hp} {s:Shared}
theorem made_leaves {cls:Value} {args:List Value} {e:Addr} {h1:Heap} (I:Inv (cxOf (CX1 P w) P w K mg base N qual scope f cd A outer s0 H0 E) pins σ H s) (hx:Heap.MadeExcOf s.heap h1 e cls args)
    (hE:∀ T,H e=none→H T=none→E cls (some e) (xH H T e cls)):(cxOf (CX1 P w) P w K mg base N qual scope f cd A outer s0 H0 E).xe (.ref e) { s with heap:=h1 }:=by
  have hl:=I.stack
  have hl1:h1.FunFrames base (envOfC qual scope s0.heap.objs.size f cd :: outer):=hl.of_keeps fun b o hb _=>⟨o,hx.keeps b o hb,rfl⟩
  obtain ⟨t,he,htn,ht⟩:=hx.there
  refine leave_first (s:={ s with heap:=h1 }) (L:=s0.heap.objs.size) I.ok.frames hl1 rfl he rfl rfl rfl fun h' T x=>?_
  have kn:∀ b,h1.get? b=none→s.heap.get? b=none:=fun b q=>by
    cases z:s.heap.get? b with
    | none=>rfl
    | some o=>rw [hx.keeps b o z] at q; cases q
  have He:H e=none:=I.hok.new hx.new
  obtain ⟨u,ok⟩:=x.un (P:=P) (w:=w) (T0:=e) (H:=H) (h0:=s.heap) I.hok I.stkFree (fun b o q _=>hx.keeps b o q) kn (fun o q=>by rw [hx.new] at q; cases q) (.inl rfl)
  exact ⟨e,T,cls,_,rfl,x.ne,I.os,I.bare,I.out rfl u,ok,upd_same,xH_T x.ne,hE T He (I.hok.new (kn T x.new))⟩
theorem passes1 (E1:XK) (hE:∀ cls e T H',H' e=some (ExcO cls T e)→E1 cls (some e) H'→∀ T',H' T'=none→E cls (some e) (xH H' T' e cls)):Passes (CX1 P w) (cxOf (CX1 P w) P w K mg base N qual scope f cd A outer s0 H0 E) E1:=by
  intro pins σ H s e s' I h
  obtain ⟨ea,T,cls,H',rfl,hTe,os,bare,un,ok,he,hT,q⟩:=h
  have J:Inv (cxOf (CX1 P w) P w K mg base N qual scope f cd A outer s0 H0 E) pins σ H' s':=I.call' (ch:=[]) os un ok bare fun b z=>absurd z (by simp)
  have a1:ExcAt cls T ea s'.heap:=(ok ea _ he).1
  have a2:TrAt T s'.heap:=(ok T _ hT).1
  refine leave_next (s:=s') (L:=s0.heap.objs.size) J.ok.frames J.stack rfl a1 a2 hTe fun h1 h' T' k1 k2 x=>?_
  have kn:∀ b,h1.get? b=none→s'.heap.get? b=none:=fun b q=>by
    by_cases hb:b=T
    · subst hb
      obtain ⟨oT,_,z,_⟩:=k2
      rw [z] at q; cases q
    · rw [← k1 b hb]; exact q
  obtain ⟨u,ok'⟩:=x.un (P:=P) (w:=w) (T0:=T) (H:=H') (h0:=s'.heap) J.hok J.stkFree (fun b o q hb=>by rw [k1 b hb]; exact q) kn (fun o _=>⟨T,he⟩) (.inr ⟨hT,k2⟩)
  exact ⟨ea,T',cls,_,rfl,x.ne,J.os,J.bare,J.out rfl u,ok',upd_same,xH_T x.ne,hE cls ea T H' he q T' (J.hok.new (kn T' x.new))⟩
end
end L2
namespace L2
open PySem PySem.Spec PyProof.Rows
abbrev vBm:List Value:=[.type "ValueError",.type "Exception",.type "BaseException",.type "object"]
theorem exc_cls {K:PySem.W.Frag} {h:Heap} {C:Addr} {bmB:List Value} {newId:String} {x:Str} {mg:Str→Option Value} (X:K.In h) (hb:mg x=some (.ref C)) (q:PySem.W.excIn K C bmB newId=true):OwnCls x C bmB newId mg h:=by
  refine ⟨hb,?_⟩
  unfold PySem.W.excIn at q
  split at q
  · rename_i dd cd sl ho
    split at q
    · rename_i C' bm k0 k1 k2 k3 n k5 hm hs
      simp only [Bool.and_eq_true,beq_iff_eq,Bool.not_eq_true'] at q
      obtain ⟨⟨⟨⟨⟨h1,h2⟩,h3⟩,h4⟩,h5⟩,h6⟩:=q
      subst h1; subst h2
      have e1:sl = #[k0,k1,k2,k3,some (.builtin n),k5]:=Array.toList_inj.mp hs
      subst e1
      have e2:cd={ name:=cd.name,bases:=cd.bases,mro:=.ref C' :: bm,ns:=cd.ns,qualname:=cd.qualname,hasDict:=cd.hasDict,slotNames:=cd.slotNames,subclasses:=cd.subclasses,abstract:=cd.abstract,collection:=cd.collection,hasDel:=false }:=by
        rw [← hm,← h3]
      have e3:=X _ _ ho
      rw [e2] at e3
      exact ⟨bm,cd.ns,cd.name,cd.qualname,cd.bases,cd.hasDict,cd.slotNames,cd.subclasses,cd.abstract,cd.collection,dd,k0,k1,k2,k3,k5,_,e3,.of_isNs (PySem.W.isNs_of_in X h5),PySem.W.nsMap_none_of_in X h5 h6,PySem.W.tail_of_in X h4⟩
    · cases q
  · cases q
noncomputable def Throws (X:Cx) (E:XK):Prop:=∀ (pins:List (Addr × Obj)) (σ:St) (H:Hp) (s:Shared) (e:Addr) (h1:Heap) (cls:Value) (args:List Value),Inv X pins σ H s→Heap.MadeExcOf s.heap h1 e cls args →
  (∀ T,H e=none→H T=none→E cls (some e) (xH H T e cls))→X.xe (.ref e) { s with heap:=h1 }
theorem throws1 {P:Program} {w:World} {K:PySem.W.Frag} {mg:Str→Option Value} {base:Heap} {N:List Str} {qual:Str} {scope:Scope} {f:Addr} {cd:Value} {A:Around} {outer:List Env} {s0:Shared} {H0:Hp} {E:XK} :
    Throws (cxOf (CX1 P w) P w K mg base N qual scope f cd A outer s0 H0 E) E:=fun _ _ _ _ _ _ _ _ I hx hE=>made_leaves I hx hE
noncomputable def tRaise (C:Addr) (E:XK) (t:TA):TS:=fun _ σ H=>t σ H fun vs H1=>vs.length≤sizeLine∧∀ e T,H1 e=none→H1 T=none→E (.ref C) (some e) (xH H1 T e (.ref C))
theorem ps_raise {X:Cx} {x:Str} {C:Addr} {E:XK} {a:Expr} {as:List Expr} {t:TA} {np cpos pos:Pos} (hc:X.calm=true) (ht:Throws X E) (hg:Gl X x) (hm:X.mg x=some (.ref C)) (hq:PySem.W.excIn X.K C vBm "ValueError.__new__" = true) (ha:PA X (a :: as) t)
    (hdb:(x == ("__debug__" : Str))=false:=by decide) (he:starEach (a :: as) X.env=(false,eval a X.env) :: starEach as X.env:=by rfl) (hpl:(backTo cpos (starEach as X.env)).any (·.1)=false:=by rfl) :
    PS X (.Raise (some (.Call (.Name x np) (a :: as) [] cpos)) none pos) (tRaise C E t):=by
  intro pins s σ H D I h
  obtain ⟨_,bm,N,nm,q,bs,hdct,sn,sub,ab,col,dd,k0,k1,k2,k3,k5,mN,hC,hN,hni,T⟩:=exc_cls (x:=x) I.mod.kin hm hq
  have hb:bm.contains (.type "BaseException")=true:=T.hasType (by decide)
  refine wpAny_Raise_call_subT (C:=C) (nm:=nm) (q:=q) (N:=N) (bs:=bs) (bm:=bm) (hdct:=hdct) (sn:=sn) (sub:=sub) (ab:=ab) (col:=col) (dd:=dd) (k0:=k0) (k1:=k1) (k2:=k2) (k3:=k3) (k5:=k5) F.excBase_ValueError hb (I.ok.hd hc) ?_ hni (ld_glob I hg hm ⟨rfl,?_⟩ hdb)
  · rw [he]; show (false || (backTo cpos (starEach as X.env)).any (·.1))=false; rw [hpl]; rfl
  have h2:=ha cpos pins s σ H _ I h
  rw [he] at h2 ⊢
  refine Calls.evalArgs_plain (wpAny_mono h2 (fun us s1 ⟨vs,H1,I1,r,q1,q2⟩=>⟨rfl,?_,I1.bk _ _ hC,hN.keeps I1.bk,T.keeps I1.bk,fun h' e hx=>ht pins σ H1 s1 e h' _ _ I1 hx fun T h3 h4=>q2 e T h3 h4⟩) fun _ _ y=>y)
  rw [← r.length]; exact q1
noncomputable abbrev TJ:=St→Hp→Str→VK→Prop
noncomputable def PJ (X:Cx) (es:List Expr) (t:TJ):Prop :=
  ∀ (pins:List (Addr × Obj)) (s:Shared) (σ:St) (H:Hp) (acc:Str) (Q:VK),Inv X pins σ H s→t σ H acc Q→wpAny (model X.prog X.w) X.A (joinParts acc (evalEach es X.env)) (EP X pins σ Q) X.xe s
noncomputable def tJ0:TJ:=fun _ H acc Q=>acc.length≤sizeLine∧Q (.str acc) H
noncomputable def tJ1 (te:TE) (tj:TJ):TJ:=fun σ H acc Q=>te σ H fun v H1=>∃ y,v=.str y∧(acc++y).length≤sizeLine∧tj σ H1 (acc++y) Q
noncomputable def tFmt (te:TE):TE:=fun σ H Q=>te σ H fun v H1=>(∃ y,v=.str y∧y.length≤sizeLine∧Q v H1)∨∃ i:Int,v=.int i∧i.natAbs.log2 < 1920∧Q (.str (toString i)) H1
section
variable {X:Cx} {e e2:Expr} {es:List Expr} {te te2:TE} {tj:TJ} {pos:Pos}
theorem pj_nil:PJ X [] tJ0:=fun pins s σ H acc Q I h=>joinParts_nil ⟨.str acc,H,I.tok _,⟨_,rfl⟩,h.2⟩ h.1
theorem pj_cons (he:PE X e te) (hj:PJ X es tj):PJ X (e :: es) (tJ1 te tj):=fun pins s σ H acc Q I h=>by
  refine joinParts_cons (thn (he pins s σ H _ I h) fun u s1 ⟨v,H1,I1,r,y,e1,hl,q⟩=>?_)
  subst e1
  obtain ⟨tk,rfl⟩:=r
  exact ⟨hl,hj pins s1 σ H1 _ Q I1 q⟩
theorem pe_fmt (he:PE X e te):PE X (.FormattedValue e (-1) none pos) (tFmt te):=fun pins s σ H Q I h=>by
  refine FormattedValue_plain (thn (he pins s σ H _ I h) fun u s1 ⟨v,H1,I1,r,q⟩=>?_)
  rcases q with ⟨y,rfl,hl,q⟩ | ⟨i,rfl,hl,q⟩
  · obtain ⟨tk,rfl⟩:=r
    exact formatField_str (fun t' tk=>⟨.str y,H1,I1.tok _,⟨t',rfl⟩,q⟩) hl
  · obtain ⟨tk,rfl⟩:=r
    exact formatField_int_small hl ⟨.str (toString i),H1,I1.tok _,⟨_,rfl⟩,q⟩
theorem pe_fstr (hj:PJ X (e :: e2 :: es) tj):PE X (.JoinedStr (e :: e2 :: es) pos) (fun σ H Q=>tj σ H Str.empty Q):=fun pins s σ H Q I h=>JoinedStr_many (hj pins s σ H Str.empty Q I h)
end
end L2
namespace L2
open PySem PySem.Spec PyProof.Rows
structure Cal1 (P:Program) (w:World) (K:PySem.W.Frag) (mg:Str→Option Value) (base:Heap) (x:Str) (k:Nat) (ps:List Str) (sp:Sp):Prop where
  ex:∃ (f:Addr) (fd:FuncData),FnOk P w K mg base (CX1 P w) k f fd ps sp∧Binds K fd ps []∧PySem.W.keepIn K (.ref f)=true∧mg x=some (.ref f)
section
variable {P:Program} {w:World} {K:PySem.W.Frag} {mg:Str→Option Value} {base:Heap} {x:Str} {ps:List Str} {sp:Sp}
theorem Has.mk1 {st:Stmt} {N:List Str} {k:Nat} (h:Has K mg x st ps) (S:FnScope N ps (defScope st)) (len:∀ vs H Q E,sp vs H Q E→vs.length=ps.length)
    (hbody:∀ (f:Addr) (cdv:Value) (A:Around) (outer:List Env) (s:Shared) (H:Hp) (vs:List V) (Q:VK) (E:XK),Room k (A.deeper (envOfC x (defScope st) s.heap.objs.size f cdv))→sp vs H Q E →
      ∃ t,PSs (cxOf (CX1 P w) P w K mg base N x (defScope st) f cdv A outer s H E) (defBody st) t∧t { nx:=fun _ H'=>Q .non H',rt:=Q } (start N vs) H):Cal1 P w K mg base x (k+1) ps sp:=by
  obtain ⟨f,fd,F,b,m⟩:=h.ex
  obtain ⟨oc,od,kV,doc,pm,an,cdv,ct,osl,rfl,lk,hcd⟩:=F.ex
  exact ⟨f,_,fn_of lk hcd S len fun A outer s H vs Q E hr hsp=>hbody f cdv A outer s H vs Q E hr hsp,b,F.kp,m⟩
end
noncomputable def PassesS (CX:CXT) (X:Cx) (E:St→XK):Prop:=∀ (pins:List (Addr × Obj)) (σ:St) (H:Hp) (s:Shared) (e:Value) (s':Shared),Inv X pins σ H s→CX X.stack H s (E σ) e s'→X.xe e s'
theorem Passes.s {CX:CXT} {X:Cx} {E:XK} (h:Passes CX X E):PassesS CX X fun _=>E:=h
noncomputable def tCallS (sp:Sp) (E:St→XK) (t:TA):TE:=fun σ H Q=>t σ H fun vs H1=>sp vs H1 Q (E σ)
theorem pe_cal1 {X:Cx} {x:Str} {k n:Nat} {ps:List Str} {sp:Sp} {E:St→XK} {e:Expr} {es:List Expr} {t:TA} {p pos:Pos} (C:Cal1 X.prog X.w X.K X.mg X.base x k ps sp) (hr:Room n X.A) (hk:k≤n) (hg:Gl X x) (hx:PassesS (CX1 X.prog X.w) X E) (ha:PA X (e :: es) t)
    (hdb:(x == ("__debug__" : Str))=false:=by decide) (he:starEach (e :: es) X.env=(false,eval e X.env) :: starEach es X.env:=by rfl) (hpl:(backTo pos (starEach es X.env)).any (·.1)=false:=by rfl) :
    PE X (.Call (.Name x p) (e :: es) [] pos) (tCallS sp E t):=by
  obtain ⟨f,fd,F,b,kp,m⟩:=C.ex
  intro pins s σ H Q I h
  refine wpAny_Call_Name_kw (ld_glob I hg m ?_ hdb)
  refine PySem.W.callWith_K (h₀:=X.base) I.ok.mod.kin kp (thn (ha pos pins s σ H _ I h) fun us s1 ⟨vs,H1,I1,r,q⟩=>⟨I1.kIn,?_⟩) he hpl
  have hl:us.length=ps.length:=by rw [← r.length]; exact F.len _ _ _ _ q
  refine wpAny_call (codeAny_mono ((F.mono hk).run X.A X.stack s1 H1 ⟨us,[]⟩ us vs Q (E σ) hr I1.env0 (by have:=b s1 us I1.kIn (by rw [List.append_nil]; exact hl); rw [List.append_nil] at this; exact this) r q) fun r s' hq=>?_)
  cases r with
  | error e=>exact hx pins σ H1 s1 e s' I1 hq
  | ok fl =>
    cases fl with
    | ret u=>exact I1.after hq
    | next=>exact False.elim hq
    | brk=>exact False.elim hq
    | cont=>exact False.elim hq
end L2
namespace L2
open PySem PySem.Spec PyProof.Rows
noncomputable abbrev XR:=Value→Addr→St→Hp→Prop
noncomputable def Flown (X:Cx) (pins:List (Addr × Obj)) (R:XR) (e:Value) (s:Shared):Prop:=∃ (ea T:Addr) (cls:Value) (σ:St) (H:Hp),e=.ref ea∧T≠ea∧Inv X pins σ H s∧H ea=some (ExcO cls T ea)∧H T=some (TrO T)∧R cls ea σ H
noncomputable abbrev tryCx (X:Cx) (pins:List (Addr × Obj)) (R:XR):Cx:={ X with pn:=X.pn++pins,xe:=Flown X pins R }
section
variable {X:Cx} {pins more:List (Addr × Obj)} {σ:St} {H:Hp} {s:Shared} {R:XR}
theorem okTry (ok:X.Ok):(tryCx X pins R).Ok:=⟨ok.mod,ok.kind,ok.glob,ok.blt,ok.above,ok.inj,ok.has,ok.cab,ok.hd,ok.frames,ok.stk,ok.exf,ok.bs,ok.bsz,ok.noex,ok.exfs,ok.funs,ok.frf⟩
theorem okUntry (ok:(tryCx X pins R).Ok):X.Ok:=⟨ok.mod,ok.kind,ok.glob,ok.blt,ok.above,ok.inj,ok.has,ok.cab,ok.hd,ok.frames,ok.stk,ok.exf,ok.bs,ok.bsz,ok.noex,ok.exfs,ok.funs,ok.frf⟩
theorem Inv.toTry (I:Inv X pins σ H s):Inv (tryCx X pins R) [] σ H s:=⟨okTry I.ok,I.os,I.bare,I.base,I.loc,I.cell,I.free,I.freeC,fun p hp=>I.pin p (by
  have hp':p∈(X.pn++pins)++[]:=hp
  rw [List.append_nil] at hp'; exact hp'),I.hok,I.len⟩
theorem Inv.ofTry (I:Inv (tryCx X pins R) more σ H s):Inv X pins σ H s:=⟨okUntry I.ok,I.os,I.bare,I.base,I.loc,I.cell,I.free,I.freeC,fun p hp=>I.pin p (List.mem_append_left _ hp),I.hok,I.len⟩
theorem SP.ofTry {D:Ends} {f:Flow} {s':Shared} (h:SP (tryCx X pins R) [] D f s'):SP X pins D f s':=by
  cases f with
  | next=>obtain ⟨σ',H',I,q⟩:=h; exact ⟨σ',H',I.ofTry,q⟩
  | brk=>obtain ⟨σ',H',I,q⟩:=h; exact ⟨σ',H',I.ofTry,q⟩
  | cont=>obtain ⟨σ',H',I,q⟩:=h; exact ⟨σ',H',I.ofTry,q⟩
  | ret u=>obtain ⟨v,σ',H',I,r,q⟩:=h; exact ⟨v,σ',H',I.ofTry,r,q⟩
theorem passesT:PassesS (CX1 X.prog X.w) (tryCx X pins R) (fun σ cls o H'=>∀ e,o=some e→R cls e σ H'):=by
  intro more σ H s e s' I h
  obtain ⟨ea,T,cls,H',rfl,hTe,os,bare,un,ok,he,hT,q⟩:=h
  exact ⟨ea,T,cls,σ,H',rfl,hTe,I.ofTry.call' (ch:=[]) os un ok bare fun b z=>absurd z (by simp),he,hT,q ea rfl⟩
theorem flown_looks {M:Model} {ea T:Addr} {cls:Value} {E:Value→Shared→Prop} {Q:Unit→Shared→Prop} (I:Inv X pins σ H s) (hst:X.stack=X.env :: X.outer) (hf:X.env.frame=some X.env.locals) (hTe:T≠ea) (he:H ea=some (ExcO cls T ea)) (hT:H T=some (TrO T))
    (h:∀ s' T',Inv X pins σ (xH H T' ea cls) s'→T'≠ea→H T'=none→Q () s'):wpAny M X.A (noteFrame (.ref ea) X.env) (fun _ s'=>wpAny M X.A (setFlight (.ref ea) none) Q E s') E s:=by
  have a1:ExcAt cls T ea s.heap:=(I.hok ea _ he).1
  have a2:TrAt T s.heap:=(I.hok T _ hT).1
  have hl:=I.stack
  have hfr:=I.ok.frames
  have hfree:=I.stkFree
  rw [hst] at hl hfr hfree
  refine note_next (L:=X.env.locals) hfr hl hf a1 a2 hTe fun h1 h' T' k1 k2 x=>?_
  have kn:∀ b,h1.get? b=none→s.heap.get? b=none:=fun b q=>by
    by_cases hb:b=T
    · subst hb
      obtain ⟨oT,_,z,_⟩:=k2
      rw [z] at q; cases q
    · rw [← k1 b hb]; exact q
  obtain ⟨u,ok'⟩:=x.un (P:=X.prog) (w:=X.w) (T0:=T) (H:=H) (h0:=s.heap) I.hok hfree (fun b o q hb=>by rw [k1 b hb]; exact q) kn (fun o _=>⟨T,he⟩) (.inr ⟨hT,k2⟩)
  exact h _ T' (I.call' (ch:=[]) (s':={ s with heap:=h' }) rfl (by rw [hst]; exact u) ok' I.bare fun b z=>absurd z (by simp)) x.ne (I.hok.new (kn T' x.new))
theorem flight_none {M:Model} {A:Around} {ea T:Addr} {cls:Value} {E:Value→Shared→Prop} {Q:Unit→Shared→Prop} (I:Inv X pins σ H s) (he:H ea=some (ExcO cls T ea)) (hT:H T=some (TrO T))
    (h:∀ s',Inv X pins σ H s'→Q () s'):wpAny M A (setFlight (.ref ea) none) Q E s:=by
  obtain ⟨oe,vs,a0,he1,_,hd,h0,h1⟩:ExcAt cls T ea s.heap:=(I.hok ea _ he).1
  obtain ⟨oT,ts,hT1,hdT,h3⟩:TrAt T s.heap:=(I.hok T _ hT).1
  have hsz3:3 < ts.size:=(Array.getElem?_eq_some_iff.mp h3).1
  unfold setFlight
  refine wpAny_bind (wpAny_field he1 hd h1 ?_)
  rw [if_pos (show (Value.ref T != Value.none)=true from by simp)]
  have hup:upd H T (TrO T)=H:=by
    funext b
    unfold upd
    split
    · rename_i e; subst e; exact hT.symm
    · rfl
  have mT:TrAt T (s.heap.update T (Obj.mapFields (·.setIfInBounds 3 ((none:Option Addr).elim Value.none fun f=>rawInt f)))) :=
    ⟨_,_,Heap.get?_update_self _ hT1 (Obj.isFreed_of_fields (Obj.data_mapFields hdT _)),Obj.data_mapFields hdT _,by simp [hsz3]⟩
  refine wpAny_setField hT1 hdT hsz3 (h _ ?_)
  have W:=I.write (x:=T) (e:=T) (o:=TrO T) (t':=s.toks) (h':=s.heap.update T (Obj.mapFields (·.setIfInBounds 3 ((none:Option Addr).elim Value.none fun f=>rawInt f)))) (by rw [hT]; trivial) (.inl rfl)
    (fun b u hb q=>(Heap.get?_update_other _ _ (Ne.symm hb)).trans q) (by obtain ⟨o,_,z,_⟩:=mT; exact ⟨o,z⟩) (trO_ok mT)
  rw [hup] at W
  exact W
end
end L2
namespace L2
open PySem PySem.Spec PyProof.Rows
noncomputable abbrev exCx (X:Cx) (e:Addr):Cx:={ X with A:=X.A.mark (some (.ref e)),calm:=false,xe:=fun _ _=>False }
section
variable {X:Cx} {pins:List (Addr × Obj)} {σ:St} {H:Hp} {s:Shared} {e:Addr}
theorem okEx (ok:X.Ok):(exCx X e).Ok:=⟨ok.mod,ok.kind,ok.glob,ok.blt,ok.above,ok.inj,ok.has,ok.cab,(fun z=>Bool.noConfusion (show false=true from z)),ok.frames,ok.stk,ok.exf,ok.bs,ok.bsz,ok.noex,ok.exfs,ok.funs,ok.frf⟩
theorem Inv.toEx (I:Inv X pins σ H s):Inv (exCx X e) pins σ H s:=⟨okEx I.ok,I.os,I.bare,I.base,I.loc,I.cell,I.free,I.freeC,I.pin,I.hok,I.len⟩
theorem Inv.ofEx (hk:X.Ok) (I:Inv (exCx X e) pins σ H s):Inv X pins σ H s:=⟨hk,I.os,I.bare,I.base,I.loc,I.cell,I.free,I.freeC,I.pin,I.hok,I.len⟩
theorem name_gone {M:Model} {A:Around} {n:Str} {i:Nat} {pos:Pos} {E:Value→Shared→Prop} {Q:Unit→Shared→Prop} (I:Inv X pins σ H s) (hN:X.N.Nodup) (hi:X.N[i]?=some n) (hl:X.env.kindOf n=some .local)
    (h:∀ s',Inv X pins (σ.set i none) H s'→Q () s'):wpAny M A (do bindName X.env n .none; unbindBehindTheSuite X.env n pos) Q E s:=by
  obtain ⟨m,hn,hm⟩:=id I.loc
  have hcls:(X.env.scope.kind == .class || (X.env.scope.kind == .module && X.env.locals != X.env.globals))=false:=by rw [I.ok.kind]; rfl
  have hiσ:i < σ.length:=by rw [I.len]; exact (List.getElem?_eq_some_iff.mp hi).1
  refine wpAny_nameGoes_keeps hl hn hcls fun h' v hn' hs=>h _ ?_
  have ab:∀ b o,X.s₀.heap.get? b=some o→b≠X.env.locals:=fun b o e=>Nat.ne_of_lt (Nat.lt_of_lt_of_le (Heap.lt_size e) I.ok.above)
  refine ⟨I.ok,I.os,I.bare,⟨fun b o e n hb hx=>(hs.2 b (ab b o e)).trans (I.base.keep b o e n hb hx),fun b o e n hb hx=>?_,I.base.free,fun b o e hx=>?_,I.base.tups,I.base.frzs,I.base.tbls⟩,⟨_,hn',fun j y v' e1 e2 e3=>?_⟩,fun y c e=>?_,I.free,I.freeC,fun p hp=>?_,fun b ob e=>?_,by simpa using I.len⟩
  · obtain ⟨sl,e1⟩:=I.base.slot b o e n hb hx
    exact ⟨sl,(hs.2 b (ab b o e)).trans e1⟩
  · obtain ⟨o',e1⟩:=I.base.there b o e hx
    exact ⟨o',(hs.2 b (ab b o e)).trans e1⟩
  · have hj:j≠i:=fun z=>by
      subst z
      rw [List.getElem?_set_self hiσ] at e2
      cases e2
    rw [List.getElem?_set_ne (Ne.symm hj)] at e2
    obtain ⟨u',r',q⟩:=hm j y v' e1 e2 e3
    refine ⟨u',r',?_⟩
    rcases q with ⟨k,e⟩ | ⟨k,c,e,z⟩
    · refine .inl ⟨k,?_⟩
      have:y≠n:=fun e=>hj (nodup_ix hN e1 (e ▸ hi))
      simp [this,e]
    · exact .inr ⟨k,c,e,z.sameBut hs (I.cne y c e)⟩
  · obtain ⟨w',z⟩:=I.cell y c e
    exact ⟨w',z.sameBut hs (I.cne y c e)⟩
  · obtain ⟨e,n,ne,nf,d⟩:=I.pin p hp
    exact ⟨(hs.2 p.1 ne).trans e,n,ne,nf,d⟩
  · refine (I.hok b ob e).stay (fun c w' hc q=>(hs.2 c ?_).trans q) (fun _ q=>q) fun _ _ q=>q
    rintro rfl
    rcases hc with rfl | hc
    · have:=I.free; rw [e] at this; cases this
    · have:=I.free; rw [hc] at this; cases this
end
structure Under (K:PySem.W.Frag) (D:Addr) (cls:Value):Prop where
  ex:∃ C,cls=.ref C∧PySem.W.subIn K (.ref C) (.ref D)=some true
theorem excMatches_own {M:Model} {A:Around} {E:Value→Shared→Prop} {K:PySem.W.Frag} {h:Heap} {g:Array GenState} {d:Drawn} {t:Nat} {os:OsState} {e C D:Addr} {oe:Obj} {x:Str} {mg:Str→Option Value} {Q:Bool→Shared→Prop}
    (X:K.In h) (O:OwnCls x D vBm "ValueError.__new__" mg h) (he:h.get? e=some oe) (hcls:oe.cls=.ref C) (hs:PySem.W.subIn K (.ref C) (.ref D)=some true)
    (hq:Q true ⟨h,g,d,t,os⟩):wpAny M A (excMatches (.ref e) (.ref D)) Q E ⟨h,g,d,t,os⟩:=by
  obtain ⟨_,bm,N,nm,q,bs,hdct,sn,sub,ab,col,dd,k0,k1,k2,k3,k5,mN,hC,hN,hni,T⟩:=O
  have hb:bm.contains (.type "BaseException")=true:=T.hasType (by decide)
  have hcB:(Value.ref D :: bm).contains (.type "BaseException")=true:=by rw [List.contains_cons,hb,Bool.or_true]
  have f:=tc_notTuple
  have L4:PySem.W.Looks M h (isSubtype (.ref C) (.ref D)) true:=PySem.W.looks_subIn X hs
  unfold excMatches
  repeat (first | (with_reducible refine wpAny_loadPart_at he ?_; rw [hcls]) | with_reducible refine wpAny_loadPart_at hC ?_ | (with_reducible refine wpAny_isSubtype_exc hC ?_; rw [hcB]) | (with_reducible refine L4.at ?_) | wp_step)
  exact hq
end L2
namespace L2
open PySem PySem.Spec PyProof.Rows
noncomputable def endsEx (i:Nat) (D:Ends):Ends:={ nx:=fun σ H=>D.nx (σ.set i none) H,rt:=D.rt,bk:=fun σ H=>D.bk (σ.set i none) H,ct:=fun σ H=>D.ct (σ.set i none) H }
noncomputable def rEx (K:PySem.W.Frag) (W:Addr) (i:Nat) (th:TS) (D:Ends):XR:=fun cls ea σ H=>Under K W cls∧∀ T',T'≠ea→H T'=none→th (endsEx i D) (σ.set i (some (.ref ea))) (xH H T' ea cls)
noncomputable def tTry (K:PySem.W.Frag) (W:Addr) (i:Nat) (tb:XR→TS) (th:TS):TS:=fun D σ H=>tb (rEx K W i th D) D σ H
theorem ps_try_as {X:Cx} {x n:Str} {i:Nat} {W:Addr} {body suite:List Stmt} {b₀:Stmt} {tb:XR→TS} {th:TS} {np hpos pos:Pos} (hb:∀ pins R,PSs (tryCx X pins R) body (tb R)) (hs:∀ e,PSs (exCx X e) (b₀ :: suite) th)
    (hg:Gl X x) (hm:X.mg x=some (.ref W)) (hq:PySem.W.excIn X.K W vBm "ValueError.__new__" = true) (hN:X.N.Nodup) (hi:X.N[i]?=some n) (hl:X.env.kindOf n=some .local) (hst:X.stack=X.env :: X.outer) (hf:X.env.frame=some X.env.locals)
    (hdb:(x == ("__debug__" : Str))=false:=by decide) :
    PS X (.Try body [.ExceptHandler (some (.Name x np)) (some n) (b₀ :: suite) hpos] [] [] pos) (tTry X.K W i tb th):=by
  intro pins s σ H D I h
  refine wpAny_Try_except (wpAny_mono (hb pins (rEx X.K W i th D) [] s σ H D I.toTry h) (fun f s1 q=>?_) fun e s1 q=>?_)
  · have q':=SP.ofTry q
    cases f with
    | next=>exact wpAny_execs_nil q'
    | brk=>exact q'
    | cont=>exact q'
    | ret u=>exact q'
  · obtain ⟨ea,T,cls,σ1,H1,rfl,hTe,I1,he,hT,⟨C,rfl,hsub⟩,q⟩:=q
    refine flown_looks I1 hst hf hTe he hT fun s2 T' I2 hT'e hT'n=>?_
    have he2:xH H1 T' ea (.ref C) ea=some (ExcO (.ref C) T' ea):=upd_same
    have hT2:xH H1 T' ea (.ref C) T'=some (TrO T'):=xH_T hT'e
    obtain ⟨oe,vs,a0,he3,hcls,hd3,_⟩:ExcAt (.ref C) T' ea s2.heap:=(I2.hok ea _ he2).1
    refine wpAny_handleBy_cons (codeAny_handlers_test (ld_glob (X:=exCx X ea) I2.toEx hg hm ?_ hdb)) (by intro z; cases z)
    refine excMatches_own (x:=x) (mg:=X.mg) I2.kIn (exc_cls I2.kIn hm hq) he3 hcls hsub ?_
    refine codeAny_handlers_suite_as ?_
    refine flight_none (X:=exCx X ea) I2.toEx he2 hT2 fun s3 I3=>?_
    refine store_ok (X:=exCx X ea) (i:=i) (v:=.ref ea) I3 hN hi (.inl hl) rfl (fun s4 I4=>?_) (.inr hl)
    refine wpAny_mono (hs ea pins s4 _ _ (endsEx i D) I4 (q T' hT'e hT'n)) (fun f s5 q5=>?_) fun _ _ z=>False.elim z
    cases f with
    | next =>
      obtain ⟨σ',H',J,q6⟩:=q5
      exact name_gone (J.ofEx I2.ok) hN hi hl fun s6 J6=>⟨_,_,J6,q6⟩
    | brk =>
      obtain ⟨σ',H',J,q6⟩:=q5
      exact name_gone (J.ofEx I2.ok) hN hi hl fun s6 J6=>⟨_,_,J6,q6⟩
    | cont =>
      obtain ⟨σ',H',J,q6⟩:=q5
      exact name_gone (J.ofEx I2.ok) hN hi hl fun s6 J6=>⟨_,_,J6,q6⟩
    | ret u =>
      obtain ⟨v,σ',H',J,r,q6⟩:=q5
      exact name_gone (J.ofEx I2.ok) hN hi hl fun s6 J6=>⟨v,_,_,J6,r,q6⟩
end L2
namespace L2
open PySem PySem.Spec PySem.Calls PyProof.Rows PySem.W Builtin.Getset_descriptor
section
variable {prog:Program} {w:World} {A:Around} {E:Value→Shared→Prop} {K:Frag} {x C D:Addr} {ox:Obj} {h:Heap} {g:Array GenState} {d:Drawn} {t:Nat} {os:OsState}
structure ObAt (h:Heap) (x:Addr) (ox:Obj) (D:Addr):Prop where
  at_:h.get? x=some ox
  cls:ox.cls=.ref D
theorem ObAt.type {M:Model} (I:ObAt h x ox D):Looks M h (typeOf (.ref x)) (.ref D):=I.cls ▸ (Looks.ld I.at_).andThen .now
theorem ob_class {R:Result→Shared→Prop} {tp:Value} (X:K.In h) (I:ObAt h x ox D) (hm:mroIn K D (.type "object")=some true)
    (hq:R (.ok (.ret (.ref D))) ⟨h,g,d,t,os⟩):codeAny (model prog w) A (.call (.builtin "getset_descriptor.__get__") ⟨[.builtin "object.__class__",.ref x,tp],[]⟩) R ⟨h,g,d,t,os⟩:=by
  have L0:=I.type (M:=model prog w)
  have L1:=looks_mroIn (M:=model prog w) X hm
  refine codeAny_call_builtin KF.slot_gs.plain KF.entry_gs (KF.slot_gs.check _ _ _ _ _ _ _ _ KF.type_class (KF.args_gs _ _ _) ?_)
  unfold Builtin.«getset_descriptor.__get__» descrGet
  rw [dga_obj]
  refine wpAny_bind (wpAny_pure ?_)
  unfold descrGetter descrCheckInstance descrNameAndClass isInstance
  simp only [KF.owner_class]
  repeat lk
  refine ⟨Code.quiet_builtin _ (by decide +kernel),codeAny_builtin KF.entry_class ?_⟩
  unfold Builtin.«object.__class__» shownTypeOf
  repeat lk
  exact hq
structure ExcK (K:Frag) (D:Addr):Prop where
  ga:findIn K (.ref D) "__getattribute__" = some (some (.builtin "BaseException.__getattribute__"))
  no:findIn K (.ref D) "__getattr__" = some none
  cl:findIn K (.ref D) "__class__" = some (some (.builtin "object.__class__"))
  bs:subIn K (.ref D) (.type "BaseException")=some true
  ob:mroIn K D (.type "object")=some true
  is:isClsIn K D=true
theorem exc_entry {tk:Tok} {Q:Fin→Shared→Prop} (X:K.In h) (k:ExcK K D) (I:ObAt h x ox D) (hq:Q (.done (.ret (.ref D))) ⟨h,g,d,t,os⟩) :
    wpAny (model prog w) A (Builtin.«object.__getattribute__» ⟨[.ref x,.str "__class__" tk],[]⟩) Q E ⟨h,g,d,t,os⟩:=by
  have hx:=I.at_
  have hc:=I.cls
  have L1:Looks (model prog w) h (typeLookup (.ref D) "__class__") (some (.builtin "object.__class__")):=looks_findIn X k.cl
  have f5:=PySem.W.KF.type_class
  have f6:=F.slot_gs_get.lookup
  have f7:=F.slot_gs_set.lookup
  have hT5:(⟨h,g,d,t,os⟩:Shared).TypeIs (.builtin "object.__class__") "getset_descriptor":=PySem.W.KF.type_class
  repeat (any_goals (first | assumption | (with_reducible refine wpAny_loadPart_at hx ?_; rw [hc]) | (with_reducible refine L1.at ?_) | wp_step))
  refine ob_class (ox:=ox) X I k.ob ?_
  repeat (any_goals (first | assumption | wp_step))
theorem exc_check {nameV:Value} {Q:Unit→Shared→Prop} (X:K.In h) (k:ExcK K D) (I:ObAt h x ox D) (hq:Q () ⟨h,g,d,t,os⟩):wpAny (model prog w) A (checkBuiltinCall "BaseException.__getattribute__" ⟨[.ref x,nameV],[]⟩) Q E ⟨h,g,d,t,os⟩:=by
  have hx:=I.at_
  have hc:=I.cls
  have hk:builtinKind "BaseException.__getattribute__" = some .slot:=by decide +kernel
  have hsplit:splitId "BaseException.__getattribute__" = some ("BaseException", "__getattribute__"):=by decide +kernel
  have L1:Looks (model prog w) h (isSubtype (.ref D) (.type "BaseException")) true:=looks_subIn X k.bs
  have ha:=F.args_bexc_ga (.ref x) nameV
  simp only [checkBuiltinCall,hk,hsplit]
  refine wpAny_bind ?_
  · unfold isInstance
    repeat (first | (with_reducible refine wpAny_loadPart_at hx ?_; rw [hc]) | (with_reducible refine L1.at ?_) | wp_step)
    exact hq
theorem exc_by {tk:Tok} {Q:Value→Shared→Prop} (X:K.In h) (k:ExcK K D) (I:ObAt h x ox D) (hq:Q (.ref D) ⟨h,g,d,t,os⟩):wpAny (model prog w) A (getAttrBy (.ref x) (.str "__class__" tk) false) Q E ⟨h,g,d,t,os⟩:=by
  have hx:=I.at_
  have hc:=I.cls
  have f3:=F.excAttr_ValueError.ga.bind (.ref x)
  have hx0:(false && onTheHeap (Value.builtin "BaseException.__getattribute__"))=false:=rfl
  have hx2:(Value.builtin "BaseException.__getattribute__" == Value.builtin "object.__getattribute__")=false:=by decide +kernel
  have hx1:(onTheHeap (Value.ref D) && Value.builtin "BaseException.__getattribute__" == Value.builtin "object.__getattribute__")=false:=by rw [hx2]; rfl
  have L1:Looks (model prog w) h (typeLookup (.ref D) "__getattribute__") (some (.builtin "BaseException.__getattribute__")):=looks_findIn X k.ga
  have L2:Looks (model prog w) h (typeLookup (.ref D) "__getattr__") none:=looks_findIn X k.no
  repeat (any_goals (first | assumption | (with_reducible refine wpAny_loadPart_at hx ?_; rw [hc]) | (with_reducible refine L1.at ?_) | (with_reducible refine L2.at ?_) | wp_step))
  refine codeAny_call_builtin F.excAttr_ValueError.ga.plain F.entry_bexc_ga (exc_check X k I (exc_entry X k I ?_))
  repeat (any_goals (first | assumption | wp_step))
theorem exc_attr {Q:Option Value→Shared→Prop} (X:K.In h) (k:ExcK K D) (I:ObAt h x ox D) (hq:Q (some (.ref D)) ⟨h,g,d,t+1,os⟩):wpAny (model prog w) A (getAttr? (.ref x) "__class__") Q E ⟨h,g,d,t,os⟩:=by
  unfold getAttr? getAttrBy?
  refine wpAny_bind (wpAny_mkText (wpAny_bind (wpAny_attempt (exc_by X k I ?_))))
  exact wpAny_pure hq
theorem excn_nested {s:Shared} {c:Value} {dep:Int} {tk:Tok} {Q:Fin→Shared→Prop} (X:K.In s.heap) (k:ExcK K D) (I:ObAt s.heap x ox D) (hty:Looks (model prog w) s.heap (typeOf c) (.type "type")) (his:Looks (model prog w) s.heap (isType c) true)
    (hne:(Value.ref D == c)=false) (hsub:Looks (model prog w) s.heap (isSubtype (.ref D) c) false) (h:Q (.done (.ret (.bool false))) { s with toks:=s.toks+1 }) :
    wpAny (model prog w) A (Builtin.«isinstance.nested» ⟨[.ref x,c,.int dep tk],[]⟩) Q E s:=by
  have hisD:Looks (model prog w) s.heap (isType (.ref D)) true:=by
    have hcD:=k.is
    unfold isClsIn clsIn at hcD
    split at hcD
    · rename_i ho
      intro A' Q' E' s' kk q
      unfold isType loadHead
      exact wpAny_bind (wpAny_loadPart (kk _ _ (X _ _ ho)) (wpAny_pure q))
    · cases hcD
  obtain ⟨h0,g,d,tt,os⟩:=s
  have L0:=I.type (M:=model prog w)
  have LI:Looks (model prog w) h0 (isInstance (.ref x) c) false:=L0.andThen hsub
  unfold Builtin.«isinstance.nested»
  refine wpAny_bind (L0.at ?_)
  rw [if_neg (fun q=>by rw [hne] at q; exact Bool.noConfusion q)]
  refine wpAny_bind (hty.at ?_)
  rw [if_pos (by decide)]
  k_delta "plainIsInstance"
  refine wpAny_bind (wpAny_bind (his.at ?_))
  simp only [Bool.not_true,Bool.false_eq_true,if_false]
  refine wpAny_bind (LI.at ?_)
  simp only [Bool.false_eq_true,if_false]
  refine wpAny_bind (exc_attr X k I ?_)
  refine wpAny_bind (hisD.at ?_)
  simp only [Bool.not_true,Bool.false_eq_true,if_false]
  refine wpAny_bind (wpAny_rule ?_)
  refine hsub.at ?_
  first
    | exact wpAny_pure h
    | exact wpAny_pure (wpAny_pure h)
    | exact wpAny_bind (wpAny_pure (wpAny_pure h))
theorem excn_call {s:Shared} {Q:Value→Shared→Prop} (X:K.In s.heap) (k:ExcK K D) (I:ObAt s.heap x ox D) (e:kin_not K D C=true) (h:Q (.bool false) { s with toks:=s.toks+1 }) :
    wpAny (model prog w) A (call (.builtin "isinstance") [.ref x,.ref C]) Q E s:=by
  unfold kin_not at e
  rw [Bool.and_eq_true,Bool.and_eq_true,Bool.and_eq_true] at e
  obtain ⟨⟨⟨e0,e1⟩,e2⟩,e3⟩:=e
  refine call_isinstance (S:=fun _ R s=>(K.In s.heap∧ObAt s.heap x ox D)∧R (.ok (.ret (.bool false))) { s with toks:=s.toks+1 })
    (fun _ _ _ _ _ hs=>isinstance_outer (excn_nested hs.1.1 k hs.1.2 (looks_typeIn hs.1.1 (beq_iff_eq.mp e2)) ?_ ?_ (looks_subIn hs.1.1 (beq_iff_eq.mp e3)) hs.2) (by intro q; cases q)) ⟨⟨X,I⟩,h⟩
  · have X':=hs.1.1
    unfold clsIn at e1
    split at e1
    · rename_i ho
      intro A' Q' E' s' kk q
      unfold isType loadHead
      exact wpAny_bind (wpAny_loadPart (kk _ _ (X' _ _ ho)) (wpAny_pure q))
    · cases e1
  · exact Bool.eq_false_iff.mpr fun q=>of_decide_eq_true e0 (Value.ref.inj (beq_iff_eq.mp q))
theorem exct_nested {s:Shared} {T:String} {dep:Int} {tk:Tok} {Q:Fin→Shared→Prop} (X:K.In s.heap) (I:ObAt s.heap x ox D) (hty:typeOf (.type T)=pure (.type "type")) (hs:subIn K (.ref D) (.type T)=some true)
    (h:Q (.done (.ret (.bool true))) s):wpAny (model prog w) A (Builtin.«isinstance.nested» ⟨[.ref x,.type T,.int dep tk],[]⟩) Q E s:=by
  obtain ⟨h0,g,d,tt,os⟩:=s
  have L0:=I.type (M:=model prog w)
  have hsub:Looks (model prog w) h0 (isSubtype (.ref D) (.type T)) true:=looks_subIn X hs
  have LI:Looks (model prog w) h0 (isInstance (.ref x) (.type T)) true:=L0.andThen hsub
  have hty':Looks (model prog w) h0 (typeOf (.type T)) (.type "type"):=Looks.of_pure hty
  have his:Looks (model prog w) h0 (isType (.type T)) true:=Looks.of_pure rfl
  unfold Builtin.«isinstance.nested»
  refine wpAny_bind (L0.at ?_)
  rw [if_neg (fun q=>by cases beq_iff_eq.mp q)]
  refine wpAny_bind (hty'.at ?_)
  rw [if_pos (by decide)]
  k_delta "plainIsInstance"
  refine wpAny_bind (wpAny_bind (his.at ?_))
  simp only [Bool.not_true,Bool.false_eq_true,if_false]
  refine wpAny_bind (LI.at ?_)
  simp only [if_true]
  first
    | exact wpAny_pure h
    | exact wpAny_pure (wpAny_pure h)
    | exact wpAny_bind (wpAny_pure (wpAny_pure h))
theorem exct_call {s:Shared} {T:String} {Q:Value→Shared→Prop} (X:K.In s.heap) (I:ObAt s.heap x ox D) (hty:typeOf (.type T)=pure (.type "type")) (e:subIn K (.ref D) (.type T)=some true) (h:Q (.bool true) s) :
    wpAny (model prog w) A (call (.builtin "isinstance") [.ref x,.type T]) Q E s :=
  call_isinstance (S:=fun _ R s=>(K.In s.heap∧ObAt s.heap x ox D)∧R (.ok (.ret (.bool true))) s)
    (fun _ _ _ _ _ hs=>isinstance_outer (exct_nested hs.1.1 hs.1.2 hty e hs.2) (by intro q; cases q)) ⟨⟨X,I⟩,h⟩
end
theorem kin_not_of {K:Frag} {D C:Addr} (hn:D≠C) (hc:isClsIn K C=true) (ht:typeIn K (.ref C)=some (.type "type")) (hs:subIn K (.ref D) (.ref C)=some false):kin_not K D C=true:=by
  unfold kin_not
  unfold isClsIn at hc
  rw [decide_eq_true hn,hc,ht,hs]
  rfl
noncomputable def IsX (K:Frag) (D:Addr) (c:V) (b:Bool):Prop:=(∃ C,c=.ref C∧((b=true∧isIn K (.ref D) C=true)∨(b=false∧ExcK K D∧kin_not K D C=true)))∨(∃ T,c=.ty T∧b=true∧typeOf (.type T)=pure (.type "type")∧subIn K (.ref D) (.type T)=some true)
noncomputable def rIsX (K:Frag):List V→Hp→VK→Prop:=fun xs H Q=>∃ e T D c b,xs=[.ref e,c]∧H e=some (ExcO (.ref D) T e)∧IsX K D c b∧Q (.bl b) H
theorem call_isinstX {X:Cx}:CallR X (.builtin "isinstance") (rIsX X.K):=by
  intro pins s σ H xs us Q I r h
  obtain ⟨e,T,D,c,b,rfl,he,k,q⟩:=h
  obtain ⟨u,v,rfl,ru,rv⟩:=vals2 r
  cases ru
  obtain ⟨oe,vs,a0,h1,h2,_⟩:ExcAt (.ref D) T e s.heap:=(I.hok e _ he).1
  have O:ObAt s.heap e oe D:=⟨h1,h2⟩
  rcases k with ⟨C,rfl,⟨rfl,k⟩ | ⟨rfl,k1,k2⟩⟩ | ⟨Ty,rfl,rfl,k1,k2⟩
  · cases rv
    exact isi_call I.kIn (fun M=>O.type) k (fun z=>nomatch z) ⟨.bl true,H,I,rfl,q⟩
  · cases rv
    exact excn_call I.kIn k1 O k2 ⟨.bl false,H,I.tok _,rfl,q⟩
  · cases rv
    exact exct_call I.kIn O k1 k2 ⟨.bl true,H,I,rfl,q⟩
end L2
namespace L2
open PySem PySem.Spec PyProof.Rows
noncomputable def outX (E:XK):XK:=fun cls o H'=>∀ e,o=some e→∀ T',H' T'=none→E cls o (xH H' T' e cls)
theorem passesO {P:Program} {w:World} {K:PySem.W.Frag} {mg:Str→Option Value} {base:Heap} {N:List Str} {qual:Str} {scope:Scope} {f:Addr} {cd:Value} {A:Around} {outer:List Env} {s0:Shared} {H0:Hp} {E:XK} :
    PassesS (CX1 P w) (cxOf (CX1 P w) P w K mg base N qual scope f cd A outer s0 H0 E) fun _=>outX E:=(passes1 (outX E) fun cls e T H' _ h T' n=>h e rfl T' n).s
noncomputable def Thrown (C:Addr) (H:Hp) (E:XK):Prop:=∀ (e T:Addr) (H':Hp),Same H H'→H e=none→H' e=some (ExcO (.ref C) T e)→E (.ref C) (some e) H'
theorem same_xH {H H1:Hp} {T e:Addr} {cls:Value} (s:Same H H1) (he:H e=none) (hT:H1 T=none):Same H (xH H1 T e cls):=fun b o h=>by
  have hbe:b≠e:=fun z=>by subst z; rw [he] at h; cases h
  have hbT:b≠T:=fun z=>by subst z; rw [s _ _ h] at hT; cases hT
  show upd (upd H1 T (TrO T)) e (ExcO cls T e) b=some o
  rw [upd_ne hbe,upd_ne hbT]; exact s b o h
section
variable {C:Addr} {H H1:Hp} {E:XK}
theorem Thrown.up (h:Thrown C H E) (s:Same H H1):Thrown C H1 E:=fun e T H' s' he hx=>h e T H' (s.trans s') (s.free he) hx
theorem Thrown.made (h:Thrown C H E) {e T:Addr} (he:H e=none) (hT:H T=none):E (.ref C) (some e) (xH H T e (.ref C)):=h e T _ (same_xH (Same.refl H) he hT) he upd_same
theorem Thrown.out (h:Thrown C H E):Thrown C H (outX E):=fun e T H' s he hx e' z T' n=>by
  cases z
  exact h e T' _ (same_xH s he n) he upd_same
theorem thrown_try {R:XR} {σ:St} (h:∀ (e T:Addr) (H':Hp),Same H H'→H e=none→H' e=some (ExcO (.ref C) T e)→R (.ref C) e σ H'):Thrown C H (fun cls o H'=>∀ e,o=some e→R cls e σ H'):=fun e T H' s he hx e' z=>by
  cases z
  exact h e T H' s he hx
end
structure Fn1 (P:Program) (w:World) (K:PySem.W.Frag) (mg:Str→Option Value) (base:Heap) (f:Addr) (k:Nat) (ps:List Str) (sp:Sp):Prop where
  ex:∃ (fd:FuncData),FnOk P w K mg base (CX1 P w) k f fd ps sp∧Binds K fd ps []∧PySem.W.keepIn K (.ref f)=true
noncomputable abbrev eTry (R:XR):St→XK:=fun σ cls o H'=>∀ e,o=some e→R cls e σ H'
theorem passesN {X:Cx}:PassesS (CX1 X.prog X.w) X fun _ _ _ _=>False:=fun _ _ _ _ _ _ _ h=>by
  obtain ⟨_,_,_,_,_,_,_,_,_,_,_,_,q⟩:=h
  exact q.elim
end L2
namespace L2
open PySem PySem.Spec PyProof.Rows
noncomputable def FunO (f:Addr) (fd:FuncData):HO:=.ext fun h=>h.get? f=some { cls:=.type "function",data:=.func fd }
noncomputable def CodO (c:Addr) (q:Str):HO:=.ext fun h=>h.CodeRec (.ref c) q
theorem funO_ok {P:Program} {w:World} {H:Hp} {h:Heap} {f:Addr} {fd:FuncData} (x:h.get? f=some { cls:=.type "function",data:=.func fd }):ObjOk P w H h f (FunO f fd):=⟨x,⟨_,x⟩,fun _ _ p k=>k _ p⟩
theorem codO_ok {P:Program} {w:World} {H:Hp} {h:Heap} {c:Addr} {q:Str} (x:h.CodeRec (.ref c) q):ObjOk P w H h c (CodO c q):=by
  obtain ⟨c',o,vs,t,e,r⟩:=x
  cases e
  refine ⟨⟨c,o,vs,t,rfl,r⟩,⟨o,r.1⟩,fun h1 h2 p k=>?_⟩
  obtain ⟨c',o,vs,t,e,r1,r2⟩:=p
  cases e
  exact ⟨c,o,vs,t,rfl,k _ r1,r2⟩
noncomputable abbrev FzC (c:Addr) (o:Obj):HO:=.frz o (.own c)
noncomputable def del (H:Hp) (c:Addr):Hp:=fun b=>if b=c then none else H b
theorem del_same {H:Hp} {c:Addr}:del H c c=none:=if_pos rfl
theorem del_ne {H:Hp} {c b:Addr} (h:b≠c):del H c b=H b:=if_neg h
theorem del_upd {H:Hp} {c:Addr} {o:HO} (h:H c=none):del (upd H c o) c=H:=by
  funext b
  by_cases e:b=c
  · subst e; rw [del_same,h]
  · rw [del_ne e,upd_ne e]
section
variable {P:Program} {w:World} {H H':Hp} {h h':Heap} {c:Addr} {o:Obj} {fs:List Addr}
theorem HOk.thw (x:HOk P w H h) (e:H c=some (FzC c o)):HOk P w (del H c) h:=fun b u q=>by
  have hb:b≠c:=fun z=>by subst z; rw [del_same] at q; cases q
  rw [del_ne hb] at q
  refine (x b u q).stay (fun _ _ _ z=>z) (fun d z=>?_) fun d xs z=>?_
  · rw [del_ne (fun y=>by subst y; rw [e] at z; cases z)]; exact z
  · rw [del_ne (fun y=>by subst y; rw [e] at z; cases z)]; exact z
theorem HOk.fzc (x:HOk P w H h) (e:H c=none) (ho:h.get? c=some o):HOk P w (upd H c (FzC c o)) h:=fun b u q=>by
  by_cases hb:b=c
  · subst hb
    rw [upd_same] at q; cases q
    exact ⟨ho,o,ho⟩
  · rw [upd_ne hb] at q
    exact (x b u q).stay (fun _ _ _ z=>z) (fun d z=>by rw [upd_ne (ne_of_none z e)]; exact z) fun d xs z=>by rw [upd_ne (ne_of_none z e)]; exact z
theorem Un.thaw (u:Un fs [] (upd H c (FzC c o)) H' h h') (hc:H c=none) (ho:h.get? c=some o) (ho':h'.get? c=some o):Un fs [] H (L2.del H' c) h h' where
  keep:=fun b ob q n hb hx=>by
    by_cases e:b=c
    · subst e; rw [ho] at q; cases q; exact ho'
    · exact u.keep b ob q (by rw [upd_ne e]; exact n) hb hx
  slot:=fun b ob q n hb hx=>by
    by_cases e:b=c
    · subst e; rw [ho] at q; cases q; exact ⟨o.slots,ho'⟩
    · exact u.slot b ob q (by rw [upd_ne e]; exact n) hb hx
  free:=fun b ob q n hx=>by
    by_cases e:b=c
    · subst e; exact del_same
    · rw [del_ne e]; exact u.free b ob q (by rw [upd_ne e]; exact n) hx
  there:=u.there
  tups:=fun b xs q=>by
    have e:b≠c:=ne_of_none q hc
    rw [del_ne e]; exact u.tups b xs (by rw [upd_ne e]; exact q)
  frzs:=fun b ob xs q=>by
    have e:b≠c:=ne_of_none q hc
    rw [del_ne e]; exact u.frzs b ob xs (by rw [upd_ne e]; exact q)
  tbls:=fun b ps q=>by
    have e:b≠c:=ne_of_none q hc
    rw [del_ne e]; exact u.tbls b ps (by rw [upd_ne e]; exact q)
theorem Un.froze (u:Un fs [] (L2.del H c) H' h h') (hc:H c=some (FzC c o)):Un fs [] H (upd H' c (FzC c o)) h h':=by
  have ne:∀ b,H b=none→b≠c:=fun b n z=>by subst z; rw [hc] at n; cases n
  refine ⟨fun b ob q n hb hx=>u.keep b ob q (by rw [del_ne (ne b n)]; exact n) hb hx,fun b ob q n hb hx=>u.slot b ob q (by rw [del_ne (ne b n)]; exact n) hb hx,fun b ob q n hx=>?_,u.there,fun b xs q=>?_,fun b ob xs q=>?_,fun b ps q=>?_⟩
  · rw [upd_ne (ne b n)]; exact u.free b ob q (by rw [del_ne (ne b n)]; exact n) hx
  · have e:b≠c:=fun z=>by subst z; rw [hc] at q; cases q
    rw [upd_ne e]; exact u.tups b xs (by rw [del_ne e]; exact q)
  · by_cases e:b=c
    · subst e; rw [hc] at q; cases q; exact upd_same
    · rw [upd_ne e]; exact u.frzs b ob xs (by rw [del_ne e]; exact q)
  · have e:b≠c:=fun z=>by subst z; rw [hc] at q; cases q
    rw [upd_ne e]; exact u.tbls b ps (by rw [del_ne e]; exact q)
variable {outer:List Env} {s s':Shared} {Q:VK} {u:Value} {E:XK} {e:Value}
theorem CE.thaw (hc:H c=none) (ho:s.heap.get? c=some o) (x:CE outer P w (upd H c (FzC c o)) s (fun v H'=>H' c=some (FzC c o)→Q v (L2.del H' c)) u s'):CE outer P w H s Q u s':=by
  obtain ⟨v,H',os,bare,un,hok,r,q⟩:=x
  have e1:H' c=some (FzC c o):=un.frzs c o _ upd_same
  exact ⟨v,L2.del H' c,os,bare,un.thaw hc ho (hok c _ e1).1,hok.thw e1,r,q e1⟩
theorem CE.froze (hc:H c=some (FzC c o)) (ho:s.heap.get? c=some o) (hf:c ∉ frs outer) (x:CE outer P w (L2.del H c) s (fun v H'=>H' c=none→Q v (upd H' c (FzC c o))) u s'):CE outer P w H s Q u s':=by
  obtain ⟨v,H',os,bare,un,hok,r,q⟩:=x
  have e1:s'.heap.get? c=some o:=un.keep c o ho del_same hf (by simp)
  have e2:H' c=none:=un.free c o ho del_same (by simp)
  exact ⟨v,_,os,bare,un.froze hc,hok.fzc e2 e1,r,q e2⟩
theorem CX1.froze (hc:H c=some (FzC c o)) (ho:s.heap.get? c=some o) (hf:c ∉ frs outer) (x:CX1 P w outer (L2.del H c) s (fun cls z H'=>H' c=none→E cls z (upd H' c (FzC c o))) e s'):CX1 P w outer H s E e s':=by
  obtain ⟨ea,T,cls,H',rfl,hTe,os,bare,un,ok,he,hT,q⟩:=x
  have e1:s'.heap.get? c=some o:=un.keep c o ho del_same hf (by simp)
  have e2:H' c=none:=un.free c o ho del_same (by simp)
  exact ⟨ea,T,cls,_,rfl,hTe,os,bare,un.froze hc,ok.fzc e2 e1,by rw [upd_ne (ne_of_none he e2)]; exact he,by rw [upd_ne (ne_of_none hT e2)]; exact hT,q e2⟩
end
noncomputable def cxLam (P:Program) (w:World) (K:PySem.W.Frag) (mg:Str→Option Value) (base:Heap) (N:List Str) (qual:Str) (scope:Scope) (f:Addr) (cd:Value) (cl:List (Str × Addr)) (A:Around) (outer:List Env) (s:Shared) (H:Hp) (E:XK):Cx where
  prog:=P
  w:=w
  K:=K
  mg:=mg
  base:=base
  A:=A.deeper (PySem.W.envX qual scope s.heap.objs.size f cd cl)
  N:=N
  s₀:=s
  H₀:=H
  env:=PySem.W.envX qual scope s.heap.objs.size f cd cl
  outer:=outer
  stack:=PySem.W.envX qual scope s.heap.objs.size f cd cl :: outer
  ex:=[]
  calm:=true
  fn:=fun _=>false
  pn:=[]
  xe:=fun e s'=>wpAny (model P w) (A.deeper (PySem.W.envX qual scope s.heap.objs.size f cd cl)) (leaving (PySem.W.envX qual scope s.heap.objs.size f cd cl) e) (fun _ s''=>CX1 P w outer H s E e s'') (fun e' s''=>CX1 P w outer H s E e' s'') s'
section
variable {P:Program} {w:World} {K:PySem.W.Frag} {mg:Str→Option Value} {base:Heap} {N:List Str} {qual:Str} {scope:Scope} {f:Addr} {cd:Value} {cl:List (Str × Addr)} {A:Around} {outer:List Env} {s0:Shared} {H0:Hp} {E:XK}
theorem passesL:PassesS (CX1 P w) (cxLam P w K mg base N qual scope f cd cl A outer s0 H0 E) fun _=>outX E:=by
  intro pins σ H s e s' I h
  obtain ⟨ea,T,cls,H',rfl,hTe,os,bare,un,ok,he,hT,q⟩:=h
  have J:Inv (cxLam P w K mg base N qual scope f cd cl A outer s0 H0 E) pins σ H' s':=I.call' (ch:=[]) os un ok bare fun b z=>absurd z (by simp)
  have a1:ExcAt cls T ea s'.heap:=(ok ea _ he).1
  have a2:TrAt T s'.heap:=(ok T _ hT).1
  refine leave_next (s:=s') (L:=s0.heap.objs.size) J.ok.frames J.stack rfl a1 a2 hTe fun h1 h' T' k1 k2 x=>?_
  have kn:∀ b,h1.get? b=none→s'.heap.get? b=none:=fun b q=>by
    by_cases hb:b=T
    · subst hb
      obtain ⟨oT,_,z,_⟩:=k2
      rw [z] at q; cases q
    · rw [← k1 b hb]; exact q
  obtain ⟨u,ok'⟩:=x.un (P:=P) (w:=w) (T0:=T) (H:=H') (h0:=s'.heap) J.hok J.stkFree (fun b o q hb=>by rw [k1 b hb]; exact q) kn (fun o _=>⟨T,he⟩) (.inr ⟨hT,k2⟩)
  exact ⟨ea,T',cls,_,rfl,x.ne,J.os,J.bare,J.out rfl u,ok',upd_same,xH_T x.ne,q ea rfl T' (J.hok.new (kn T' x.new))⟩
end
noncomputable def spLam (f:Addr) (fd:FuncData) (c':Addr) (qual:Str) (c:Addr) (sp:V→V→Hp→VK→XK→Prop):Sp:=fun vs H Q E=>∃ (x v:V) (o:Obj) (u:Value),vs=[x]∧H f=some (FunO f fd)∧H c'=some (CodO c' qual)∧H c=some (FzC c o)∧o.data=.cell (some u)∧RelV v u ∧
  sp x v (del H c) (fun r H'=>H' c=none→Q r (upd H' c (FzC c o))) (fun cls z H'=>H' c=none→E cls z (upd H' c (FzC c o)))
theorem lam_fn {P:Program} {w:World} {K:PySem.W.Frag} {mg:Str→Option Value} {base:Heap} {k:Nat} {name qual pa y:Str} {params:Arguments} {body:Expr} {scope:Scope} {pm ctv:Value} {f c c':Addr} {sp:V→V→Hp→VK→XK→Prop}
    (hk:scope.kind=.function) (hco:scope.isCoroutine=false) (hgen:scope.isGenerator=false) (hcell:∀ x∈scope.names,x.2≠.cell) (hpa:scope.names.lookup pa=some .local) (hy:scope.names.lookup y=some .free) (hfr:∀ p∈scope.names,p.2=.free→p.1=y)
    (hbody:∀ (A:Around) (outer:List Env) (s:Shared) (H:Hp) (x v:V) (Q:VK) (E:XK),Room k (A.deeper (PySem.W.envX qual scope s.heap.objs.size f (.ref c') [(y,c)]))→sp x v H Q E →
      ∃ t,PE (cxLam P w K mg base [pa,y] qual scope f (.ref c') [(y,c)] A outer s H E) body t∧t [some x,some v] H Q) :
    FnOk P w K mg base (CX1 P w) (k+1) f (PySem.W.kla_fn name qual params body scope [(y,c)] pm (.ref c') ctv) [pa] (spLam f (PySem.W.kla_fn name qual params body scope [(y,c)] pm (.ref c') ctv) c' qual c sp):=by
  refine ⟨fun vs H Q E h=>?_,fun A outer s H args us vs Q E hr e0 hb r hsp=>?_⟩
  · obtain ⟨x,v,o,u,rfl,_⟩:=h
    rfl
  obtain ⟨x,v,o,u,rfl,hf,hc',hc,hd,rv,hsp⟩:=hsp
  have ho:s.heap.get? f=some { cls:=.type "function",data:=.func (PySem.W.kla_fn name qual params body scope [(y,c)] pm (.ref c') ctv) }:=(e0.hok f _ hf).1
  have hcd:s.heap.CodeRec (.ref c') qual:=(e0.hok c' _ hc').1
  have hcc:s.heap.get? c=some o:=(e0.hok c _ hc).1
  have hnf:c ∉ frs outer:=fun z=>by have:=e0.frf c z; rw [hc] at this; cases this
  have KX:K.In s.heap:=e0.mod.kin.keeps fun b o e=>(e0.bs b o e).1
  have lim:s.heap.NoLimit:=e0.mod.nolimit.keeps fun b o e=>(e0.bs b o e).1
  obtain ⟨u0,rfl,ru0⟩:=vals1 r
  refine PySem.W.kla_callFunE hr.depth ho rfl hco hgen rfl hcd (hb _ _ _ _ ?_)
  have ez:([pa]:List Str).zip [u0]=[(pa,u0)]:=rfl
  rw [ez]
  refine wpAny_newFunctionEnv hcell (fun y hy=>by rw [List.mem_singleton.mp hy]; exact hpa) (fun h₁ hns hsb=>?_) hk
  have hk₁:∀ b o,s.heap.get? b=some o→h₁.get? b=some o:=fun b o e=>hsb.extBut b o (Nat.ne_of_lt (Heap.lt_size e)) (Heap.get?_push_of_some _ e)
  refine ⟨lim.keeps hk₁,?_⟩
  show codeAny _ _ (.expr body (PySem.W.envX qual scope s.heap.objs.size f (.ref c') [(y,c)])) _ _
  obtain ⟨t,ht,hq⟩:=hbody A outer s (del H c) x v _ _ (hr.deeper _) hsp
  have lk:∀ z d,([(y,c)]:List (Str × Addr)).lookup z=some d→z=y∧d=c:=fun z d e=>by
    rw [List.lookup_cons] at e
    by_cases q:z == y
    · rw [q] at e; exact ⟨eq_of_beq q,(Option.some.inj e).symm⟩
    · rw [Bool.eq_false_iff.mpr q] at e; cases e
  have lky:([(y,c)]:List (Str × Addr)).lookup y=some c:=by rw [List.lookup_cons]; simp
  have noA:∀ b:Addr,b ∉ ([]:List Addr):=fun b z=>by cases z
  have I:Inv (cxLam P w K mg base [pa,y] qual scope f (.ref c') [(y,c)] A outer s (del H c) (fun cls z H'=>H' c=none→E cls z (upd H' c (FzC c o)))) [] [some x,some v] (del H c) { s with heap:=h₁,toks:=s.toks + [(pa,u0)].length }:=by
    refine ⟨⟨e0.mod,hk,rfl,rfl,Nat.le_refl _,fun z1 z2 d h1 h2=>?_,fun z hz=>?_,(fun z d e _=>by cases e),fun _=>hr.hd,Around.frames_deeper e0.frames,.inr ⟨rfl,rfl⟩,fun b z=>absurd z (noA b),fun b ob e=>?_,e0.bsz,fun b _ _=>noA b,fun b z=>absurd z (noA b),e0.funs,fun b z=>?_⟩,
      rfl,e0.bare,Un.kept hk₁,⟨_,hns,fun i z v' h1 h2 h3=>?_⟩,fun z d e=>?_,?_,fun z d e=>?_,fun p hp=>absurd (show p∈([]:List (Addr × Obj)) from hp) (by simp),(e0.hok.thw hc).kept hk₁,rfl⟩
    · exact (lk z1 d h1).1.trans (lk z2 d h2).1.symm
    · have hz:scope.names.lookup z=some .cell∨scope.names.lookup z=some .free:=hz
      rcases hz with hz | hz
      · exact absurd rfl (hcell _ (PySem.mem_of_lookup hz))
      · rw [show z=y from hfr _ (PySem.mem_of_lookup hz) rfl]; exact ⟨c,lky⟩
    · have q:=e0.bs b ob e
      refine ⟨q.1,?_⟩
      show del H c b=none
      by_cases hbc:b=c
      · subst hbc; exact del_same
      · rw [del_ne hbc]; exact q.2
    · show del H c b=none
      by_cases hbc:b=c
      · subst hbc; exact del_same
      · rw [del_ne hbc]; exact e0.frf b z
    · match i,h1,h2 with
      | 0,h1,h2 =>
        have e1:pa=z:=Option.some.inj h1
        have e2:x=v':=Option.some.inj (Option.some.inj h2)
        subst e1 e2
        refine ⟨u0,ru0,.inl ⟨hpa,?_⟩⟩
        show ([(pa,u0)]:List (Str × Value)).reverse.lookup pa=some u0
        rw [List.reverse_singleton,List.lookup_cons]; simp
      | 1,h1,h2 =>
        have e1:y=z:=Option.some.inj h1
        have e2:v=v':=Option.some.inj (Option.some.inj h2)
        subst e1 e2
        exact ⟨u,rv,.inr ⟨.inr hy,c,lky,o,hk₁ c o hcc,hd⟩⟩
      | i+2,h1,h2=>cases h1
    · obtain ⟨rfl,rfl⟩:=lk z d e
      exact ⟨some u,o,hk₁ _ o hcc,hd⟩
    · show del H c s.heap.objs.size=none
      by_cases hbc:s.heap.objs.size=c
      · rw [hbc]; exact del_same
      · rw [del_ne hbc]; exact e0.hok.fresh (Nat.le_refl _)
    · obtain ⟨rfl,rfl⟩:=lk z d e
      exact del_same
  refine PySem.W.kla_codeExpr (wpAny_mono (ht [] _ _ _ _ I hq) (fun r s' hs=>?_) fun e s' hs=>?_)
  · obtain ⟨v',H',J,rv',q⟩:=hs
    exact CE.froze hc hcc hnf ⟨v',H',J.os,J.bare,J.base,J.hok,rv',q⟩
  · exact wpAny_mono hs (fun _ s'' z=>CX1.froze hc hcc hnf z) fun e' s'' z=>CX1.froze hc hcc hnf z
theorem Thrown.fz {C c:Addr} {H:Hp} {E:XK} {Z:HO} (hc:H c=none) (h:Thrown C (upd H c Z) E):Thrown C H (fun cls z H'=>H' c=none→E cls z (upd H' c Z)):=fun e T H' s he hx hn=>by
  have hec:e≠c:=ne_of_none hx hn
  refine h e T _ (fun b o q=>?_) (by rw [upd_ne hec]; exact he) (by rw [upd_ne hec]; exact hx)
  by_cases hb:b=c
  · subst hb
    rw [upd_same] at q ⊢; exact q
  · rw [upd_ne hb] at q ⊢; exact s b o q
theorem same_del {c:Addr} {H H':Hp} {Z:HO} (hc:H c=none) (s:Same (upd H c Z) H'):Same H (del H' c):=fun b o q=>by
  have hb:b≠c:=ne_of_none q hc
  rw [del_ne hb]
  exact s b o (by rw [upd_ne hb]; exact q)
noncomputable def tCallL (P:Program) (w:World) (K:PySem.W.Frag) (mg:Str→Option Value) (base:Heap) (n i:Nat) (E:St→XK) (t:TA):TE:=fun σ H Q=>∃ (f:Addr) (k:Nat) (ps:List Str) (sp:Sp) (fd:FuncData),σ[i]?=some (some (.ref f))∧FnOk P w K mg base (CX1 P w) k f fd ps sp∧Binds K fd ps []∧k≤n∧H f=some (FunO f fd) ∧
  t σ H fun vs H1=>H1 f=some (FunO f fd)∧sp vs H1 Q (E σ)
theorem pe_calL {X:Cx} {x:Str} {n i:Nat} {E:St→XK} {e:Expr} {es:List Expr} {t:TA} {p pos:Pos} (hr:Room n X.A) (hv:PE X (.Name x p) (tVar i)) (hx:PassesS (CX1 X.prog X.w) X E) (ha:PA X (e :: es) t)
    (he:starEach (e :: es) X.env=(false,eval e X.env) :: starEach es X.env:=by rfl) (hpl:(backTo pos (starEach es X.env)).any (·.1)=false:=by rfl) :
    PE X (.Call (.Name x p) (e :: es) [] pos) (tCallL X.prog X.w X.K X.mg X.base n i E t):=by
  intro pins s σ H Q I h
  obtain ⟨f,k,ps,sp,fd,hσ,F,b,hk,hf,h⟩:=h
  refine wpAny_Call_Name_kw (thn (hv pins s σ H (fun v H'=>v=.ref f∧H'=H) I ⟨_,hσ,rfl,rfl⟩) fun u s0 ⟨v,H0,I0,r0,e1,e2⟩=>?_)
  subst e1 e2
  cases r0
  have at_:∀ {H:Hp} {s:Shared},Inv X pins σ H s→H f=some (FunO f fd)→PySem.W.FnAt f s.heap:=fun J z=>⟨_,_,_,_,(J.hok f _ z).1⟩
  refine PySem.W.callWith_F (at_ I0 hf) (thn (ha pos pins s0 σ H0 _ I0 h) fun us s1 ⟨vs,H1,I1,r,z,q⟩=>⟨at_ I1 z,?_⟩) he hpl
  have hl:us.length=ps.length:=by rw [← r.length]; exact F.len _ _ _ _ q
  refine wpAny_call (codeAny_mono ((F.mono hk).run X.A X.stack s1 H1 ⟨us,[]⟩ us vs Q (E σ) hr I1.env0 (by have:=b s1 us I1.kIn (by rw [List.append_nil]; exact hl); rw [List.append_nil] at this; exact this) r q) fun r s' hq=>?_)
  cases r with
  | error e=>exact hx pins σ H1 s1 e s' I1 hq
  | ok fl =>
    cases fl with
    | ret u=>exact I1.after hq
    | next=>exact False.elim hq
    | brk=>exact False.elim hq
    | cont=>exact False.elim hq
theorem pe_calLT {X:Cx} {pins:List (Addr × Obj)} {R:XR} {x:Str} {n i:Nat} {e:Expr} {es:List Expr} {t:TA} {p pos:Pos} (hr:Room n X.A) (hv:PE (tryCx X pins R) (.Name x p) (tVar i)) (ha:PA (tryCx X pins R) (e :: es) t)
    (he:starEach (e :: es) X.env=(false,eval e X.env) :: starEach es X.env:=by rfl) (hpl:(backTo pos (starEach es X.env)).any (·.1)=false:=by rfl) :
    PE (tryCx X pins R) (.Call (.Name x p) (e :: es) [] pos) (tCallL X.prog X.w X.K X.mg X.base n i (eTry R) t):=pe_calL (X:=tryCx X pins R) hr hv passesT ha he hpl
noncomputable def tCallF (sp:Sp) (i:Nat) (c:Addr) (t:TA):TE:=fun σ H Q=>t σ H fun vs H1=>∃ v,σ[i]?=some (some v)∧(H1 c=none→∀ (o:Obj) (u:Value),o.data=.cell (some u)→RelV v u→sp vs (upd H1 c (FzC c o)) (fun r H'=>H' c=some (FzC c o)→Q r (del H' c)) E0)
theorem pe_calF {X:Cx} {x y:Str} {k n i:Nat} {c:Addr} {ps:List Str} {sp:Sp} {e:Expr} {es:List Expr} {t:TA} {p pos:Pos} (C:Cal X.prog X.w X.K X.mg X.base x k ps sp) (hr:Room n X.A) (hk:k≤n) (hg:Gl X x) (ha:PA X (e :: es) t)
    (hN:X.N[i]?=some y) (hy:X.env.kindOf y=some .cell) (hc:X.env.cells.lookup y=some c) (hfn:X.fn y=true)
    (hdb:(x == ("__debug__" : Str))=false:=by decide) (he:starEach (e :: es) X.env=(false,eval e X.env) :: starEach es X.env:=by rfl) (hpl:(backTo pos (starEach es X.env)).any (·.1)=false:=by rfl) :
    PE X (.Call (.Name x p) (e :: es) [] pos) (tCallF sp i c t):=by
  obtain ⟨f,fd,F,b,kp,m⟩:=C.ex
  intro pins s σ H Q I h
  refine wpAny_Call_Name_kw (ld_glob I hg m ?_ hdb)
  refine PySem.W.callWith_K (h₀:=X.base) I.ok.mod.kin kp (thn (ha pos pins s σ H _ I h) fun us s1 ⟨vs,H1,I1,r,v,hv,q⟩=>⟨I1.kIn,?_⟩) he hpl
  obtain ⟨mL,hn,hl⟩:=I1.loc
  obtain ⟨u,rv,l⟩:=hl i y v hN hv (.inr (.inl hy))
  have hcell:s1.heap.IsCell c (some u):=by
    rcases l with ⟨z,_⟩ | ⟨_,d,hd,z⟩
    · rw [hy] at z; cases z
    · rw [hc] at hd; cases hd; exact z
  obtain ⟨o,ho,hd⟩:=hcell
  have hn1:H1 c=none:=I1.freeC y c hc
  have hsz:=I1.ok.cab y c hfn hc
  have q':=q hn1 o u hd rv
  have hbs:∀ b ob,X.base.get? b=some ob→b≠c:=fun b ob e z=>by
    subst z
    exact absurd (Nat.lt_of_lt_of_le (Heap.lt_size e) (Nat.le_trans I1.ok.bsz hsz)) (Nat.lt_irrefl _)
  have hfs:∀ b∈frs X.stack,b≠c:=fun b hb z=>by
    subst z
    rcases List.mem_cons.mp (I1.stkSub b hb) with e | hb
    · exact I1.cne y b hc e
    · obtain ⟨_,ob,ho,_⟩:=I1.ok.funs.mem hb
      exact absurd (Nat.lt_of_lt_of_le (Heap.lt_size ho) hsz) (Nat.lt_irrefl _)
  have e0:Env0 X.prog X.w X.K X.mg X.base X.A X.stack s1 (upd H1 c (FzC c o)) :=
    ⟨I1.env0.frames,I1.env0.mod,fun b ob e=>⟨(I1.bs b ob e).1,by rw [upd_ne (hbs b ob e)]; exact (I1.bs b ob e).2⟩,I1.env0.bsz,I1.env0.funs,fun b hb=>by rw [upd_ne (hfs b hb)]; exact I1.stkFree b hb,I1.hok.fzc hn1 ho,I1.bare⟩
  have hl:us.length=ps.length:=by rw [← r.length]; exact F.len _ _ _ _ q'
  refine wpAny_call (codeAny_mono ((F.mono hk).run X.A X.stack s1 _ ⟨us,[]⟩ us vs _ E0 hr e0 (by have:=b s1 us I1.kIn (by rw [List.append_nil]; exact hl); rw [List.append_nil] at this; exact this) r q') fun r s' hq=>?_)
  cases r with
  | error e=>exact False.elim hq
  | ok fl =>
    cases fl with
    | ret u=>exact I1.after (CE.thaw hn1 ho hq)
    | next=>exact False.elim hq
    | brk=>exact False.elim hq
    | cont=>exact False.elim hq
structure TabCx (mg:Str→Option Value) (base:Heap) (c P:Addr):Prop where
  hd:PySem.W.CodeHd base c P
  gP:mainGlobals≠P
  blt:base.BuiltinsAt mg P
noncomputable def TabI (P:Addr) (pos:Pos) (qual:Str) (H:Hp):Prop:=∃ ps,H P=some (.tbl ps)∧(ps = #[]∨∃ c',ps = #[rawInt pos.line,rawInt pos.col,.ref c']∧H c'=some (CodO c' qual))
theorem TabI.same {P:Addr} {pos:Pos} {qual:Str} {H H':Hp} (h:TabI P pos qual H) (s:Same H H'):TabI P pos qual H':=by
  obtain ⟨ps,a,b⟩:=h
  refine ⟨ps,s _ _ a,?_⟩
  rcases b with b | ⟨c',b1,b2⟩
  · exact .inl b
  · exact .inr ⟨c',b1,s _ _ b2⟩
noncomputable def tLam (P:Addr) (pos:Pos) (qual:Str) (params:Arguments) (body:Expr) (scope:Scope) (clos:List (Str × Addr)):TE:=fun σ H Q=>TabI P pos qual H ∧
  ∀ (f c':Addr) (pm ctv:Value) (H':Hp),H f=none→(∀ b o,H b=some o→b≠P→H' b=some o)→TabI P pos qual H'→H' f=some (FunO f (PySem.W.kla_fn "<lambda>" qual params body scope clos pm (.ref c') ctv))→H' c'=some (CodO c' qual)→Q (.ref f) H'
theorem pe_lam {X:Cx} {params:Arguments} {body:Expr} {scope:Scope} {pos:Pos} {clos:List (Str × Addr)} {c P:Addr} {qual:Str} (T:TabCx X.mg X.base c P) (hcode:X.env.code=.ref c) (hq:X.env.qual ++ "<lambda>" = qual) (hcl:closureFor scope X.env=pure clos) (hdef:defaultsOf params X.env=([],[]):=by rfl) :
    PE X (.Lambda params body scope pos) (tLam P pos qual params body scope clos):=by
  intro pins s σ H Q I h
  obtain ⟨⟨ps,hP,hps⟩,k⟩:=h
  refine PySem.W.kla_eval hdef ?_
  rw [hq]
  have hPs:s.heap.get? P=some (PySem.W.tabObj ps):=I.hok P _ hP
  have hgs:s.heap.Ns mainGlobals X.mg:=I.mod.glob.keeps I.bk
  have hb:s.heap.BuiltinsAt X.mg P:=by
    obtain ⟨bm,ob,b1,b2,b3,b4,b5,b6⟩:=T.blt
    exact ⟨bm,ob,b1,b2,b3,b4,I.bk _ _ b5,b6⟩
  rcases hps with rfl | ⟨c',rfl,hc'⟩
  · refine PySem.W.kla_makeFunction (mg:=X.mg) (ps:=#[]) hcl I.ok.glob hgs hcode (T.hd.keeps I.bk) hPs trivial rfl T.gP hb fun c' ctv h' tk hx hge hlt hrec htb=>?_
    have hszP:P < s.heap.objs.size:=Heap.lt_size hPs
    have hkeep:∀ b o,b≠P→s.heap.get? b=some o→(h'.push (PySem.W.kla_obj "<lambda>" qual params body scope clos ((X.mg "__name__").getD .none) c' ctv)).get? b=some o:=fun b o hb e=>Heap.get?_push_of_some _ (hx b o hb e)
    have hsz:s.heap.objs.size≤h'.objs.size:=Nat.le_trans hge (Nat.le_of_lt hlt)
    have hcn:H c'=none:=I.hok.fresh hge
    have hfn:H h'.objs.size=none:=I.hok.fresh hsz
    have ncP:c'≠P:=Nat.ne_of_gt (Nat.lt_of_lt_of_le hszP hge)
    have nfP:h'.objs.size≠P:=Nat.ne_of_gt (Nat.lt_of_lt_of_le hszP hsz)
    have nfc:h'.objs.size≠c':=Nat.ne_of_gt hlt
    have hPP:(h'.push (PySem.W.kla_obj "<lambda>" qual params body scope clos ((X.mg "__name__").getD .none) c' ctv)).get? P=some (PySem.W.tabObj (#[] ++ #[rawInt pos.line,rawInt pos.col,.ref c'])):=Heap.get?_push_of_some _ htb
    have hff:(h'.push (PySem.W.kla_obj "<lambda>" qual params body scope clos ((X.mg "__name__").getD .none) c' ctv)).get? h'.objs.size=some (PySem.W.kla_obj "<lambda>" qual params body scope clos ((X.mg "__name__").getD .none) c' ctv):=Heap.get?_push_size _ rfl
    have hcc:=hrec.push (PySem.W.kla_obj "<lambda>" qual params body scope clos ((X.mg "__name__").getD .none) c' ctv)
    generalize h'.push (PySem.W.kla_obj "<lambda>" qual params body scope clos ((X.mg "__name__").getD .none) c' ctv)=h2 at hkeep hPP hff hcc ⊢
    have old:∀ b o,H b=some o→b≠P→(upd (upd (upd H P (.tbl (#[] ++ #[rawInt pos.line,rawInt pos.col,.ref c']))) c' (CodO c' qual)) h'.objs.size (FunO h'.objs.size (PySem.W.kla_fn "<lambda>" qual params body scope clos ((X.mg "__name__").getD .none) (.ref c') ctv))) b=some o:=fun b o e hb=>by
      rw [upd_ne (ne_of_none e hfn),upd_ne (ne_of_none e hcn),upd_ne hb]; exact e
    have atP:(upd (upd (upd H P (.tbl (#[] ++ #[rawInt pos.line,rawInt pos.col,.ref c']))) c' (CodO c' qual)) h'.objs.size (FunO h'.objs.size (PySem.W.kla_fn "<lambda>" qual params body scope clos ((X.mg "__name__").getD .none) (.ref c') ctv))) P=some (.tbl (#[] ++ #[rawInt pos.line,rawInt pos.col,.ref c'])):=by
      rw [upd_ne nfP.symm,upd_ne ncP.symm]; exact upd_same
    have atc:(upd (upd (upd H P (.tbl (#[] ++ #[rawInt pos.line,rawInt pos.col,.ref c']))) c' (CodO c' qual)) h'.objs.size (FunO h'.objs.size (PySem.W.kla_fn "<lambda>" qual params body scope clos ((X.mg "__name__").getD .none) (.ref c') ctv))) c'=some (CodO c' qual):=by
      rw [upd_ne nfc.symm]; exact upd_same
    refine ⟨.ref h'.objs.size,_,I.un (h':=h2) (H':=upd (upd (upd H P (.tbl (#[] ++ #[rawInt pos.line,rawInt pos.col,.ref c']))) c' (CodO c' qual)) h'.objs.size (FunO h'.objs.size (PySem.W.kla_fn "<lambda>" qual params body scope clos ((X.mg "__name__").getD .none) (.ref c') ctv))) ⟨fun b o q n _ _=>hkeep b o (fun z=>by subst z; rw [n] at hP; cases hP) q,fun b o q n _ _=>⟨o.slots,hkeep b o (fun z=>by subst z; rw [n] at hP; cases hP) q⟩,fun b o q n _=>?_,fun b o q _=>?_,(fun b xs q=>old b _ q fun z=>by subst z; rw [hP] at q; cases q),(fun b o u q=>old b _ q fun z=>by subst z; rw [hP] at q; cases q),fun b ps q=>?_⟩ fun b u q=>?_,rfl,?_⟩
    · have l:=Heap.lt_size q
      rw [upd_ne (Nat.ne_of_lt (Nat.lt_of_lt_of_le l hsz)),upd_ne (Nat.ne_of_lt (Nat.lt_of_lt_of_le l hge)),upd_ne (fun z=>by subst z; rw [n] at hP; cases hP)]
      exact n
    · by_cases hb:b=P
      · subst hb; exact ⟨_,hPP⟩
      · exact ⟨o,hkeep b o hb q⟩
    · by_cases hb:b=P
      · subst hb
        rw [hP] at q; cases q
        exact ⟨_,atP⟩
      · exact ⟨#[],by rw [old b _ q hb]; simp⟩
    · by_cases h1:b=h'.objs.size
      · subst h1
        rw [upd_same] at q; cases q
        exact funO_ok hff
      · rw [upd_ne h1] at q
        by_cases h2':b=c'
        · subst h2'
          rw [upd_same] at q; cases q
          exact codO_ok hcc
        · rw [upd_ne h2'] at q
          by_cases h3:b=P
          · subst h3
            rw [upd_same] at q; cases q
            exact hPP
          · rw [upd_ne h3] at q
            refine (I.hok b u q).stay (fun d v hd e=>hkeep d v ?_ e) (fun d e=>old d _ e fun z=>by subst z; rw [hP] at e; cases e) fun d xs e=>old d _ e fun z=>by subst z; rw [hP] at e; cases e
            rcases hd with rfl | hd
            · exact h3
            · intro z; subst z; rw [hP] at hd; cases hd
    · exact k h'.objs.size c' _ ctv _ hfn old ⟨_,atP,.inr ⟨c',by simp,atc⟩⟩ upd_same atc
  · have ham:codeAmong pos (#[rawInt pos.line,rawInt pos.col,.ref c']:Array Value).toList=some (.ref c'):=by simp [codeAmong,rawInt]
    refine PySem.W.kla_makeFunctionHit (mg:=X.mg) (cv:=.ref c') hcl I.ok.glob hgs hcode (T.hd.keeps I.bk) hPs (by simp [TriplesOk,rawInt]) ham hb fun ctv h' tk hk hsz=>?_
    have hfn:H h'.objs.size=none:=I.hok.fresh hsz
    refine ⟨.ref h'.objs.size,_,I.laid (a:=h'.objs.size) (o:=FunO h'.objs.size (PySem.W.kla_fn "<lambda>" qual params body scope clos ((X.mg "__name__").getD .none) (.ref c') ctv)) (fun b o e=>Heap.get?_push_of_some _ (hk b o e)) hsz (funO_ok (Heap.get?_push_size _ rfl)),rfl,?_⟩
    have old:∀ b o,H b=some o→upd H h'.objs.size (FunO h'.objs.size (PySem.W.kla_fn "<lambda>" qual params body scope clos ((X.mg "__name__").getD .none) (.ref c') ctv)) b=some o:=fun b o e=>by
      rw [upd_ne (ne_of_none e hfn)]; exact e
    exact k h'.objs.size c' _ ctv _ hfn (fun b o e _=>old b o e) ⟨_,old _ _ hP,.inr ⟨c',rfl,old _ _ hc'⟩⟩ upd_same (old _ _ hc')
theorem Fun.okT {P:Program} {w:World} {K:PySem.W.Frag} {mg:Str→Option Value} {base:Heap} {x qual:Str} {st:Stmt} {f c:Addr} {fd:FuncData} {N ps:List Str} {k:Nat} {sp:Sp} (F:Fun K x qual st f fd) (hcd:fd.code=.ref c) (S:FnScope N ps (defScope st)) (len:∀ vs H Q E,sp vs H Q E→vs.length=ps.length)
    (hbody:∀ (A:Around) (outer:List Env) (s:Shared) (H:Hp) (vs:List V) (Q:VK) (E:XK),Room k (A.deeper (envOfC qual (defScope st) s.heap.objs.size f (.ref c)))→sp vs H Q E →
      ∃ t,PSs (cxOf CX0 P w K mg base N qual (defScope st) f (.ref c) A outer s H E).nox (defBody st) t∧t { nx:=fun _ H'=>Q .non H',rt:=Q } (start N vs) H):FnOk P w K mg base CX0 (k+1) f fd ps sp:=by
  obtain ⟨oc,od,kV,doc,pm,an,cdv,ct,osl,rfl,lk,hci⟩:=F.ex
  have e:cdv=.ref c:=hcd
  subst e
  refine fn_of lk hci S len fun A outer s H vs Q E hr hsp=>?_
  obtain ⟨t,h,q⟩:=hbody A outer s H vs Q E hr hsp
  exact ⟨t,h.nox,q⟩
theorem law_callT {P:Program} {w:World} {K:PySem.W.Frag} {mg mb:Str→Option Value} {k:Nat} {fa a c PT:Addr} {fd:FuncData} {x:Str} {sp:Sp} {s₁:Shared} {vs:List Value} {ns:List Int}
    (KX:K.In s₁.heap) (hns:s₁.heap.Ns mainGlobals mg) (hb:s₁.heap.Ns builtinsNs mb) (hbb:∀ x:Str,x ≠ "__name__"→mb x=bootBuiltins x) (hlim:s₁.heap.NoLimit) (hg:s₁.gens = #[])
    (hbm:∃ bm ob,mg "__builtins__" = some (.ref bm)∧bm≠builtinsNs∧s₁.heap.get? bm=some ob∧ob.cls=.type "module"∧ob.dict=some builtinsNs∧ob.data=.plain)
    (hC:PySem.W.CodeHd s₁.heap c PT) (hPT:s₁.heap.get? PT=some (PySem.W.tabObj #[])) (hKP:K.lookup PT=none)
    (ha:s₁.heap.get? a=some { cls:=.type "list",data:=.seq vs.toArray }) (hi:IntsAre vs ns) (hl:ns.length≤sizeLine) (hr:Room k callerA)
    (F:∀ base:Heap,K.In base→base.Ns mainGlobals mg→TabCx mg base c PT→FnOk P w K mg base CX0 k fa fd [x] sp) (hbind:∀ (s:Shared) (u:Value),BindsTo s fd ⟨[u],[]⟩ [(x,u)])
    (hsp:∀ H:Hp,H PT=some (.tbl #[])→SqL K H a (ns.map V.int)→sp [.ref a] H (fun v _=>v=.bl true) fun _ _ _=>False) :
    codeAny (model P w) callerA (.call (.ref fa) ⟨[.ref a],[]⟩) (fun r s'=>r=.ok (.ret (.bool true))∧OldK s₁.heap s'.heap∧s'.os=s₁.os∧AllBare s'.gens) s₁:=by
  have rv:=vals_ints hi
  have lenV:=hi.length
  have nePa:PT≠a:=fun z=>by rw [z,ha] at hPT; cases hPT
  have core:∀ H:Hp,H PT=some (.tbl #[])→(H a=none∨∃ o xs,H a=some (.frz o (.lst xs)))→SqL K H a (ns.map V.int)→HOk P w H s₁.heap→(∀ b,H b≠none→b=a∨b=PT)→(H a≠none→K.lookup a=none) →
      codeAny (model P w) callerA (.call (.ref fa) ⟨[.ref a],[]⟩) (fun r s'=>r=.ok (.ret (.bool true))∧OldK s₁.heap s'.heap∧s'.os=s₁.os∧AllBare s'.gens) s₁:=by
    intro H hHP hO hS hok hA hK
    have base_of:∀ {b:Addr} {o:Obj},s₁.heap.get? b=some o→H b=none→(hidT s₁.heap H).get? b=some o:=fun e n=>hidT_get e n
    have no1:∀ {b:Addr} {o:Obj},s₁.heap.get? b=some o→(∀ ws n,o.data≠.seq ws n)→(∀ ws,o.data≠.fields ws)→H b=none:=fun {b o} e d1 d2=>by
      cases q:H b with
      | none=>rfl
      | some u =>
        rcases hA b (by rw [q]; simp) with e' | e'
        · subst e'; rw [ha] at e; cases e; exact absurd rfl (d1 _ _)
        · subst e'; rw [hPT] at e; cases e; exact absurd rfl (d2 _)
    have nsK:∀ {b:Addr} {m:Str→Option Value},s₁.heap.Ns b m→(hidT s₁.heap H).Ns b m:=fun {b m} ⟨o,es,ep,e,d,r⟩=>⟨o,es,ep,base_of e (no1 e (fun _ _ z=>by rw [d] at z; cases z) fun _ z=>by rw [d] at z; cases z),d,r⟩
    have hKb:K.In (hidT s₁.heap H):=fun b o e=>base_of (KX b o e) (by
      cases q:H b with
      | none=>rfl
      | some u =>
        rcases hA b (by rw [q]; simp) with e' | e'
        · subst e'
          rw [hK (by rw [q]; simp)] at e; cases e
        · subst e'
          rw [hKP] at e; cases e)
    have hM:Mod K mg (hidT s₁.heap H):=⟨hKb,nsK hns,⟨mb,nsK hb,hbb⟩,let ⟨mc,h1,h2⟩:=hlim; ⟨mc,nsK h1,h2⟩⟩
    have hTC:TabCx mg (hidT s₁.heap H) c PT:=by
      refine ⟨?_,fun z=>?_,?_⟩
      · obtain ⟨o,ws,file,tf,flags,tg,inF,text,tt,e1,r1,r2,r3,r4,r5,r6,r7,r8,hne⟩:=hC
        refine ⟨o,ws,file,tf,flags,tg,inF,text,tt,base_of e1 ?_,r1,r2,r3,r4,r5,r6,r7,r8,hne⟩
        cases q:H c with
        | none=>rfl
        | some u =>
          rcases hA c (by rw [q]; simp) with e' | e'
          · rw [e',ha] at e1; cases e1; injection r1 with r1; exact absurd r1 (by decide)
          · exact absurd e' hne
      · obtain ⟨o,es,ep,e,d,r⟩:=hns
        rw [z,hPT] at e; cases e; cases d
      · obtain ⟨bm,ob,b1,b2,b3,b4,b5,b6⟩:=hbm
        refine ⟨bm,ob,b1,b2,fun z=>?_,fun z=>?_,base_of b3 (no1 b3 (fun _ _ z=>by rw [b6] at z; cases z) fun _ z=>by rw [b6] at z; cases z),b4,b5,b6⟩
        · obtain ⟨o,es,ep,e,d,r⟩:=hns
          rw [← z,b3] at e; cases e; rw [d] at b6; cases b6
        · rw [z,hPT] at b3; cases b3; cases b4
    have e0:Env0 P w K mg (hidT s₁.heap H) callerA [] s₁ H:=⟨rfl,hM,fun b o e=>of_hidT e,Nat.le_of_eq (hidT_size _ _),trivial,fun b hb=>absurd (show b∈([]:List Addr) from hb) (by simp),hok,.of_eq hg⟩
    refine codeAny_mono ((F _ hKb (nsK hns) hTC).run callerA [] s₁ H ⟨[.ref a],[]⟩ [.ref a] [.ref a] _ _ hr e0 (hbind s₁ (.ref a)) (.cons rfl .nil) (hsp H hHP hS)) fun r s' h=>?_
    cases r with
    | error e=>exact False.elim h
    | ok fl =>
      cases fl with
      | next=>exact False.elim h
      | brk=>exact False.elim h
      | cont=>exact False.elim h
      | ret u =>
        obtain ⟨v,H',os,bare,un,hok',r',q⟩:=h
        have q':v=.bl true:=q
        subst q'
        obtain rfl:u=Value.bool true:=r'
        have tb:isCodeTable s₁.heap PT:=(hC.tab hPT).isCodeTable
        obtain ⟨more,e2⟩:=un.tbls PT _ hHP
        have e3:s'.heap.get? PT=some (PySem.W.tabObj (#[]++more)):=hok' PT _ e2
        have keep:∀ b o,s₁.heap.get? b=some o→b≠PT→s'.heap.get? b=some o:=fun b o e hbP=>by
          cases q:H b with
          | none=>exact un.keep b o e q (by intro z; exact absurd (show b∈([]:List Addr) from z) (by simp)) (by simp)
          | some u =>
            have hba:b=a:=(hA b (by rw [q]; simp)).resolve_right hbP
            subst hba
            rcases hO with z | ⟨ob,xs,z⟩
            · rw [q] at z; cases z
            · have z2:=un.frzs b ob _ z
              obtain ⟨e1,_⟩:=hok b _ z
              obtain ⟨e2,_⟩:=hok' b _ z2
              rw [e] at e1; cases e1
              exact e2
        refine ⟨rfl,⟨fun b o e=>?_,fun b o e=>?_⟩,os,bare⟩
        · by_cases hbP:b=PT
          · subst hbP
            rw [hPT] at e; cases e
            exact .inr (.inl ⟨tb,rfl,#[],more,rfl,e3⟩)
          · exact .inl (keep b o e hbP)
        · by_cases hbP:b=PT
          · subst hbP; exact ⟨_,e3⟩
          · exact ⟨o,keep b o e hbP⟩
  cases hk:K.lookup a with
  | some o =>
    have e:=KX a o hk
    rw [ha] at e
    cases e
    refine core (fun b=>if b=PT then some (.tbl #[]) else none) (if_pos rfl) (.inl (if_neg nePa.symm)) (.inr ⟨_,vs.toArray,_,hk,rfl,rfl,rfl,by rw [List.size_toArray,lenV]; exact hl,by simpa using rv⟩) (fun b u z=>?_) (fun b z=>?_) fun z=>absurd (if_neg nePa.symm) z
    · by_cases hb:b=PT
      · have z':=(if_pos hb).symm.trans z
        cases z'; subst hb; exact hPT
      · have z':=(if_neg hb).symm.trans z
        cases z'
    · by_cases hb:b=PT
      · exact .inr hb
      · exact absurd (if_neg hb) z
  | none =>
    have h1:∀ b,b=a→(fun b=>if b=a then some (HO.frz { cls:=.type "list",data:=.seq vs.toArray } (.lst (ns.map V.int))) else if b=PT then some (.tbl #[]) else none) b=some (HO.frz { cls:=.type "list",data:=.seq vs.toArray } (.lst (ns.map V.int))):=fun b e=>if_pos e
    have h2:∀ b,b≠a→b=PT→(fun b=>if b=a then some (HO.frz { cls:=.type "list",data:=.seq vs.toArray } (.lst (ns.map V.int))) else if b=PT then some (.tbl #[]) else none) b=some (.tbl #[]):=fun b e e'=>(if_neg e).trans (if_pos e')
    have h3:∀ b,b≠a→b≠PT→(fun b=>if b=a then some (HO.frz { cls:=.type "list",data:=.seq vs.toArray } (.lst (ns.map V.int))) else if b=PT then some (.tbl #[]) else none) b=none:=fun b e e'=>(if_neg e).trans (if_neg e')
    generalize (fun b=>if b=a then some (HO.frz { cls:=.type "list",data:=.seq vs.toArray } (.lst (ns.map V.int))) else if b=PT then some (.tbl #[]) else none)=H at h1 h2 h3
    refine core H (h2 _ nePa rfl) (.inr ⟨_,_,h1 a rfl⟩) (.inl (.inr ⟨_,h1 a rfl⟩)) (fun b u z=>?_) (fun b z=>?_) fun _=>hk
    · by_cases hb:b=a
      · rw [h1 b hb] at z; cases z
        subst hb
        exact ⟨ha,by rw [List.length_map]; exact hl,vs,_,rv,ha⟩
      · by_cases hp:b=PT
        · rw [h2 b hb hp] at z; cases z
          subst hp; exact hPT
        · rw [h3 b hb hp] at z; cases z
    · by_cases hb:b=a
      · exact .inl hb
      · by_cases hp:b=PT
        · exact .inr hp
        · exact absurd (h3 b hb hp) z
theorem noTab_of {K:PySem.W.Frag} {h:Heap} {P:Addr} (X:K.In h) (hP:h.get? P=some (PySem.W.tabObj #[])) (hn:PySem.W.noTabs K=true):K.lookup P=none:=by
  cases e:K.lookup P with
  | none=>rfl
  | some o =>
    have e2:=X P o e
    rw [hP] at e2
    have h2:=List.all_eq_true.mp hn (P,o) (PySem.W.mem_of_lookupK e)
    cases e2
    exact absurd (show false=true from h2) Bool.false_ne_true
theorem tab_mk {K:PySem.W.Frag} {x:Str} {f c PT:Addr} {oc ocC:Value} {od odC:Option Addr} {fd:FuncData} {osl slC:Array (Option Value)} {vsC:Array Value} (ha:PySem.W.nsIn K mainGlobals x=some (some (.ref f))) (hl:K.lookup f=some ⟨oc,od,.func fd,osl⟩) (hcd:fd.code=.ref c)
    (lc:K.lookup c=some ⟨ocC,odC,.fields vsC,slC⟩) (pc:vsC[11]?=some (.ref PT)):PySem.W.tabIn K x=some (c,PT):=by
  unfold PySem.W.tabIn
  rw [ha]
  simp only [hl,hcd,lc,pc]
theorem walk_ofT {l:PySem.W.OpenLaw} {n k:Nat} {q:Program} {loose:List Str} {XP:(Str→Option Value)→Heap→Prop} {YP:World→Heap→Prop} {d d':DefRec} {K:Params→PySem.W.Frag} {sp:World→Addr→Sp} {x:Str}
    (hn:l.most=some n) (hn2:n≤sizeLine) (hdf:d.params.defaults=[]) (hr:Room k callerA) (hrec:(recsOf q).find? (fun e=>e.name == ("law" : Str))=some d')
    (hY:∀ (w:World) (h:Heap),YP w h→(K w.params).In h)
    (F:∀ (w:World) (mg:Str→Option Value) (fa:Addr) (h:Heap),(K w.params).In h→h.Ns mainGlobals mg→mg d.name=some (.ref fa) →
      ∃ (fd:FuncData) (c PT:Addr),PySem.W.tabIn (K w.params) "law" = some (c,PT)∧PySem.W.noTabs (K w.params)=true∧(∀ (s:Shared) (u:Value),BindsTo s fd ⟨[u],[]⟩ [(x,u)]) ∧
        ∀ base:Heap,(K w.params).In base→base.Ns mainGlobals mg→TabCx mg base c PT→FnOk l.prog w (K w.params) mg base CX0 k fa fd [x] (sp w PT))
    (hsp:∀ (w:World) (H:Hp) (a PT:Addr) (ns:List Int),ns.length≤n→H PT=some (.tbl #[])→SqL (K w.params) H a (ns.map V.int)→sp w PT [.ref a] H (fun v _=>v=.bl true) fun _ _ _=>False) :
    PySem.W.WalkO q loose XP YP l.row.toRowW d [] (fun f vs=>PySem.call f vs):=by
  refine Att.attach_call hn hdf fun w s₀ s₁ mg mb fa o pm cd doc a vs ns G Y ho hd hcd hmg hobj hints hlen hg=>?_
  have KX:=hY w _ Y
  obtain ⟨fd,c,PT,ht,hno,hb,hF⟩:=F w mg fa _ KX G.T.g hmg
  obtain ⟨hC,hPT⟩:=PySem.W.tab_of G.T KX hrec ht
  exact law_callT KX G.T.g G.T.b G.T.builtins G.T.nolimit hg G.T.bmain hC hPT (noTab_of KX hPT hno) hobj hints (Nat.le_trans hlen hn2) hr hF hb fun H hP hS=>hsp w H a PT ns hlen hP hS
end L2
namespace L2
open PySem PySem.Spec PyProof.Rows
theorem count_eqU {y:V}:∀ {xs:List V} {us:List Value},Vals xs us→xs.all flatV=true→us.countP (eqU y)=xs.countP fun z=>eqV z y
  | _,_,.nil,_=>rfl
  | x :: xs,u :: us,.cons r t,f=>by
    rw [List.all_cons,Bool.and_eq_true] at f
    rw [List.countP_cons,List.countP_cons,eqU_of r f.1,count_eqU t f.2]
theorem mt_countL {X:Cx}:MtR X "list.count" (fun x xs H Q=>∃ (l:Addr) (ys:List V) (y:V),x=.ref l∧xs=[y]∧H l=some (.lst ys)∧flatV y=true∧ys.all flatV=true∧Q (.int (ys.countP (fun z=>eqV z y):Nat)) H):=by
  intro pins s σ H x xs v us Q I rx rv h
  obtain ⟨l,ys,y,rfl,rfl,hH,fy,fs,q⟩:=h
  cases rx
  obtain ⟨u,rfl,ru⟩:=rv.one
  obtain ⟨z,its,n,r,hl,e⟩:=I.lstM hH
  refine call_meets F.slot_list_count ⟨_,e,rfl⟩ F.entry_list_count (F.args_list_count_2 _ _) (SeqAt.list_countAt l its.toArray n none #[] u (eqU y)) ⟨e,fun w hw=>mem_eqAt ru fy r fs w (by simpa using hw),?_⟩
  rw [show its.toArray.toList=its from rfl,count_eqU r fs]
  exact ⟨.int _,H,I.tok _,⟨_,rfl⟩,q⟩
theorem mt_indexL {X:Cx}:MtR X "list.index" (fun x xs H Q=>∃ (l:Addr) (ys:List V) (y w:V) (j:Nat),x=.ref l∧xs=[y]∧H l=some (.lst ys)∧flatV y=true∧ys.all flatV=true∧ys[j]?=some w∧eqV w y=true∧(∀ i z,i < j→ys[i]?=some z→eqV z y=false)∧Q (.int (j:Nat)) H):=by
  intro pins s σ H x xs v us Q I rx rv h
  obtain ⟨l,ys,y,w,j,rfl,rfl,hH,fy,fs,hj,hw,hno,q⟩:=h
  cases rx
  obtain ⟨u,rfl,ru⟩:=rv.one
  obtain ⟨z,its,n,r,hl,e⟩:=I.lstM hH
  have hjl:j < ys.length:=(List.getElem?_eq_some_iff.mp hj).1
  have at_:∀ (i:Nat) (hi:i < its.length) (z:V),ys[i]?=some z→eqU y its[i]=eqV z y:=fun i hi z hz=>by
    obtain ⟨u',h1,h2⟩:=r.get hz
    rw [List.getElem?_eq_getElem hi] at h1
    cases h1
    exact eqU_of h2 (List.all_eq_true.mp fs z (List.mem_of_getElem? hz))
  have hz:=line63
  refine call_meets F.slot_list_index ⟨_,e,rfl⟩ F.entry_list_index (F.args_list_index_2 _ _) (SeqAt.list_indexAt l its.toArray n none #[] u (eqU y) j (by rw [List.size_toArray]; omega) (by omega) ?_ ?_) ⟨e,fun w hw=>mem_eqAt ru fy r fs w (by simpa using hw),?_⟩
  · show eqU y its[j]=true
    rw [at_ j (by omega) w hj]; exact hw
  · intro m hm hlt
    show eqU y its[m]=false
    have hm':m < its.length:=by simpa using hm
    have hm2:m < ys.length:=by omega
    rw [at_ m hm' ys[m] (List.getElem?_eq_getElem hm2)]
    exact hno m _ hlt (List.getElem?_eq_getElem hm2)
  · exact ⟨.int _,H,I.tok _,⟨_,rfl⟩,q⟩
structure RoomQ (k:Nat) (A:Around):Prop where
  dp:A.depth+3 * k+5 < recursionLimit
  un:A.units+16 * k+200 < cLine
theorem RoomQ.mono {j k:Nat} {A:Around} (r:RoomQ k A) (h:j≤k):RoomQ j A:=⟨by have:=r.dp; omega,by have:=r.un; omega⟩
theorem RoomQ.deeper {k:Nat} {A:Around} (r:RoomQ (k+1) A) (env:Env):RoomQ k (A.deeper env) :=
  ⟨by have:=r.dp; show A.depth+1+3 * k+5 < _; omega,by have:=r.un; show A.units+3+16 * k+200 < _; omega⟩
theorem RoomQ.depth {k:Nat} {A:Around} (r:RoomQ k A):A.depth < recursionLimit:=by have:=r.dp; omega
theorem Room.q {k:Nat} {A:Around} (r:Room k A) (e:Option Value):RoomQ k (A.mark e):=⟨r.dp,r.un⟩
structure CalQ (P:Program) (w:World) (K:PySem.W.Frag) (mg:Str→Option Value) (base:Heap) (x:Str) (k:Nat) (ps:List Str) (sp:Sp):Prop where
  ex:∃ (f:Addr) (fd:FuncData),((∀ vs H Q E,sp vs H Q E→vs.length=ps.length)∧∀ (A:Around) (outer:List Env) (s:Shared) (H:Hp) (args:Args) (us:List Value) (vs:List V) (Q:VK),RoomQ k A→Env0 P w K mg base A outer s H→BindsTo s fd args (ps.zip us)→Vals vs us→sp vs H Q E0 →
    codeAny (model P w) A (.call (.ref f) args) (CR CX0 outer P w H s Q E0) s)∧Binds K fd ps []∧PySem.W.keepIn K (.ref f)=true∧mg x=some (.ref f)
noncomputable abbrev cxQ (P:Program) (w:World) (K:PySem.W.Frag) (mg:Str→Option Value) (base:Heap) (N:List Str) (qual:Str) (scope:Scope) (f:Addr) (cd:Value) (A:Around) (outer:List Env) (s:Shared) (H:Hp):Cx :=
  { cxOf CX0 P w K mg base N qual scope f cd A outer s H E0 with calm:=false,xe:=fun _ _=>False }
theorem Has.mkQ {P:Program} {w:World} {K:PySem.W.Frag} {mg:Str→Option Value} {base:Heap} {x:Str} {st:Stmt} {N ps:List Str} {k:Nat} {sp:Sp} (h:Has K mg x st ps) (S:FnScope N ps (defScope st)) (len:∀ vs H Q E,sp vs H Q E→vs.length=ps.length)
    (hbody:∀ (f:Addr) (cdv:Value) (A:Around) (outer:List Env) (s:Shared) (H:Hp) (vs:List V) (Q:VK),RoomQ k (A.deeper (envOfC x (defScope st) s.heap.objs.size f cdv))→sp vs H Q E0 →
      ∃ t,PSs (cxQ P w K mg base N x (defScope st) f cdv A outer s H) (defBody st) t∧t { nx:=fun _ H'=>Q .non H',rt:=Q } (start N vs) H):CalQ P w K mg base x (k+1) ps sp:=by
  obtain ⟨f,fd,F,b,m⟩:=h.ex
  refine ⟨f,fd,⟨len,fun A outer s H args us vs Q hr e0 hb r hsp=>?_⟩,b,F.kp,m⟩
  obtain ⟨oc,od,kV,doc,pm,an,cdv,ct,osl,rfl,lk,hcd⟩:=F.ex
  have hl:=len _ _ _ _ hsp
  have KX:K.In s.heap:=e0.mod.kin.keeps fun b o e=>(e0.bs b o e).1
  have lim:s.heap.NoLimit:=e0.mod.nolimit.keeps fun b o e=>(e0.bs b o e).1
  have hkind:∀ y∈ps.zip us,(defScope st).names.lookup y.1=some .local∨((defScope st).names.lookup y.1=some .cell∧((cellsFrom (s.heap.objs.size+1) (defScope st).names []).lookup y.1).isSome=true):=fun ⟨n,v⟩ hy=>by
    rcases S.par n (List.of_mem_zip hy).1 with q | q
    · exact .inl q
    · exact .inr ⟨q,PySem.W.cellsFrom_some _ _ _ (.inl q)⟩
  refine codeAny_call_function hr.depth (KX _ _ lk) rfl S.co S.gen rfl (PySem.W.codeRec_of KX hcd) (hb _ _ _ _ ?_)
  refine wpAny_newFunctionEnv_cells S.kind hkind fun env he s1 x1=>?_
  subst he
  refine ⟨lim.keeps x1.toInCall.keep,codeAny_func ?_⟩
  obtain ⟨t,ht,hq⟩:=hbody f cdv A outer s H vs Q (hr.deeper _) hsp
  have e1:Env0 P w K mg base { A with handled:=none } outer s H:=⟨e0.frames,e0.mod,e0.bs,e0.bsz,e0.funs,e0.frf,e0.hok,e0.bare⟩
  have I0:Inv (cxOf CX0 P w K mg base N x (defScope st) f cdv { A with handled:=none } outer s H E0) [] (start N vs) H s1:=inv_start S rfl e1 hl r x1
  have I:Inv (cxQ P w K mg base N x (defScope st) f cdv A outer s H) [] (start N vs) H s1 :=
    ⟨⟨I0.ok.mod,I0.ok.kind,I0.ok.glob,I0.ok.blt,I0.ok.above,I0.ok.inj,I0.ok.has,I0.ok.cab,(fun z=>Bool.noConfusion (show false=true from z)),Around.frames_deeper e0.frames,I0.ok.stk,I0.ok.exf,I0.ok.bs,I0.ok.bsz,I0.ok.noex,I0.ok.exfs,I0.ok.funs,I0.ok.frf⟩,I0.os,I0.bare,I0.base,I0.loc,I0.cell,I0.free,I0.freeC,I0.pin,I0.hok,I0.len⟩
  refine wpAny_mono (ht [] s1 (start N vs) H _ I hq) (fun fl s' hs=>?_) fun e s' hs=>False.elim hs
  have fin:∀ {σ':St} {H':Hp} {v:V} {u:Value},Inv (cxQ P w K mg base N x (defScope st) f cdv A outer s H) [] σ' H' s'→RelV v u→Q v H'→CE outer P w H s Q u s' :=
    fun {σ' H' v u} J rv q=>⟨v,H',J.os,J.bare,J.base,J.hok,rv,q⟩
  cases fl with
  | ret u =>
    obtain ⟨v,σ',H',J,rv,q⟩:=hs
    exact fin J rv q
  | next =>
    obtain ⟨σ',H',J,q⟩:=hs
    exact fin (v:=V.non) (u:=Value.none) J rfl q
  | brk =>
    obtain ⟨_,_,_,q⟩:=hs
    exact False.elim q
  | cont =>
    obtain ⟨_,_,_,q⟩:=hs
    exact False.elim q
theorem pe_calQ {X:Cx} {x:Str} {k n:Nat} {ps:List Str} {sp:Sp} {e:Expr} {es:List Expr} {t:TA} {p pos:Pos} (C:CalQ X.prog X.w X.K X.mg X.base x k ps sp) (hr:RoomQ n X.A) (hk:k≤n) (hg:Gl X x) (ha:PA X (e :: es) t)
    (hdb:(x == ("__debug__" : Str))=false:=by decide) (he:starEach (e :: es) X.env=(false,eval e X.env) :: starEach es X.env:=by rfl) (hpl:(backTo pos (starEach es X.env)).any (·.1)=false:=by rfl) :
    PE X (.Call (.Name x p) (e :: es) [] pos) (tCall sp [] E0 t):=by
  obtain ⟨f,fd,⟨len,run⟩,b,kp,m⟩:=C.ex
  intro pins s σ H Q I h
  refine wpAny_Call_Name_kw (ld_glob I hg m ?_ hdb)
  refine PySem.W.callWith_K (h₀:=X.base) I.ok.mod.kin kp (thn (ha pos pins s σ H _ I h) fun us s1 ⟨vs,H1,I1,r,q⟩=>⟨I1.kIn,?_⟩) he hpl
  have q:sp (vs++[]) H1 Q E0:=q
  rw [List.append_nil] at q
  have hl:us.length=ps.length:=by rw [← r.length]; exact len _ _ _ _ q
  refine wpAny_call (codeAny_mono (run X.A X.stack s1 H1 ⟨us,[]⟩ us vs Q (hr.mono hk) I1.env0 (by have:=b s1 us I1.kIn (by rw [List.append_nil]; exact hl); rw [List.append_nil] at this; exact this) r q) fun r s' hq=>?_)
  cases r with
  | error e=>exact False.elim hq
  | ok fl =>
    cases fl with
    | ret u=>exact I1.after hq
    | next=>exact False.elim hq
    | brk=>exact False.elim hq
    | cont=>exact False.elim hq
end L2
namespace L2
open PySem PySem.Spec PyProof.Rows
noncomputable def K0 : PySem.W.Frag := []
theorem SqL.up {K : PySem.W.Frag} {H : Hp} {a : Addr} {xs : List V} (h : SqL K0 H a xs) : SqL K H a xs := by
  rcases h with h | ⟨o, its, n, hk, _⟩
  · exact .inl h
  · cases hk
theorem SqT.up {K : PySem.W.Frag} {H : Hp} {a : Addr} {xs : List V} (h : SqT K0 H a xs) : SqT K H a xs := by
  rcases h with h | ⟨o, its, n, hk, _⟩
  · exact .inl h
  · cases hk
theorem sq_up {K : PySem.W.Frag} {H : Hp} {a : Addr} {xs : List V} (h : SqL K0 H a xs ∨ SqT K0 H a xs) : SqL K H a xs ∨ SqT K H a xs := h.imp SqL.up SqT.up
theorem tyV_up {K : PySem.W.Frag} {T : String} {x : V} {H : Hp} (h : tyV K0 T x H) : tyV K T x H := by
  cases x with
  | ref p =>
    rcases h with ⟨e, xs, h⟩ | ⟨_, o, hk, _⟩ | h
    · exact .inl ⟨e, xs, h.up⟩
    · cases hk
    · exact .inr (.inr h)
  | _ => exact h
section
variable {X : Cx}
theorem ix_list0 : IxR X (rIxL K0) := fun va sl pins s σ H x y v u Q I rx ry ⟨p, xs, i, z, e1, e2, hq, he, q⟩ hs => ix_list va sl pins s σ H x y v u Q I rx ry ⟨p, xs, i, z, e1, e2, hq.up, he, q⟩ hs
theorem ix_tup0 : IxR X (rIxT K0) := fun va sl pins s σ H x y v u Q I rx ry ⟨p, xs, i, z, e1, e2, hq, he, q⟩ hs => ix_tup va sl pins s σ H x y v u Q I rx ry ⟨p, xs, i, z, e1, e2, hq.up, he, q⟩ hs
theorem op_in_seq0 : OpR X (compareOp .In) (rIn K0 false) := fun pins s σ H x y v u Q I rx ry ⟨p, xs, e, hq, f1, f2, q⟩ => op_in_seq pins s σ H x y v u Q I rx ry ⟨p, xs, e, sq_up hq, f1, f2, q⟩
theorem pg_tup0 {pos : Pos} {es : List Expr} {k : Nat} {t : TGs} {n : Nat} (hc : X.calm = true) (h : PGs X es t)
    (hn : (assignEach es X.env).length = n := by rfl) (hst : (assignEach es X.env).findIdx? (·.1) = none := by rfl) : PG X (.Tuple es k pos) (gTup K0 n t) :=
  fun pins s σ H v u Q I r ⟨a, xs, e, hq, hl, q⟩ => pg_tup hc h hn hst pins s σ H v u Q I r ⟨a, xs, e, hq.up, hl, q⟩
theorem call_sortedD0 (hu : CallR X (.builtin "sorted") (rSortD X.K)) : CallR X (.builtin "sorted") (rSortD K0) :=
  fun pins s σ H xs us Q I rv ⟨p, vs, ds, e, hq, r⟩ => hu pins s σ H xs us Q I rv ⟨p, vs, ds, e, sq_up hq, r⟩
noncomputable def mc (t : TE) : TE := fun σ H Q => ∃ Q0, t σ H Q0 ∧ ∀ v H', Q0 v H' → Q v H'
theorem PE.mc {e : Expr} {t : TE} (h : PE X e t) : PE X e (mc t) := fun pins s σ H Q I ⟨Q0, h0, hm⟩ =>
  thn (h pins s σ H Q0 I h0) fun v s1 ⟨x, H1, I1, r1, q1⟩ => ⟨x, H1, I1, r1, hm _ _ q1⟩
theorem Turn.up {P : Program} {w : World} {K : PySem.W.Frag} {tg : Expr} {it : Addr} {fp : List Addr} {tn : Nat → Heap → Prop} {J J0 : It} (hg : ∀ i H, J0.go i H → J.go i H) (hy : ∀ i H x H', J.yld i H x H' → J0.yld i H x H') (hs : ∀ i H, J0.stop i H → J.stop i H) (T : Turn P w K tg J fp it tn) : Turn P w K tg J0 fp it tn :=
  { mem := T.mem, obj := T.obj, keep := T.keep, self := T.self
    item := fun X e1 e2 e3 e4 i pins s σ H E I hf ht z => thn (T.item X e1 e2 e3 e4 i pins s σ H E I hf ht (hg _ _ z)) fun _ _ y => y.imp fun _ y => ⟨y.1, thn y.2 fun _ _ y => y.imp fun _ y => y.imp fun _ y => ⟨y.1, y.2.1, hy _ _ _ _ y.2.2.1, y.2.2.2⟩⟩
    done := fun X e1 e2 e3 e4 i pins s σ H E I hf ht z => T.done X e1 e2 e3 e4 i pins s σ H E I hf ht (hs _ _ z) }
theorem Turn.upL {P : Program} {w : World} {K : PySem.W.Frag} {tg : Expr} {a it : Addr} {fp : List Addr} {tn : Nat → Heap → Prop} (T : Turn P w K tg (Itl K a) fp it tn) : Turn P w K tg (Itl K0 a) fp it tn :=
  Turn.up (J := Itl K a) (fun _ _ z => z.imp fun _ z => z.imp fun _ z => ⟨z.1.up, z.2⟩) (fun _ _ _ _ z => ⟨z.1, fun xs h => z.2 xs h.up⟩) (fun _ _ z => z.imp fun _ z => ⟨z.1.up, z.2⟩) T
theorem Turn.upT {P : Program} {w : World} {K : PySem.W.Frag} {tg : Expr} {a it : Addr} {fp : List Addr} {tn : Nat → Heap → Prop} (T : Turn P w K tg (Itt K a) fp it tn) : Turn P w K tg (Itt K0 a) fp it tn :=
  Turn.up (J := Itt K a) (fun _ _ z => z.imp fun _ z => z.imp fun _ z => ⟨z.1.up, z.2⟩) (fun _ _ _ _ z => ⟨z.1, fun xs h => z.2 xs h.up⟩) (fun _ _ z => z.imp fun _ z => ⟨z.1.up, z.2⟩) T
theorem Turn.upE {P : Program} {w : World} {K : PySem.W.Frag} {tg : Expr} {a it : Addr} {fp : List Addr} {tn : Nat → Heap → Prop} (T : Turn P w K tg (Ite K a) fp it tn) : Turn P w K tg (Ite K0 a) fp it tn :=
  Turn.up (J := Ite K a) (fun _ _ z => z.imp fun _ z => z.imp fun _ z => ⟨z.1.up, z.2⟩) (fun _ _ _ _ z => z.imp fun _ z => z.imp fun _ z => ⟨z.1, z.2.1, z.2.2.1, fun xs h => z.2.2.2 xs h.up⟩) (fun _ _ z => z.imp fun _ z => ⟨z.1.up, z.2⟩) T
theorem pi_up {tg l : Expr} {wi : TI} {pins : List (Addr × Obj)} {s : Shared} {σ : St} {H : Hp} {R : It → Hp → Prop} {F G : Addr → It} (hT : ∀ a fp it tn, Turn X.prog X.w X.K tg (F a) fp it tn → Turn X.prog X.w X.K tg (G a) fp it tn) (h : PI X tg l wi) (I : Inv X pins σ H s)
    (hw : wi σ H fun J H1 => ∃ a, J = F a ∧ R (G a) H1) : wpAny (model X.prog X.w) X.A (eval l X.env) (fun v s1 => wpAny (model X.prog X.w) X.A (pyIter v) (PIE X pins σ tg R) X.xe s1) X.xe s :=
  thn (h pins s σ H _ I hw) fun v s1 z => thn z fun itv s2 ⟨it, fp, tn, J, H', e, I', T, t0, hf, a, eJ, r⟩ => by
    subst eJ
    exact ⟨it, fp, tn, _, H', e, I', hT _ _ _ _ T, t0, hf, r⟩
theorem pi_list0 {tg l : Expr} {tl : TE} (hl : PE X l tl) : PI X tg l (iList K0 tl) := fun pins s σ H R I h =>
  pi_up (F := Itl X.K) (G := Itl K0) (fun _ _ _ _ T => T.upL) (pi_list hl.mc) I ⟨_, h, fun v H' ⟨a, e, ⟨xs, hq⟩, r⟩ => ⟨a, e, ⟨xs, hq.up⟩, a, rfl, r⟩⟩
theorem pi_tup0 {tg l : Expr} {tl : TE} (hl : PE X l tl) : PI X tg l (iTup K0 tl) := fun pins s σ H R I h =>
  pi_up (F := Itt X.K) (G := Itt K0) (fun _ _ _ _ T => T.upT) (pi_tup hl.mc) I ⟨_, h, fun v H' ⟨a, e, ⟨xs, hq⟩, r⟩ => ⟨a, e, ⟨xs, hq.up⟩, a, rfl, r⟩⟩
noncomputable def mcA (t : TA) : TA := fun σ H Q => ∃ Q0, t σ H Q0 ∧ ∀ v H', Q0 v H' → Q v H'
theorem PA.mc {es : List Expr} {t : TA} (h : PA X es t) : PA X es (mcA t) := fun pos pins s σ H Q I ⟨Q0, h0, hm⟩ =>
  thn (h pos pins s σ H Q0 I h0) fun v s1 ⟨x, H1, I1, r1, q1⟩ => ⟨x, H1, I1, r1, hm _ _ q1⟩
theorem pi_enum0 {elts : List Expr} {k1 : Nat} {p1 : Pos} {a : Expr} {ta : TA} {p pos : Pos} (hg : Gl X "enumerate") (hm : X.mg "enumerate" = none) (ha : PA X [a] ta) (hs : starEach [a] X.env = [(false, eval a X.env)] := by rfl) :
    PI X (.Tuple elts k1 p1) (.Call (.Name "enumerate" p) [a] [] pos) (iEnum K0 ta) := fun pins s σ H R I h =>
  pi_up (F := Ite X.K) (G := Ite K0) (fun _ _ _ _ T => T.upE) (pi_enum hg hm ha.mc hs) I ⟨_, h, fun v H' ⟨a, e, ⟨xs, hq⟩, r⟩ => ⟨a, e, ⟨xs, hq.up⟩, a, rfl, r⟩⟩
theorem op_neT00 (hu : X.A.units < cLine) : OpR X (compareOp .NotEq) (rNeT0 K0) := fun pins s σ H x y v u Q I rx ry ⟨l, b, xs, e1, e2, h1, h2, q⟩ => op_neT0 hu pins s σ H x y v u Q I rx ry ⟨l, b, xs, e1, e2, h1.up, h2.up, q⟩
theorem call_tuple_of0 : CallR X (.type "tuple") (fun xs H Q => ∃ p ys, xs = [.ref p] ∧ ((SqL K0 H p ys ∧ ∀ l, H l = none → Q (.ref l) (upd H l (.tup ys))) ∨ (SqT K0 H p ys ∧ Q (.ref p) H))) :=
  fun pins s σ H xs us Q I rv ⟨p, ys, e, h⟩ => call_tuple_of pins s σ H xs us Q I rv ⟨p, ys, e, h.imp (fun z => ⟨z.1.up, z.2⟩) fun z => ⟨z.1.up, z.2⟩⟩
theorem pe_bmZ {o e : Expr} {es : List Expr} {to : TE} {t : TA} {name : Str} {apos cpos : Pos} {T id : String} {r : V → List V → Hp → VK → Prop} (pa : PlainAttrs T) (slot : Slot T name id) (hty : typeOf (.builtin id) = pure (.type "method_descriptor")) (hm : MtR X id r) (ho : PE X o to) (ha : PA X (e :: es) t)
    (hbase : attributeBase o name X.env (eval o X.env) = eval o X.env := by rfl)
    (hfew : ((backTo cpos (starEach (e :: es) X.env)).all (fun x => !x.1) && (backToKw cpos (keywordEach [] X.env)).all (fun x => x.1.isSome)
      && decide ((e :: es).length + ([] : List Keyword).length + (if ([] : List Keyword).isEmpty then 0 else 1) < 30)) = true := by rfl)
    (hline : (apos.endLine == cpos.line) = true := by rfl) (hs : starEach (e :: es) X.env = (false, eval e X.env) :: starEach es X.env := by rfl) (hplain : (backTo cpos (starEach es X.env)).any (·.1) = false := by rfl) :
    PE X (.Call (.Attribute o name apos) (e :: es) [] cpos) (tBM K0 T r to t) := fun pins s σ H Q I h =>
  pe_bm pa slot hty hm ho.mc ha hbase hfew hline hs hplain pins s σ H Q I ⟨_, h, fun _ _ ⟨ty, q⟩ => ⟨tyV_up ty, q⟩⟩
end
theorem ixT {K : PySem.W.Frag} {x y : V} {H : Hp} {Q : V → Prop} {p : Addr} {xs : List V} {i : Int} {v : V} (e1 : x = .ref p) (e2 : y = .int i) (h : SqT K H p xs) (e : atI xs i = some v) (q : Q v) : ∃ p xs i v, x = V.ref p ∧ y = V.int i ∧ SqT K H p xs ∧ atI xs i = some v ∧ Q v := ⟨p, xs, i, v, e1, e2, h, e, q⟩
theorem ixL {K : PySem.W.Frag} {x y : V} {H : Hp} {Q : V → Prop} {p : Addr} {xs : List V} {i : Int} {v : V} (e1 : x = .ref p) (e2 : y = .int i) (h : SqL K H p xs) (e : atI xs i = some v) (q : Q v) : ∃ p xs i v, x = V.ref p ∧ y = V.int i ∧ SqL K H p xs ∧ atI xs i = some v ∧ Q v := ⟨p, xs, i, v, e1, e2, h, e, q⟩
theorem hid {T : Prop} (k : ∀ G : Prop, (T → G) → G) : T := k T id
theorem len0 {α : Type _} {P : List α → Prop} (us : List α) (hl : us.length = 0) (h : P []) : P us := by
  cases us with
  | nil => exact h
  | cons a t => exact (Nat.succ_ne_zero _ hl).elim
theorem lenS {α : Type _} {P : List α → Prop} (us : List α) (n : Nat) (hl : us.length = n + 1) (h : ∀ a t, t.length = n → P (a :: t)) : P us := by
  cases us with
  | nil => exact (Nat.succ_ne_zero n hl.symm).elim
  | cons a t => exact h a t (Nat.succ.inj hl)
@[elab_as_elim] theorem len1 {α : Type _} {P : List α → Prop} (us : List α) (hl : us.length = 1) (h : ∀ a0, P [a0]) : P us := lenS (P := P) us 0 hl fun a t ht => len0 (P := fun t => P (a :: t)) t ht (h a)
@[elab_as_elim] theorem len2 {α : Type _} {P : List α → Prop} (us : List α) (hl : us.length = 2) (h : ∀ a0 a1, P [a0, a1]) : P us := lenS (P := P) us 1 hl fun a t ht => len1 (P := fun t => P (a :: t)) t ht (h a)
@[elab_as_elim] theorem len3 {α : Type _} {P : List α → Prop} (us : List α) (hl : us.length = 3) (h : ∀ a0 a1 a2, P [a0, a1, a2]) : P us := lenS (P := P) us 2 hl fun a t ht => len2 (P := fun t => P (a :: t)) t ht (h a)
@[elab_as_elim] theorem len4 {α : Type _} {P : List α → Prop} (us : List α) (hl : us.length = 4) (h : ∀ a0 a1 a2 a3, P [a0, a1, a2, a3]) : P us := lenS (P := P) us 3 hl fun a t ht => len3 (P := fun t => P (a :: t)) t ht (h a)
@[elab_as_elim] theorem len5 {α : Type _} {P : List α → Prop} (us : List α) (hl : us.length = 5) (h : ∀ a0 a1 a2 a3 a4, P [a0, a1, a2, a3, a4]) : P us := lenS (P := P) us 4 hl fun a t ht => len4 (P := fun t => P (a :: t)) t ht (h a)
theorem seqN {t u : TS} {D : Ends} {σ : St} {H : Hp} (k : ∀ N : St → Hp → Prop, (∀ σ' H', u D σ' H' → N σ' H') → t { D with nx := N } σ H) : tSeq t u D σ H := k (u D) fun _ _ h => h
end L2

namespace Mine
open PySem L2 PyProof.Rows
noncomputable def top (i:Nat):Stmt:=PySem.Challenge.pw_twainkeep_k29_state_of_each_part.main.body.getD i (.Pass ⟨0,0,0,0⟩)
noncomputable abbrev sPartOf:Stmt:=top 10
noncomputable abbrev sStateInLink:Stmt:=top 12
noncomputable abbrev sStatesByName:Stmt:=top 13
noncomputable abbrev sStateOf:Stmt:=top 14
noncomputable abbrev sStates:Stmt:=top 15
noncomputable abbrev sMixed:Stmt:=top 17
noncomputable abbrev sNumbers:Stmt:=top 18
noncomputable abbrev sNext:Stmt:=top 19
noncomputable abbrev sPool:Stmt:=top 20
noncomputable abbrev sMoment:Stmt:=top 21
noncomputable abbrev sMoments:Stmt:=top 22
noncomputable abbrev sText:Stmt:=top 23
noncomputable abbrev sMany:Stmt:=top 24
noncomputable abbrev sParts:Stmt:=top 25
noncomputable abbrev sBook:Stmt:=top 26
noncomputable abbrev sSame:Stmt:=top 27
noncomputable abbrev sStanding:Stmt:=top 28
noncomputable abbrev sStandings:Stmt:=top 29
noncomputable abbrev sRefusal:Stmt:=top 30
noncomputable abbrev sRefused:Stmt:=top 31
noncomputable abbrev sRight:Stmt:=top 32
noncomputable abbrev sLaw:Stmt:=top 33
noncomputable abbrev Nms:=List (List Nat)
noncomputable abbrev Prt:=List Nat × List Nat × List Int
noncomputable abbrev Lnk:=Nms × Nms × Int × List Int × List Int
noncomputable def momD (ms:List Int):D:=.tup (ms.map D.int)
noncomputable def namesD (ns:Nms):D:=.tup (ns.map sD)
noncomputable def partD (q:Prt):D:=.tup [sD q.1,sD q.2.1,momD q.2.2]
noncomputable def linkD (k:Lnk):D:=.tup [namesD k.1,namesD k.2.1,.int k.2.2.1,.tup [momD k.2.2.2.1,momD k.2.2.2.2]]
noncomputable def bookD (L R:List Prt) (ks:List Lnk) (al:Nms):D:=.tup [.tup (L.map partD),.tup (R.map partD),.tup (ks.map linkD),namesD al]
noncomputable def sideOf (n:Nat) (k:Lnk):Nms:=if n=0 then k.1 else k.2.1
noncomputable def linkedN (n:Nat) (ks:List Lnk):Nms:=ks.flatMap (sideOf n)
theorem denI {H:Hp}:∀ {cs:List Int} {vs:List V},DenL H vs (cs.map D.int)→vs=cs.map V.int
  | [],[],_=>rfl
  | _ :: cs,v :: vs,h=>by
    have e:v=.int _:=h.1
    rw [e,denI h.2]
    rfl
  | [],_ :: _,h=>h.elim
  | _ :: _,[],h=>h.elim
theorem denI_of (H:Hp):∀ cs:List Int,DenL H (cs.map V.int) (cs.map D.int)
  | []=>trivial
  | _ :: cs=>⟨rfl,denI_of H cs⟩
theorem denl_app {H:Hp}:∀ {ds es:List D} {vs us:List V},DenL H vs ds→DenL H us es→DenL H (vs++us) (ds++es)
  | [],_,[],_,_,h=>h
  | _ :: _,_,_ :: _,_,h,g=>⟨h.1,denl_app h.2 g⟩
  | [],_,_ :: _,_,h,_=>h.elim
  | _ :: _,_,[],_,h,_=>h.elim
theorem all_rep (n:Nat):(List.replicate n true).all id=true:=by
  rw [List.all_eq_true]
  intro b hb
  exact (List.mem_replicate.mp hb).2
theorem shal_ups {n:Nat} {d:D} (h:Shal n d):∀ k,Shal (n+k) d
  | 0=>h
  | k+1=>(shal_ups h k).up
theorem shal_tup {n:Nat} {ds:List D} (hl:ds.length≤100000) (h:∀ d∈ds,Shal n d):Shal (n+1) (.tup ds) :=
  ⟨(fun z=>nomatch z),fun es e=>by injection e with e; subst e; exact ⟨hl,h⟩⟩
theorem shal_mom {ms:List Int} (h:ms.length≤1000):Shal 1 (momD ms):=shal_tup (by rw [List.length_map]; omega) fun d hd=>by
  obtain ⟨i,_,rfl⟩:=List.mem_map.mp hd
  exact shal_int i
theorem shal_names {ns:Nms} (h:ns.length≤1000):Shal 1 (namesD ns):=shal_tup (by rw [List.length_map]; omega) fun d hd=>by
  obtain ⟨i,_,rfl⟩:=List.mem_map.mp hd
  exact shal_str _
theorem simL_map {α β:Type} {f:α→D} {g:β→D} (h:∀ a b,Sim (f a) (g b)):∀ (xs:List α) (ys:List β),SimL (xs.map f) (ys.map g)
  | [],_=>SimL_n _
  | _ :: _,[]=>SimL_m _
  | x :: xs,y :: ys=>SimL_c (h x y) (simL_map h xs ys)
theorem sim_int (a b:Int):Sim (.int a) (.int b):=trivial
theorem sim_str (a b:Str):Sim (.str a) (.str b):=trivial
theorem sim_mom (a b:List Int):Sim (momD a) (momD b):=Sim_t (simL_map (fun a b=>sim_int a b) a b)
theorem sim_names (a b:Nms):Sim (namesD a) (namesD b):=Sim_t (simL_map (fun a b=>sim_str _ _) a b)
theorem sim_link (a b:Lnk):Sim (linkD a) (linkD b):=by
  unfold linkD
  exact Sim_t (SimL_c (sim_names _ _) (SimL_c (sim_names _ _) (SimL_c (sim_int _ _) (SimL_c (Sim_t (SimL_c (sim_mom _ _) (SimL_c (sim_mom _ _) (SimL_n _)))) (SimL_n _)))))
theorem den_link {H:Hp} {v:V} {q:Lnk} (h:Den H v (linkD q)):∃ (p p0 p1 p3 p4 p5:Addr) (us0 us1:List V),v=.ref p∧H p=some (.tup [.ref p0,.ref p1,.int q.2.2.1,.ref p3])∧H p0=some (.tup us0)∧DenL H us0 (q.1.map sD)∧H p1=some (.tup us1)∧DenL H us1 (q.2.1.map sD) ∧
    H p3=some (.tup [.ref p4,.ref p5])∧H p4=some (.tup (q.2.2.2.1.map V.int))∧H p5=some (.tup (q.2.2.2.2.map V.int)):=by
  obtain ⟨p,us,rfl,hp,hd⟩:=den_tup h
  obtain ⟨b0,b1,b2,b3,rfl⟩:∃ b0 b1 b2 b3,us=[b0,b1,b2,b3]:=by
    match us,hd with
    | [b0,b1,b2,b3],_=>exact ⟨b0,b1,b2,b3,rfl⟩
    | [],h=>exact h.elim
    | [_],h=>exact h.2.elim
    | [_,_],h=>exact h.2.2.elim
    | [_,_,_],h=>exact h.2.2.2.elim
    | _ :: _ :: _ :: _ :: _ :: _,h=>exact h.2.2.2.2.elim
  obtain ⟨p0,us0,rfl,h0,hd0⟩:=den_tup hd.1
  obtain ⟨p1,us1,rfl,h1,hd1⟩:=den_tup hd.2.1
  have e2:b2=.int q.2.2.1:=hd.2.2.1
  subst e2
  obtain ⟨p3,us3,rfl,h3,hd3⟩:=den_tup hd.2.2.2.1
  obtain ⟨c0,c1,rfl⟩:∃ c0 c1,us3=[c0,c1]:=by
    match us3,hd3 with
    | [c0,c1],_=>exact ⟨c0,c1,rfl⟩
    | [],h=>exact h.elim
    | [_],h=>exact h.2.elim
    | _ :: _ :: _ :: _,h=>exact h.2.2.elim
  obtain ⟨p4,us4,rfl,h4,hd4⟩:=den_tup hd3.1
  obtain ⟨p5,us5,rfl,h5,hd5⟩:=den_tup hd3.2.1
  rw [denI hd4] at h4
  rw [denI hd5] at h5
  exact ⟨p,p0,p1,p3,p4,p5,us0,us1,rfl,hp,h0,hd0,h1,hd1,h3,h4,h5⟩
theorem denS {H:Hp}:∀ {cs:Nms} {vs:List V},DenL H vs (cs.map sD)→vs=cs.map mkT
  | [],[],_=>rfl
  | _ :: cs,v :: vs,h=>by
    have e:v=mkT _:=h.1
    rw [e,denS h.2]
    rfl
  | [],_ :: _,h=>h.elim
  | _ :: _,[],h=>h.elim
theorem denS_of (H:Hp):∀ cs:Nms,DenL H (cs.map mkT) (cs.map sD)
  | []=>trivial
  | _ :: cs=>⟨rfl,denS_of H cs⟩
noncomputable def Old (d lo:Addr) (H H':Hp):Prop:=∀ c o,H c=some o→c≠d→c≠lo→H' c=some o
theorem perm_map_inv {α β:Type} {f:α→β} {ds es:List β} (h:ds.Perm es):∀ {ks:List α},es=ks.map f→∃ ks':List α,ks'.Perm ks∧ds=ks'.map f:=by
  induction h with
  | nil =>
    intro ks e
    cases ks with
    | nil=>exact ⟨[],.nil,rfl⟩
    | cons=>cases e
  | cons x p ih =>
    intro ks e
    cases ks with
    | nil=>cases e
    | cons k ks =>
      injection e with e1 e2
      obtain ⟨ks',hp,rfl⟩:=ih e2
      exact ⟨k :: ks',hp.cons k,by rw [e1]; rfl⟩
  | swap x y l =>
    intro ks e
    match ks,e with
    | a :: b :: r,e =>
      injection e with e1 e2
      injection e2 with e2 e3
      exact ⟨b :: a :: r,.swap _ _ _,by rw [e1,e2,e3]; rfl⟩
  | trans p q ih1 ih2 =>
    intro ks e
    obtain ⟨ks1,hp1,rfl⟩:=ih2 e
    obtain ⟨ks2,hp2,rfl⟩:=ih1 rfl
    exact ⟨ks2,hp2.trans hp1,rfl⟩
theorem linked_perm {ks ks':List Lnk} (n:Nat) (h:ks'.Perm ks):(linkedN n ks').Perm (linkedN n ks):=h.flatMap_right _
theorem linked_snoc (n:Nat) (ks:List Lnk) (k:Lnk):linkedN n (ks++[k])=linkedN n ks++sideOf n k:=by
  unfold linkedN
  rw [List.flatMap_append]
  simp
theorem hom_links (ks:List Lnk):Hom (ks.map linkD):=by
  refine ⟨fun a ha b hb=>?_,.inr (.inr fun d hd=>?_)⟩
  · obtain ⟨x,_,rfl⟩:=List.mem_map.mp ha
    obtain ⟨y,_,rfl⟩:=List.mem_map.mp hb
    exact sim_link _ _
  · obtain ⟨x,_,rfl⟩:=List.mem_map.mp hd
    exact ⟨_,_,rfl⟩
theorem hom_names (ts:Nms):Hom (ts.map sD):=by
  refine ⟨fun a ha b hb=>?_,.inr (.inl fun d hd=>?_)⟩
  · obtain ⟨x,_,rfl⟩:=List.mem_map.mp ha
    obtain ⟨y,_,rfl⟩:=List.mem_map.mp hb
    exact sim_str _ _
  · obtain ⟨x,_,rfl⟩:=List.mem_map.mp hd
    exact ⟨_,rfl⟩
theorem keepT_upd {H:Hp} {l:Addr} {ys zs:List V} (hl:H l=some (.lst ys)):∀ (b:Addr) (vs:List V),H b=some (.tup vs)→upd H l (.lst zs) b=some (.tup vs):=fun b vs e=>by
  rw [upd_ne (ne_of e hl (by intro z; cases z))]
  exact e
theorem same_none {H H':Hp} {b:Addr} (s:Same H H') (h:H' b=none):H b=none:=by
  cases e:H b with
  | none=>rfl
  | some o =>
    have:=s b o e
    rw [h] at this
    cases this
theorem ite_go {b:Bool} {p q:Prop} (h:b=true) (x:p):if b=true then p else q:=by
  rw [if_pos h]
  exact x
inductive Stt where
  | lack
  | alone
  | step
  | stale (m:Int)
noncomputable def stD:Stt→D
  | .lack=>.tup [.str "lacking"]
  | .alone=>.tup [.str "alone"]
  | .step=>.tup [.str "step"]
  | .stale m=>.tup [.str "stale",.int m]
noncomputable def stOf:List Int→Stt
  | []=>.step
  | a :: r=>.stale (r.foldl min a)
theorem foldl_min:∀ (r:List Int) (a:Int),r.foldl min a∈a :: r∧∀ n∈a :: r,r.foldl min a≤n
  | [],a=>⟨.head _,fun n hn=>by rw [List.mem_singleton.mp hn]; exact Int.le_refl _⟩
  | b :: r,a=>by
    obtain ⟨h1,h2⟩:=foldl_min r (min a b)
    rw [List.foldl_cons]
    have h3:=h2 (min a b) (.head _)
    refine ⟨?_,fun n hn=>?_⟩
    · rcases List.mem_cons.mp h1 with z | z
      · rw [z]
        by_cases hab:a≤b
        · rw [Int.min_eq_left hab]; exact .head _
        · rw [Int.min_eq_right (by omega)]; exact .tail _ (.head _)
      · exact .tail _ (.tail _ z)
    · rcases List.mem_cons.mp hn with rfl | hn
      · omega
      · rcases List.mem_cons.mp hn with rfl | hn
        · omega
        · exact h2 n (.tail _ hn)
theorem stOf_eq {l:List Int} {m:Int} (h1:m∈l) (h2:∀ n∈l,m≤n):stOf l=.stale m:=by
  cases l with
  | nil=>cases h1
  | cons a r =>
    obtain ⟨g1,g2⟩:=foldl_min r a
    have a1:=h2 _ g1
    have a2:=g2 _ h1
    show Stt.stale _=_
    rw [show r.foldl min a=m by omega]
theorem stOf_set {l l':List Int} (h:∀ x,x∈l↔x∈l'):stOf l=stOf l':=by
  cases l with
  | nil =>
    cases l' with
    | nil=>rfl
    | cons a r=>exact absurd ((h a).mpr (.head _)) (by simp)
  | cons a r =>
    obtain ⟨g1,g2⟩:=foldl_min r a
    exact (stOf_eq g1 g2).trans (stOf_eq ((h _).mp g1) fun n hn=>g2 n ((h n).mpr hn)).symm
noncomputable def momsOf (ps:List Prt) (x:List Nat):List Int:=match ps.find? (fun p=>decide (p.1=x)) with
  | some p=>p.2.2
  | none=>[]
noncomputable def later (t:Int) (l:List Int):List Int:=l.filter fun m=>decide (t < m)
noncomputable def lostOf (n:Nat) (k:Lnk):List Int:=if n=0 then k.2.2.2.1 else k.2.2.2.2
noncomputable def seenP (ps:List Prt) (k:Lnk) (n:Nat):List Int:=lostOf n k++(sideOf n k).flatMap (momsOf ps)
noncomputable def seenL (qs:List Prt) (k:Lnk) (n:Nat):List Int:=lostOf n k++(qs.filter fun p=>decide (p.1∈sideOf n k)).flatMap (·.2.2)
noncomputable def pst (ps:List Prt) (k:Lnk) (s:Nat):Stt:=stOf (later k.2.2.1 (seenP ps k (1 - s)))
noncomputable def lst_ (qs:List Prt) (k:Lnk) (s:Nat):Stt:=stOf (later k.2.2.1 (seenL qs k (1 - s)))
structure VB (L R:List Prt) (ks:List Lnk) (al:Nms):Prop where
  nd:((L++R).map (·.1)).Nodup
  lL:L.length≤9
  lR:R.length≤9
  tx:∀ p∈L++R,p.1.length≤8
  mo:∀ p∈L++R,p.2.2.length≤4∧p.2.2≠[]
  lk:ks.length≤8
  lo:∀ k∈ks,k.2.2.2.1.length≤4∧k.2.2.2.2.length≤4
  ne:∀ k∈ks,k.1≠[]∧k.2.1≠[]
  nl:∀ k∈ks,k.1.length≤9∧k.2.1.length≤9
  on:∀ x∈linkedN 0 ks,x∈L.map (·.1)
  off:∀ x∈linkedN 1 ks,x∈R.map (·.1)
  nd2:(linkedN 0 ks++linkedN 1 ks++al).Nodup
  la:al.length≤18
  al_in:∀ x∈al,x∈(L++R).map (·.1)
  mb:∀ p∈L++R,∀ m∈p.2.2,m≤1000000000000
  lb:∀ k∈ks,∀ m∈k.2.2.2.1++k.2.2.2.2,m≤1000000000000
theorem moms_eq {ps:List Prt} (hn:(ps.map (·.1)).Nodup) {p:Prt} (hp:p∈ps):momsOf ps p.1=p.2.2:=by
  induction ps with
  | nil=>cases hp
  | cons q ps ih =>
    rw [List.map_cons,List.nodup_cons] at hn
    unfold momsOf
    rw [List.find?_cons]
    rcases List.mem_cons.mp hp with rfl | hp
    · rw [decide_eq_true rfl]
    · have hne:q.1≠p.1:=fun e=>hn.1 (by rw [e]; exact List.mem_map_of_mem hp)
      rw [decide_eq_false hne]
      exact ih hn.2 hp
theorem seen_same {ps qs:List Prt} {k:Lnk} {n:Nat} (hn:(ps.map (·.1)).Nodup) (hq:∀ p∈qs,p∈ps) (hs:∀ x∈sideOf n k,x∈qs.map (·.1)) (m:Int):m∈seenP ps k n↔m∈seenL qs k n:=by
  unfold seenP seenL
  rw [List.mem_append,List.mem_append,List.mem_flatMap,List.mem_flatMap]
  constructor
  · rintro (h | ⟨x,hx,hm⟩)
    · exact .inl h
    · obtain ⟨p,hp,rfl⟩:=List.mem_map.mp (hs x hx)
      rw [moms_eq hn (hq p hp)] at hm
      exact .inr ⟨p,List.mem_filter.mpr ⟨hp,decide_eq_true hx⟩,hm⟩
  · rintro (h | ⟨p,hp,hm⟩)
    · exact .inl h
    · obtain ⟨h1,h2⟩:=List.mem_filter.mp hp
      exact .inr ⟨p.1,of_decide_eq_true h2,by rw [moms_eq hn (hq p h1)]; exact hm⟩
theorem pst_eq {ps qs:List Prt} {k:Lnk} {s:Nat} (hn:(ps.map (·.1)).Nodup) (hq:∀ p∈qs,p∈ps) (hs:∀ x∈sideOf (1 - s) k,x∈qs.map (·.1)):pst ps k s=lst_ qs k s:=by
  refine stOf_set fun x=>?_
  unfold later
  rw [List.mem_filter,List.mem_filter,seen_same hn hq hs]
noncomputable def setAll (f:List Nat→Stt) (xs:Nms) (s:Stt):List Nat→Stt:=fun y=>if y∈xs then s else f y
noncomputable def afterLink (ps:List Prt) (f:List Nat→Stt) (k:Lnk):List Nat→Stt:=setAll (setAll f k.1 (pst ps k 0)) k.2.1 (pst ps k 1)
noncomputable def final (ps:List Prt) (ks:List Lnk) (al:Nms):List Nat→Stt:=ks.foldl (afterLink ps) (setAll (fun _=>.lack) al .alone)
noncomputable def inLink (y:List Nat) (k:Lnk):Bool:=decide (y∈k.1++k.2.1)
noncomputable def standing (L R:List Prt) (ks:List Lnk) (al:Nms) (y:List Nat):Stt :=
  if y∈al then .alone else match ks.find? (inLink y) with
    | none=>.lack
    | some k=>if y∈k.2.1 then lst_ L k 1 else lst_ R k 0
noncomputable def valAt (ps:List Prt) (f:List Nat→Stt) (ks:List Lnk) (y:List Nat):Stt:=match ks.find? (inLink y) with
  | none=>f y
  | some k=>if y∈k.2.1 then pst ps k 1 else pst ps k 0
theorem linked_cons (n:Nat) (k:Lnk) (ks:List Lnk):linkedN n (k :: ks)=sideOf n k++linkedN n ks:=by
  unfold linkedN
  rw [List.flatMap_cons]
theorem notin_find {ks:List Lnk} {y:List Nat} (h0:y ∉ linkedN 0 ks) (h1:y ∉ linkedN 1 ks):ks.find? (inLink y)=none:=by
  rw [List.find?_eq_none]
  intro k hk hi
  rcases List.mem_append.mp (of_decide_eq_true hi) with z | z
  · exact h0 (List.mem_flatMap.mpr ⟨k,hk,z⟩)
  · exact h1 (List.mem_flatMap.mpr ⟨k,hk,z⟩)
theorem fold_val (ps:List Prt) (y:List Nat):∀ (ks:List Lnk) (f:List Nat→Stt),(linkedN 0 ks++linkedN 1 ks).Nodup→ks.foldl (afterLink ps) f y=valAt ps f ks y
  | [],f,_=>rfl
  | k :: ks,f,hn=>by
    rw [linked_cons,linked_cons] at hn
    have hn':(k.1++linkedN 0 ks++(k.2.1++linkedN 1 ks)).Nodup:=hn
    have hnr:(linkedN 0 ks++linkedN 1 ks).Nodup:=hn'.sublist ((List.sublist_append_right _ _).append (List.sublist_append_right _ _))
    rw [List.foldl_cons,fold_val ps y ks _ hnr]
    rw [List.nodup_append] at hn'
    obtain ⟨n1,n2,n3⟩:=hn'
    rw [List.nodup_append] at n1 n2
    unfold valAt
    rw [List.find?_cons]
    by_cases hy:y∈k.1++k.2.1
    · have hr:ks.find? (inLink y)=none:=by
        rcases List.mem_append.mp hy with z | z
        · exact notin_find (fun w=>n1.2.2 y z y w rfl) (fun w=>n3 y (List.mem_append_left _ z) y (List.mem_append_right _ w) rfl)
        · exact notin_find (fun w=>n3 y (List.mem_append_right _ w) y (List.mem_append_left _ z) rfl) (fun w=>n2.2.2 y z y w rfl)
      rw [hr,show inLink y k=true from decide_eq_true hy]
      show afterLink ps f k y=if y∈k.2.1 then pst ps k 1 else pst ps k 0
      unfold afterLink setAll
      by_cases h2:y∈k.2.1
      · rw [if_pos h2,if_pos h2]
      · have h1:y∈k.1:=by
          rcases List.mem_append.mp hy with z | z
          · exact z
          · exact absurd z h2
        rw [if_neg h2,if_neg h2,if_pos h1]
    · rw [show inLink y k=false from decide_eq_false hy]
      have e:afterLink ps f k y=f y:=by
        unfold afterLink setAll
        rw [if_neg (fun z=>hy (List.mem_append_right _ z)),if_neg (fun z=>hy (List.mem_append_left _ z))]
      rw [e]
theorem final_eq {L R:List Prt} {ks:List Lnk} {al:Nms} (h:VB L R ks al) (y:List Nat):final (L++R) ks al y=standing L R ks al y:=by
  unfold final standing
  have hnd:=h.nd2
  rw [List.nodup_append] at hnd
  obtain ⟨n1,n2,n3⟩:=hnd
  rw [fold_val _ _ _ _ n1]
  unfold valAt
  by_cases hy:y∈al
  · rw [if_pos hy,notin_find (fun z=>n3 y (List.mem_append_left _ z) y hy rfl) (fun z=>n3 y (List.mem_append_right _ z) y hy rfl)]
    show setAll _ _ _ _=_
    unfold setAll
    rw [if_pos hy]
  · rw [if_neg hy]
    cases hk:ks.find? (inLink y) with
    | none =>
      show setAll _ _ _ _=_
      unfold setAll
      rw [if_neg hy]
    | some k =>
      have hm:=List.mem_of_find?_eq_some hk
      have e1:pst (L++R) k 1=lst_ L k 1:=pst_eq h.nd (fun p hp=>List.mem_append_left _ hp) fun x hx=>h.on x (List.mem_flatMap.mpr ⟨k,hm,hx⟩)
      have e0:pst (L++R) k 0=lst_ R k 0:=pst_eq h.nd (fun p hp=>List.mem_append_right _ hp) fun x hx=>h.off x (List.mem_flatMap.mpr ⟨k,hm,hx⟩)
      show (if y∈k.2.1 then pst (L++R) k 1 else pst (L++R) k 0)=if y∈k.2.1 then lst_ L k 1 else lst_ R k 0
      rw [e1,e0]
noncomputable def prD (q:Int × List Nat):D:=.tup [.int q.1,sD q.2]
noncomputable abbrev sOf (r:List Nat):Str:=⟨r.toArray⟩
theorem str_inj' {a b:List Nat} (h:sOf a=sOf b):a=b:=by
  have:=congrArg (fun s:Str=>s.cps.toList) h
  simpa using this
noncomputable abbrev nkey (x:List Nat):Key:=Sum.inr (sOf x)
theorem nkey_inj {a b:List Nat} (h:nkey a=nkey b):a=b:=by
  injection h with h
  exact str_inj' h
noncomputable def Fd (H:Hp) (kvs:List (Key × V)) (ps:List Prt) (g:Prt→D):Prop:=Paired (fun kv p=>kv.1=nkey p.1∧Den H kv.2 (g p)) kvs ps
theorem Fd.mono {H H':Hp} (e:∀ {d:D} {v:V},Den H v d→Den H' v d) {kvs:List (Key × V)} {ps:List Prt} {g:Prt→D} (h:Fd H kvs ps g):Fd H' kvs ps g:=Paired.mapP h fun _ _ ⟨a,b⟩=>⟨a,e b⟩
theorem Fd.same {H H':Hp} (s:Same H H') {kvs:List (Key × V)} {ps:List Prt} {g:Prt→D} (h:Fd H kvs ps g):Fd H' kvs ps g:=h.mono (Den.same s)
theorem Fd.keys {H:Hp}:∀ {kvs:List (Key × V)} {ps:List Prt} {g:Prt→D},Fd H kvs ps g→kvs.map (·.1)=(ps.map (·.1)).map nkey
  | _,_,_,.nil=>rfl
  | _,_,_,.cons h r=>by
    rw [List.map_cons,List.map_cons,List.map_cons,h.1,Fd.keys r]
theorem Fd.val {H:Hp}:∀ {kvs:List (Key × V)} {ps:List Prt} {g:Prt→D} {x:List Nat},Fd H kvs ps g→x∈ps.map (·.1)→∃ v p,valV kvs (nkey x)=some v∧p∈ps∧p.1=x∧ps.find? (fun p=>decide (p.1=x))=some p∧Den H v (g p)
  | _,_,_,_,.nil,hx=>by cases hx
  | kv :: kvs,p :: ps,g,x,.cons h r,hx=>by
    by_cases hp:p.1=x
    · refine ⟨kv.2,p,valV_pos (by rw [h.1,hp]),.head _,hp,?_,h.2⟩
      rw [List.find?_cons,decide_eq_true hp]
    · have hx':x∈ps.map (·.1):=by
        rcases List.mem_cons.mp hx with z | z
        · exact absurd z.symm hp
        · exact z
      obtain ⟨v,q,a1,a2,a3,a4,a5⟩:=Fd.val r hx'
      refine ⟨v,q,(valV_neg fun z=>hp (nkey_inj (h.1.symm.trans z))).trans a1,.tail _ a2,a3,?_,a5⟩
      rw [List.find?_cons,decide_eq_false hp]
      exact a4
theorem merge_new:∀ (more acc:List (Key × V)),((acc++more).map (·.1)).Nodup→mergeK acc more=acc++more
  | [],acc,_=>by rw [List.append_nil]; rfl
  | kv :: more,acc,h=>by
    have hv:valV acc kv.1=none:=by
      cases e:valV acc kv.1 with
      | none=>rfl
      | some v =>
        unfold valV at e
        obtain ⟨q,hq,_⟩:=Option.map_eq_some_iff.mp e
        have hm:=List.mem_of_find?_eq_some hq
        have hq':q.1=kv.1:=by simpa using List.find?_some hq
        rw [List.map_append,List.map_cons,List.nodup_append] at h
        exact absurd rfl (h.2.2 q.1 (List.mem_map_of_mem hm) kv.1 (.head _) |> fun z=>by rw [hq'] at z; exact z)
    show mergeK (putK acc kv.1 kv.2) more=_
    rw [putK_new kv.2 hv,merge_new more _ (by rw [List.append_assoc]; exact h),List.append_assoc]
    rfl
theorem fd_map {H:Hp} {x:List Nat} {v:V} {d:D} (hv:Den H v d):∀ {kvs:List (Key × V)} {ps:List Prt} {g:Prt→D},Fd H kvs ps g→Fd H (kvs.map fun kv=>if kv.1=nkey x then (kv.1,v) else kv) ps (fun p=>if p.1=x then d else g p)
  | _,_,_,.nil=>.nil
  | kv :: kvs,p :: ps,g,.cons h r=>by
    refine .cons ?_ (fd_map hv r)
    show (if kv.1=nkey x then (kv.1,v) else kv).1=_∧Den H (if kv.1=nkey x then (kv.1,v) else kv).2 (if p.1=x then d else g p)
    by_cases hp:p.1=x
    · rw [if_pos (show kv.1=nkey x by rw [h.1,hp]),if_pos hp]
      exact ⟨h.1,hv⟩
    · rw [if_neg (fun z=>hp (nkey_inj (h.1.symm.trans z))),if_neg hp]
      exact h
theorem fd_put {H:Hp} {x:List Nat} {v:V} {d:D} {kvs:List (Key × V)} {ps:List Prt} {g:Prt→D} (h:Fd H kvs ps g) (hx:x∈ps.map (·.1)) (hv:Den H v d):Fd H (putK kvs (nkey x) v) ps (fun p=>if p.1=x then d else g p):=by
  unfold putK
  have ha:(kvs.any fun kv=>decide (kv.1=nkey x))=true:=by
    rw [valV_any]
    obtain ⟨v',p,e,_⟩:=h.val hx
    rw [e]
    rfl
  rw [if_pos ha]
  exact fd_map hv h
theorem fd_len {H:Hp} {kvs:List (Key × V)} {ps:List Prt} {g:Prt→D} (h:Fd H kvs ps g):kvs.length=ps.length:=Paired.length h
noncomputable def spSIL:Sp:=fun vs H Q _=>∃ (v:V) (k:Lnk) (s:Nat) (dm:Addr) (kvs:List (Key × V)) (ps:List Prt),vs=[v,.int (s:Nat),.ref dm]∧s≤1∧Den H v (linkD k)∧H dm=some (.dK kvs)∧Fd H kvs ps (fun p=>momD p.2.2)∧(∀ x∈sideOf (1 - s) k,x∈ps.map (·.1))∧(∀ p∈ps,p.2.2.length≤4) ∧
  (lostOf (1 - s) k).length≤4∧(sideOf (1 - s) k).length≤9∧∀ (u:V) (H':Hp),Same H H'→Den H' u (stD (pst ps k s))→Q u H'
theorem later_snoc (t:Int) (xs:List Int) (m:Int):later t (xs++[m])=later t xs++if t < m then [m] else []:=by
  unfold later
  rw [List.filter_append]
  by_cases h:t < m
  · rw [if_pos h]
    simp [h]
  · rw [if_neg h]
    simp [h]
section
variable {P:Program} {w:World} {K:PySem.W.Frag} {mg:Str→Option Value} {base:Heap}
theorem scStateInLink:FnScope ["link", "side", "moments", "seen", "name", "since"] ["link", "side", "moments"] (defScope sStateInLink):=⟨rfl,rfl,rfl,by decide +kernel,rfl,by decide +kernel,by decide +kernel⟩
theorem c_state_in_link (h:Has K mg "state_in_link" sStateInLink ["link", "side", "moments"]) (m_list:mg "list" = none) (m_min:mg "min" = none):Cal P w K mg base "state_in_link" 1 ["link", "side", "moments"] spSIL:=by
  refine h.mk' scStateInLink (fun vs H Q E hs=>?_) (fun f cdv A outer s H vs Q E hr hs=>?_)
  · refine hid fun G bk_ => ?_
    obtain ⟨v,k,s,dm,kvs,ps,rfl,_⟩ := hs
    refine bk_ ?_
    rfl
  refine hid fun G bk_ => ?_
  obtain ⟨v,k,sd,dm,kvs,ps,rfl,hs1,hv,hdm,hfd,hin,hml,hll,hsl,kk⟩ := hs
  refine bk_ ?_
  refine ⟨_,(pss_cons (ps_set (i:=3) scStateInLink.nd rfl (Or.inl rfl) (pe_callTy call_list_of rfl m_list boot_list (pa_cons (pe_ix ix_tup0 (pe_ix ix_tup0 (pv 0) pe_int (fun _ _=>rfl)) (pe_op op_sub pe_int (pv 1)) (fun _ _=>rfl)) pa_nil)))
    (pss_cons (ps_for PassesOwn.never rfl (pi_tup0 (pe_ix ix_tup0 (pv 0) (pe_op op_sub pe_int (pv 1)) (fun _ _=>rfl))) (pg_name (i:=4) scStateInLink.nd rfl (Or.inl rfl))
      (pss_one (ps_expr (pe_bmZ PySem.F.plainAttrs_list PySem.F.slot_list_extend PySem.F.type_list_extend mt_extendT (pv 3) (pa_cons (pe_dget (hu_of hr) (pv 2) (pv 4) (fun _ _=>rfl)) pa_nil)))))
    (pss_cons (ps_set (i:=5) scStateInLink.nd rfl (Or.inl rfl) (pe_minN rfl m_min rfl (pe_compL ["link", "side", "moments", "seen", "name", "since"] (defScope sStateInLink) ["link", "moment"] [some 0,none] rfl rfl rfl (pi_list0 (pv 3)) rfl (by decide +kernel) (by decide +kernel) (by decide +kernel) (by decide +kernel) (hg:=fun cl C s H ex pn E=>(pg_name (i:=1) (by decide +kernel:(["link", "moment"]:List Str).Nodup) rfl (Or.inl rfl))) (ht:=fun cl C s H ex pn E=>(pifs_one (pt_cmpR op_gt (pv 1) (pe_ix (ix_tup0) (pv 0) pe_int (fun _ _=>rfl)) (nomark _)))) (he:=fun cl C s H ex pn E=>(pv 1)))))
    (pss_one (ps_ret (pe_ifExp (pt_cmpR op_isN (pv 5) pe_non (nomark _)) (pe_tup (pa_cons pe_str pa_nil)) (pe_tup (pa_cons pe_str (pa_cons (pv 5) pa_nil))))))))),?_⟩
  refine hid fun G bk_ => ?_
  obtain ⟨p,p0,p1,p3,p4,p5,us0,us1,rfl,hp,h0,hd0,h1,hd1,h3,h4,h5⟩ := den_link hv
  refine bk_ ?_
  rw [denS hd0] at h0
  rw [denS hd1] at h1
  have at3:atI [V.ref p0,V.ref p1,V.int k.2.2.1,V.ref p3] 3=some (.ref p3):=atI_nat (xs:=[V.ref p0,V.ref p1,V.int k.2.2.1,V.ref p3]) (j:=3) rfl
  have at2:atI [V.ref p0,V.ref p1,V.int k.2.2.1,V.ref p3] 2=some (.int k.2.2.1):=atI_nat (xs:=[V.ref p0,V.ref p1,V.int k.2.2.1,V.ref p3]) (j:=2) rfl
  obtain ⟨pq,pl,e1,e2,hpq,hpl⟩:∃ pq pl,atI [V.ref p0,V.ref p1,V.int k.2.2.1,V.ref p3] (1 - (sd:Int))=some (.ref pq)∧atI [V.ref p4,V.ref p5] (1 - (sd:Int))=some (.ref pl)∧H pq=some (.tup ((sideOf (1 - sd) k).map mkT))∧H pl=some (.tup ((lostOf (1 - sd) k).map V.int)):=by
    match sd,hs1 with
    | 0,_=>exact ⟨p1,p5,atI_nat (xs:=[V.ref p0,V.ref p1,V.int k.2.2.1,V.ref p3]) (j:=1) rfl,atI_nat (xs:=[V.ref p4,V.ref p5]) (j:=1) rfl,h1,h5⟩
    | 1,_=>exact ⟨p0,p4,atI_zero _ _,atI_zero _ _,h0,h4⟩
  refine ⟨_,rfl, ixT (p := p) rfl rfl (SqT.of hp) (at3) (⟨_,rfl,_,_,rfl,rfl, ixT (p := p3) rfl rfl (SqT.of h3) (e2) (⟨pl,_,rfl,.inr (SqT.of hpl),fun ls hls=>?_⟩)⟩)⟩
  have s1:=same_new hls (.lst ((lostOf (1 - sd) k).map V.int))
  refine ⟨_,rfl,_,rfl,_,_,rfl,rfl, ixT (p := p) rfl rfl (SqT.of (s1 _ _ hp)) (e1) (⟨pq,rfl,⟨_,SqT.of (s1 _ _ hpq)⟩,?_⟩)⟩
  have hdl:dm≠ls:=ne_of_none hdm hls
  refine for_tup (K := K0) (a:=pq) (xs:=(sideOf (1 - sd) k).map mkT) (fun i σ H2=>∃ v4:Option V,σ=[some (.ref p),some (.int (sd:Nat)),some (.ref dm),some (.ref ls),v4,none]∧Same H H2∧H2 ls=some (.lst ((lostOf (1 - sd) k++((sideOf (1 - sd) k).take i).flatMap (momsOf ps)).map V.int))∧(((sideOf (1 - sd) k).take i).flatMap (momsOf ps)).length≤4 * i) ⟨_,rfl,s1,by rw [List.take_zero,List.flatMap_nil,List.append_nil]; exact upd_same,Nat.le_refl _⟩ ?_ ?_ ?_
  · rintro i σ H2 _ ⟨v4,rfl,s2,_⟩
    exact SqT.of (s2 _ _ hpq)
  · rintro i y σ H2 hi ⟨v4,rfl,s2,e2l,hle⟩
    have hi':i < (sideOf (1 - sd) k).length:=by
      have:=(List.getElem?_eq_some_iff.mp hi).1
      rwa [List.length_map] at this
    rw [at_T hi'] at hi
    injection hi with hi
    subst hi
    refine hid fun G bk_ => ?_
    obtain ⟨u,q,a1,a2,a3,a4,a5⟩ := hfd.val (hin _ (List.getElem_mem hi'))
    refine bk_ ?_
    have em:momsOf ps (sideOf (1 - sd) k)[i]=q.2.2:=by
      unfold momsOf
      rw [a4]
    obtain ⟨pm,ws,rfl,hpm,hdm'⟩:=den_tup a5
    rw [denI hdm'] at hpm
    have hg:=DGet.k (k:=nkey (sideOf (1 - sd) k)[i]) (s2 _ _ hdm)
    rw [a1] at hg
    have hql:=hml q a2
    have htk:(sideOf (1 - sd) k).take (i+1)=(sideOf (1 - sd) k).take i++[(sideOf (1 - sd) k)[i]]:=by
      rw [List.take_add_one,List.getElem?_eq_getElem hi']
      rfl
    refine gN ⟨_,rfl,.inl ⟨rfl,_,SqL.of e2l⟩,_,rfl,_,rfl,dm,_,rfl,hg,ls,pm,_,_,rfl,rfl,e2l,SqT.of (s2 _ _ hpm),?_,?_⟩
    · rw [List.length_map,List.length_map,List.length_append]
      exact small (by omega)
    · refine ⟨_,rfl,?_,?_,?_⟩
      · intro c o z
        rw [upd_ne (ne_of_none z hls)]
        exact s2 c o z
      · rw [upd_same,htk,List.flatMap_append,← em]
        simp only [List.flatMap_cons,List.flatMap_nil,List.append_nil,List.map_append,List.append_assoc]
      · rw [htk]
        simp only [List.flatMap_append,List.flatMap_cons,List.flatMap_nil,List.append_nil,List.length_append]
        rw [em]
        omega
  · rintro σ H2 ⟨v4,rfl,s2,e2l,hle⟩
    rw [List.length_map,List.take_length] at e2l hle
    have e2l':H2 ls=some (.lst ((seenP ps k (1 - sd)).map V.int)):=e2l
    have hsl':(seenP ps k (1 - sd)).length≤40:=by
      unfold seenP
      rw [List.length_append]
      omega
    refine ⟨_,rfl,ls,rfl,⟨_,SqL.of e2l'⟩,fun lc hlc=>?_⟩
    refine comp_by (J:=Itl K0 ls) (l:=lc) ((seenP ps k (1 - sd)).map V.int).length (fun i σ' H'=>∃ v:Option V,σ'=[some (.ref p),v]∧Same H2 H'∧H' lc=some (.lst ((later k.2.2.1 ((seenP ps k (1 - sd)).take i)).map V.int))) ⟨none,rfl,same_new hlc _,upd_same⟩ ?_ ?_
    · rintro σ' H3 ⟨v,rfl,s3,e3⟩
      rw [List.length_map,List.take_length] at e3
      have sA:=s2.trans s3
      refine ⟨⟨_,SqL.of (s3 _ _ e2l'),Nat.le_refl _⟩,lc,_,rfl,SqL.of e3,fun hn=>?_,fun m hm hmin=>?_⟩
      · refine gN ⟨_,rfl,rfl,_,rfl,iteT ⟨smn 1,fun q hq=>?_⟩⟩
        refine kk (.ref q) _ (sA.trans (same_new hq _)) ?_
        have e:pst ps k sd=.step:=by
          unfold pst
          rw [hn]
          rfl
        rw [e]
        exact ⟨q,_,rfl,upd_same,rfl,trivial⟩
      · refine gN ⟨_,rfl,rfl,_,rfl,iteF ⟨_,rfl,smn 2,fun q hq=>?_⟩⟩
        refine kk (.ref q) _ (sA.trans (same_new hq _)) ?_
        have e:pst ps k sd=.stale m:=stOf_eq hm hmin
        rw [e]
        exact ⟨q,_,rfl,upd_same,rfl,rfl,trivial⟩
    · rintro i σ' H3 hi ⟨v,rfl,s3,e3⟩
      have hi':i < (seenP ps k (1 - sd)).length:=by rwa [List.length_map] at hi
      have hat:((seenP ps k (1 - sd)).map V.int)[i]?=some (.int (seenP ps k (1 - sd))[i]):=by rw [List.getElem?_map,List.getElem?_eq_getElem hi']; rfl
      refine ⟨⟨_,_,SqL.of (s3 _ _ e2l'),hat⟩,?_⟩
      rintro y H'' ⟨rfl,hy⟩
      have ey:y=.int (seenP ps k (1 - sd))[i]:=Option.some.inj ((hy _ (SqL.of (s3 _ _ e2l'))).symm.trans hat)
      subst ey
      have htk:(seenP ps k (1 - sd)).take (i+1)=(seenP ps k (1 - sd)).take i++[(seenP ps k (1 - sd))[i]]:=by
        rw [List.take_add_one,List.getElem?_eq_getElem hi']
        rfl
      refine gN ⟨_,rfl,_,rfl, ixT (p := p) rfl rfl (SqT.of ((s2.trans s3) _ _ hp)) (at2) (⟨_,_,rfl,rfl,_,rfl,?_⟩)⟩
      refine ite2 (fun z=>?_) (fun z=>?_)
      · have z':k.2.2.1 < (seenP ps k (1 - sd))[i]:=of_decide_eq_true z
        refine ⟨_,rfl,_,e3,?_,_,rfl,?_,?_⟩
        · rw [List.length_map]
          have:(later k.2.2.1 ((seenP ps k (1 - sd)).take i)).length≤((seenP ps k (1 - sd)).take i).length:=List.length_filter_le _ _
          rw [List.length_take] at this
          exact small1000 (by omega)
        · intro c o z
          rw [upd_ne (ne_of_none z hlc)]
          exact s3 c o z
        · rw [upd_same,htk,later_snoc,if_pos z',List.map_append]
          rfl
      · have z':¬ k.2.2.1 < (seenP ps k (1 - sd))[i]:=fun w=>z (decide_eq_true w)
        refine ⟨_,rfl,s3,?_⟩
        rw [htk,later_snoc,if_neg z',List.append_nil]
        exact e3
end
theorem den_book {H:Hp} {v:V} {L R:List Prt} {ks:List Lnk} {al:Nms} (h:Den H v (bookD L R ks al)):∃ (p pl pr pk pa:Addr) (ls rs us:List V),v=.ref p∧H p=some (.tup [.ref pl,.ref pr,.ref pk,.ref pa])∧H pl=some (.tup ls)∧DenL H ls (L.map partD)∧H pr=some (.tup rs)∧DenL H rs (R.map partD)∧H pk=some (.tup us)∧DenL H us (ks.map linkD)∧H pa=some (.tup ((al.map sOf).map V.str)):=by
  obtain ⟨p,us,rfl,hp,hd⟩:=den_tup h
  obtain ⟨b0,b1,b2,b3,rfl⟩:∃ b0 b1 b2 b3,us=[b0,b1,b2,b3]:=by
    match us,hd with
    | [b0,b1,b2,b3],_=>exact ⟨b0,b1,b2,b3,rfl⟩
    | [],h=>exact h.elim
    | [_],h=>exact h.2.elim
    | [_,_],h=>exact h.2.2.elim
    | [_,_,_],h=>exact h.2.2.2.elim
    | _ :: _ :: _ :: _ :: _ :: _,h=>exact h.2.2.2.2.elim
  obtain ⟨pl,ls,rfl,hpl,hdl⟩:=den_tup hd.1
  obtain ⟨pr,rs,rfl,hpr,hdr⟩:=den_tup hd.2.1
  obtain ⟨pk,ws,rfl,hpk,hdk⟩:=den_tup hd.2.2.1
  obtain ⟨pa,as,rfl,hpa,hda⟩:=den_tup hd.2.2.2.1
  rw [denS hda] at hpa
  exact ⟨p,pl,pr,pk,pa,ls,rs,ws,rfl,hp,hpl,hdl,hpr,hdr,hpk,hdk,by rw [List.map_map]; exact hpa⟩
theorem Fd.congr {H:Hp}:∀ {kvs:List (Key × V)} {ps:List Prt} {g g':Prt→D},(∀ p∈ps,g p=g' p)→Fd H kvs ps g→Fd H kvs ps g'
  | _,_,_,_,_,.nil=>.nil
  | kv :: kvs,p :: ps,g,g',h,.cons a r=>.cons ⟨a.1,by rw [← h p (.head _)]; exact a.2⟩ (Fd.congr (fun q hq=>h q (.tail _ hq)) r)
theorem Fd.snoc {H:Hp} {kv:Key × V} {p:Prt} {g:Prt→D} (h:kv.1=nkey p.1∧Den H kv.2 (g p)):∀ {kvs:List (Key × V)} {ps:List Prt},Fd H kvs ps g→Fd H (kvs++[kv]) (ps++[p]) g
  | _,_,.nil=>.cons h .nil
  | _,_,.cons a r=>.cons a (Fd.snoc h r)
theorem Fd.nodup {H:Hp} {kvs:List (Key × V)} {ps:List Prt} {g:Prt→D} (h:Fd H kvs ps g) (hn:(ps.map (·.1)).Nodup):(kvs.map (·.1)).Nodup:=by
  rw [h.keys,List.nodup_iff_pairwise_ne,List.pairwise_map]
  rw [List.nodup_iff_pairwise_ne] at hn
  exact hn.imp fun hne e=>hne (nkey_inj e)
theorem setAll_snoc (f:List Nat→Stt) (xs:Nms) (x:List Nat) (s:Stt) (y:List Nat):setAll f (xs++[x]) s y=if y=x then s else setAll f xs s y:=by
  unfold setAll
  by_cases h:y=x
  · rw [if_pos h,if_pos (by rw [h]; simp)]
  · rw [if_neg h]
    by_cases h2:y∈xs
    · rw [if_pos h2,if_pos (List.mem_append_left _ h2)]
    · rw [if_neg h2,if_neg (fun z=>by rcases List.mem_append.mp z with w | w; exact h2 w; exact h (List.mem_singleton.mp w))]
theorem keepT_dict {H:Hp} {d:Addr} {a b:List (Key × V)} (hd:H d=some (.dK a)):∀ (c:Addr) (vs:List V),H c=some (.tup vs)→upd H d (.dK b) c=some (.tup vs):=fun c vs e=>by
  rw [upd_ne (ne_of e hd (by intro z; cases z))]
  exact e
theorem prs_keepT {H H':Hp} (e:∀ (b:Addr) (vs:List V),H b=some (.tup vs)→H' b=some (.tup vs)) {vs:List V} {kvs:List (Key × V)} (h:Prs H vs kvs):Prs H' vs kvs:=Paired.mapP h fun _ _ ⟨p,a,b⟩=>⟨p,a,e _ _ b⟩
theorem Fd.keepT {H H':Hp} (e:∀ (b:Addr) (vs:List V),H b=some (.tup vs)→H' b=some (.tup vs)) {kvs:List (Key × V)} {ps:List Prt} {g:Prt→D} (h:Fd H kvs ps g):Fd H' kvs ps g:=h.mono (Den.keepT e)
noncomputable def midF (ps:List Prt) (f:List Nat→Stt) (k:Lnk):Nat→List Nat→Stt
  | 0=>f
  | 1=>setAll f k.1 (pst ps k 0)
  | _=>afterLink ps f k
theorem mid_step (ps:List Prt) (f:List Nat→Stt) (k:Lnk) {n:Nat} (hn:n≤1):midF ps f k (n+1)=setAll (midF ps f k n) (sideOf n k) (pst ps k n):=by
  match n,hn with
  | 0,_=>rfl
  | 1,_=>rfl
noncomputable def spSBN:Sp:=fun vs H Q _=>∃ (v:V) (L R:List Prt) (ks:List Lnk) (al:Nms),vs=[v]∧Den H v (bookD L R ks al)∧VB L R ks al∧∀ (d:Addr) (kvs:List (Key × V)) (H':Hp),H d=none→Same H H'→H' d=some (.dK kvs)→Fd H' kvs (L++R) (fun p=>stD (final (L++R) ks al p.1))→Q (.ref d) H'
section
variable {P:Program} {w:World} {K:PySem.W.Frag} {mg:Str→Option Value} {base:Heap}
theorem scStatesByName:FnScope ["book", "parts", "found", "name", "moments", "link", "side", "state"] ["book"] (defScope sStatesByName):=⟨rfl,rfl,rfl,by decide +kernel,rfl,by decide +kernel,by decide +kernel⟩
theorem c_states_by_name (h:Has K mg "states_by_name" sStatesByName ["book"]) (C_state_in_link:Cal P w K mg base "state_in_link" 1 ["link", "side", "moments"] spSIL) (m_dict:mg "dict" = none):Cal P w K mg base "states_by_name" 2 ["book"] spSBN:=by
  refine h.mk' scStatesByName (fun vs H Q E hs=>?_) (fun f cdv A outer s H vs Q E hr hs=>?_)
  · refine hid fun G bk_ => ?_
    obtain ⟨v,L,R,ks,al,rfl,_⟩ := hs
    refine bk_ ?_
    rfl
  refine hid fun G bk_ => ?_
  obtain ⟨v,L,R,ks,al,rfl,hv,vb,kk⟩ := hs
  refine bk_ ?_
  refine ⟨_,(pss_cons (ps_set (i:=1) scStatesByName.nd rfl (Or.inl rfl) (pe_op op_catT2 (pe_ix ix_tup0 (pv 0) pe_int (fun _ _=>rfl)) (pe_ix ix_tup0 (pv 0) pe_int (fun _ _=>rfl))))
    (pss_cons (ps_set (i:=2) scStatesByName.nd rfl (Or.inl rfl) (pe_callTy (call_dict_of rfl) rfl m_dict boot_dict (pa_cons (pe_compL ["book", "parts", "found", "name", "moments", "link", "side", "state"] (defScope sStatesByName) ["part"] [none] rfl rfl rfl (pi_tup0 (pv 1)) rfl (by decide +kernel) (by decide +kernel) (by decide +kernel) (by decide +kernel) (hg:=fun cl C s H ex pn E=>(pg_name (i:=0) (by decide +kernel:(["part"]:List Str).Nodup) rfl (Or.inl rfl))) (ht:=fun cl C s H ex pn E=>pifs_nil) (he:=fun cl C s H ex pn E=>(pe_tup (pa_cons (pe_ix (ix_tup0) (pv 0) pe_int (fun _ _=>rfl)) (pa_cons (pe_tup (pa_cons pe_str pa_nil)) pa_nil))))) pa_nil)))
    (pss_cons (ps_for PassesOwn.never rfl (pi_tup0 (pe_ix ix_tup0 (pv 0) pe_int (fun _ _=>rfl))) (pg_name (i:=3) scStatesByName.nd rfl (Or.inl rfl))
      (pss_one (ps_dput (hu_of hr) (pv 2) (pv 3) (pe_tup (pa_cons pe_str pa_nil)) rfl)))
    (pss_cons (ps_set (i:=4) scStatesByName.nd rfl (Or.inl rfl) (pe_callTy (call_dict_of rfl) rfl m_dict boot_dict (pa_cons (pe_compL ["book", "parts", "found", "name", "moments", "link", "side", "state"] (defScope sStatesByName) ["part"] [none] rfl rfl rfl (pi_tup0 (pv 1)) rfl (by decide +kernel) (by decide +kernel) (by decide +kernel) (by decide +kernel) (hg:=fun cl C s H ex pn E=>(pg_name (i:=0) (by decide +kernel:(["part"]:List Str).Nodup) rfl (Or.inl rfl))) (ht:=fun cl C s H ex pn E=>pifs_nil) (he:=fun cl C s H ex pn E=>(pe_tup (pa_cons (pe_ix (ix_tup0) (pv 0) pe_int (fun _ _=>rfl)) (pa_cons (pe_ix (ix_tup0) (pv 0) pe_int (fun _ _=>rfl)) pa_nil))))) pa_nil)))
    (pss_cons (ps_for PassesOwn.never rfl (pi_tup0 (pe_ix ix_tup0 (pv 0) pe_int (fun _ _=>rfl))) (pg_name (i:=5) scStatesByName.nd rfl (Or.inl rfl))
      (pss_one (ps_for PassesOwn.never rfl (pi_tup0 (pe_tup (pa_cons pe_int (pa_cons pe_int pa_nil)))) (pg_name (i:=6) scStatesByName.nd rfl (Or.inl rfl))
      (pss_cons (ps_set (i:=7) scStatesByName.nd rfl (Or.inl rfl) (pe_cal C_state_in_link hr (by decide) rfl (pa_cons (pv 5) (pa_cons (pv 6) (pa_cons (pv 4) pa_nil)))))
    (pss_one (ps_for PassesOwn.never rfl (pi_tup0 (pe_ix ix_tup0 (pv 5) (pv 6) (fun _ _=>rfl))) (pg_name (i:=3) scStatesByName.nd rfl (Or.inl rfl))
      (pss_one (ps_dput (hu_of hr) (pv 2) (pv 3) (pv 7) rfl))))))))
    (pss_one (ps_ret (pv 2)))))))),?_⟩
  refine hid fun G bk_ => ?_
  obtain ⟨p,pl,pr,pk,pa,ls,rs,ws,rfl,hp,hpl,hdl,hpr,hdr,hpk,hdk,hpa⟩ := den_book hv
  refine bk_ ?_
  have at0:atI [V.ref pl,V.ref pr,V.ref pk,V.ref pa] 0=some (.ref pl):=atI_zero _ _
  have at1:atI [V.ref pl,V.ref pr,V.ref pk,V.ref pa] 1=some (.ref pr):=atI_nat (xs:=[V.ref pl,V.ref pr,V.ref pk,V.ref pa]) (j:=1) rfl
  have at2:atI [V.ref pl,V.ref pr,V.ref pk,V.ref pa] 2=some (.ref pk):=atI_nat (xs:=[V.ref pl,V.ref pr,V.ref pk,V.ref pa]) (j:=2) rfl
  have at3:atI [V.ref pl,V.ref pr,V.ref pk,V.ref pa] 3=some (.ref pa):=atI_nat (xs:=[V.ref pl,V.ref pr,V.ref pk,V.ref pa]) (j:=3) rfl
  have l1:=hdl.len
  have l2:=hdr.len
  rw [List.length_map] at l1 l2
  have lL:=vb.lL
  have lR:=vb.lR
  refine ⟨_,rfl, ixT (p := p) rfl rfl (SqT.of hp) (at0) (⟨_,rfl, ixT (p := p) rfl rfl (SqT.of hp) (at1) (?_)⟩)⟩
  refine ⟨pl,pr,_,_,rfl,rfl,hpl,hpr,small (by omega),fun q2 H2 s2 e2=>?_⟩
  have dA:DenL H2 (ls++rs) ((L++R).map partD):=by
    rw [List.map_append]
    exact denl_app (hdl.same s2) (hdr.same s2)
  have hnd:=vb.nd
  generalize ls++rs=us at e2 dA
  generalize hLR:L++R=ps at dA kk hnd
  have hpl18:ps.length≤18:=by rw [← hLR,List.length_append]; omega
  have hmo:∀ q∈ps,q.2.2.length≤4:=fun q hq=>(vb.mo q (by rw [hLR]; exact hq)).1
  have hul:=dA.len
  rw [List.length_map] at hul
  have part_at:∀ {i:Nat} {H':Hp},(hi:i < ps.length)→Same H2 H'→∃ (b pm:Addr) (y:V),us[i]?=some (.ref b)∧H' b=some (.tup [mkT ps[i].1,y,.ref pm])∧Den H' (.ref pm) (momD ps[i].2.2):=by
    intro i H' hi s
    have hat:us[i]?=some us[i]:=List.getElem?_eq_getElem (by omega)
    obtain ⟨dd,hdd,dy⟩:=dA.at_ hat
    rw [List.getElem?_map,List.getElem?_eq_getElem hi] at hdd
    have edd:partD ps[i]=dd:=Option.some.inj hdd
    subst edd
    obtain ⟨b,bs,eb,hb,hbd⟩:=den_tup (dy.same s)
    match bs,hbd with
    | [c0,c1,c2],hbd =>
      have ec:c0=mkT ps[i].1:=hbd.1
      obtain ⟨pm,ms,rfl,h1,h2⟩:=den_tup hbd.2.2.1
      exact ⟨b,pm,c1,by rw [hat,eb],by rw [hb,ec],⟨pm,ms,rfl,h1,h2⟩⟩
    | [],h=>exact h.elim
    | [_],h=>exact h.2.elim
    | [_,_],h=>exact h.2.2.elim
    | _ :: _ :: _ :: _ :: _,h=>exact h.2.2.2.elim
  refine ⟨_,rfl,q2,rfl,⟨_,SqT.of e2⟩,fun lc hlc=>?_⟩
  refine comp_by (J:=Itt K0 q2) (l:=lc) us.length (fun i σ' H'=>∃ (v:Option V) (vs:List V) (kvs:List (Key × V)),σ'=[v]∧Same H2 H'∧H' lc=some (.lst vs)∧Prs H' vs kvs∧Fd H' kvs (ps.take i) (fun _=>stD .lack)) ⟨none,[],[],rfl,same_new hlc _,upd_same,.nil,.nil⟩ ?_ ?_
  · intro σ' H3 q_ 
    refine hid fun G bk_ => ?_
    obtain ⟨v,vs,kvs,rfl,s3,e3,pr3,fd3⟩ := q_
    refine bk_ ?_
    rw [hul,List.take_length] at fd3
    refine ⟨⟨_,SqT.of (s3 _ _ e2),Nat.le_refl _⟩,lc,vs,kvs,rfl,e3,pr3,fun d hd=>?_⟩
    have em:mergeK [] kvs=kvs:=merge_new kvs [] (by rw [List.nil_append]; exact fd3.nodup hnd)
    rw [em]
    have hdH:H d=none:=same_none (s2.trans s3) hd
    have s4:=same_new hd (.dK kvs)
    have sA:=(s2.trans s3).trans s4
    have fd4:=fd3.same s4
    have e4d:(upd H3 d (.dK kvs)) d=some (.dK kvs):=upd_same
    have s24:Same H2 (upd H3 d (.dK kvs)):=s3.trans s4
    generalize upd H3 d (.dK kvs)=H4 at sA fd4 e4d s24
    clear s4 fd3 pr3 e3 s3 hd
    refine gN ⟨_,rfl, ixT (p := p) rfl rfl (SqT.of (sA _ _ hp)) (at3) (⟨pa,rfl,⟨_,SqT.of (sA _ _ hpa)⟩,?_⟩)⟩
    have hal:(al.map sOf).map V.str=al.map mkT:=by rw [List.map_map]; rfl
    rw [hal] at hpa
    have nq:q2≠d:=fun z=>by
      subst z
      rw [s24 _ _ e2] at e4d
      cases e4d
    refine for_tup (K := K0) (a:=pa) (xs:=al.map mkT) (fun i σ H5=>∃ (v3:Option V) (kvs:List (Key × V)),σ=[some (.ref p),some (.ref q2),some (.ref d),v3,none,none,none,none]∧Same H H5∧H5 d=some (.dK kvs)∧Fd H5 kvs ps (fun p=>stD (setAll (fun _=>.lack) (al.take i) .alone p.1))∧H5 q2=some (.tup us)∧DenL H5 us (ps.map partD)) ⟨_,kvs,rfl,sA,e4d,fd4,s24 _ _ e2,dA.same s24⟩ ?_ ?_ ?_
    · rintro i σ H5 _ ⟨v3,kvs,rfl,s5,_⟩
      exact SqT.of (s5 _ _ hpa)
    · intro i y σ H5 hi q_ 
      refine hid fun G bk_ => ?_
      obtain ⟨v3,kvs,rfl,s5,e5d,fd5,e5q,dn5⟩ := q_
      refine bk_ ?_
      have hi':i < al.length:=by
        have:=(List.getElem?_eq_some_iff.mp hi).1
        rwa [List.length_map] at this
      rw [at_T hi'] at hi
      injection hi with hi
      subst hi
      have hx:al[i]∈ps.map (·.1):=by rw [← hLR]; exact vb.al_in _ (List.getElem_mem hi')
      have fl:=fd_len fd5
      refine gN ⟨smn 1,fun t ht=>⟨_,rfl,_,rfl,d,_,rfl,DPut.k (k:=nkey al[i]) (same_new ht _ _ _ e5d) (small1000 (by omega)),?_⟩⟩
      have w:=same_new ht (.tup [.str "alone"])
      have kT:=keepT_dict (b:=putK kvs (nkey al[i]) (.ref t)) (w _ _ e5d)
      refine ⟨_,putK kvs (nkey al[i]) (.ref t),rfl,?_,upd_same,?_,kT _ _ (w _ _ e5q),(dn5.same w).keepT kT⟩
      · intro c o z
        rw [upd_ne (ne_of_none z hdH)]
        exact w _ _ (s5 c o z)
      · refine Fd.congr (fun q _=>?_) ((fd_put (fd5.same w) hx (show Den _ (.ref t) (stD .alone) from ⟨t,_,rfl,upd_same,rfl,trivial⟩)).keepT kT)
        rw [List.take_add_one,List.getElem?_eq_getElem hi']
        show _=stD (setAll _ (al.take i++[al[i]]) _ _)
        rw [setAll_snoc]
        split <;> rfl
    · intro σ H5 q_ 
      refine hid fun G bk_ => ?_
      obtain ⟨v3,kvs,rfl,s5,e5d,fd5,e5q,dn5⟩ := q_
      refine bk_ ?_
      rw [List.length_map,List.take_length] at fd5
      have part_at5:∀ {i:Nat} {H':Hp},(hi:i < ps.length)→Same H5 H'→∃ (b pm:Addr) (y:V),us[i]?=some (.ref b)∧H' b=some (.tup [mkT ps[i].1,y,.ref pm])∧Den H' (.ref pm) (momD ps[i].2.2):=by
        intro i H' hi s
        have hat:us[i]?=some us[i]:=List.getElem?_eq_getElem (by omega)
        obtain ⟨dd,hdd,dy⟩:=dn5.at_ hat
        rw [List.getElem?_map,List.getElem?_eq_getElem hi] at hdd
        have edd:partD ps[i]=dd:=Option.some.inj hdd
        subst edd
        obtain ⟨b,bs,eb,hb,hbd⟩:=den_tup (dy.same s)
        match bs,hbd with
        | [c0,c1,c2],hbd =>
          have ec:c0=mkT ps[i].1:=hbd.1
          obtain ⟨pm,ms,rfl,h1,h2⟩:=den_tup hbd.2.2.1
          exact ⟨b,pm,c1,by rw [hat,eb],by rw [hb,ec],⟨pm,ms,rfl,h1,h2⟩⟩
        | [],h=>exact h.elim
        | [_],h=>exact h.2.elim
        | [_,_],h=>exact h.2.2.elim
        | _ :: _ :: _ :: _ :: _,h=>exact h.2.2.2.elim
      refine ⟨_,rfl,q2,rfl,⟨_,SqT.of e5q⟩,fun lm hlm=>?_⟩
      refine comp_by (J:=Itt K0 q2) (l:=lm) us.length (fun i σ' H'=>∃ (v:Option V) (vs:List V) (kvm:List (Key × V)),σ'=[v]∧Same H5 H'∧H' lm=some (.lst vs)∧Prs H' vs kvm∧Fd H' kvm (ps.take i) (fun q=>momD q.2.2)) ⟨none,[],[],rfl,same_new hlm _,upd_same,.nil,.nil⟩ ?_ ?_
      · intro σ' H6 q_ 
        refine hid fun G bk_ => ?_
        obtain ⟨v,vs,kvm,rfl,s6,e6,pr6,fd6⟩ := q_
        refine bk_ ?_
        rw [hul,List.take_length] at fd6
        refine ⟨⟨_,SqT.of (s6 _ _ e5q),Nat.le_refl _⟩,lm,vs,kvm,rfl,e6,pr6,fun dm hdm=>?_⟩
        rw [merge_new kvm [] (by rw [List.nil_append]; exact fd6.nodup hnd),List.nil_append]
        have s7:=same_new hdm (.dK kvm)
        have e7m:(upd H6 dm (.dK kvm)) dm=some (.dK kvm):=upd_same
        have s57:=s6.trans s7
        have fdm:=fd6.same s7
        have nmd:dm≠d:=(ne_of_none (s6 _ _ e5d) hdm).symm
        generalize upd H6 dm (.dK kvm)=H7 at e7m s57 fdm
        have s07:=s5.trans s57
        have hdmH:H dm=none:=same_none (s5.trans s6) hdm
        clear s7 fd6 pr6 e6 s6 hdm hlm
        have hwl:=hdk.len
        rw [List.length_map] at hwl
        refine gN ⟨_,rfl, ixT (p := p) rfl rfl (SqT.of (s07 _ _ hp)) (at2) (⟨pk,rfl,⟨_,SqT.of (s07 _ _ hpk)⟩,?_⟩)⟩
        refine for_tup (K := K0) (a:=pk) (xs:=ws) (fun i σ H8=>∃ (v3 v5 v6 v7:Option V) (kvs:List (Key × V)),σ=[some (.ref p),some (.ref q2),some (.ref d),v3,some (.ref dm),v5,v6,v7]∧Same H H8∧H8 d=some (.dK kvs)∧Fd H8 kvs ps (fun p=>stD ((ks.take i).foldl (afterLink ps) (setAll (fun _=>.lack) al .alone) p.1))∧H8 dm=some (.dK kvm)∧Fd H8 kvm ps (fun q=>momD q.2.2)) ⟨_,_,_,_,kvs,rfl,s07,s57 _ _ e5d,fd5.same s57,e7m,fdm⟩ ?_ ?_ ?_
        · intro i σ H8 _ q_ 
          refine hid fun G bk_ => ?_
          obtain ⟨v3,v5,v6,v7,kvs,rfl,s8,_⟩ := q_
          refine bk_ ?_
          exact SqT.of (s8 _ _ hpk)
        · intro i y σ H8 hi q_ 
          refine hid fun G bk_ => ?_
          obtain ⟨v3,v5,v6,v7,kvs,rfl,s8,e8d,fd8,e8m,fm8⟩ := q_
          refine bk_ ?_
          have hni:i < ks.length:=by
            have:=(List.getElem?_eq_some_iff.mp hi).1
            omega
          obtain ⟨dd,hdd,dy⟩:=hdk.at_ hi
          rw [List.getElem?_map,List.getElem?_eq_getElem hni] at hdd
          have edd:linkD ks[i]=dd:=Option.some.inj hdd
          subst edd
          have hkm:ks[i]∈ks:=List.getElem_mem hni
          have htk:ks.take (i+1)=ks.take i++[ks[i]]:=by
            rw [List.take_add_one,List.getElem?_eq_getElem hni]
            rfl
          generalize hk:ks[i]=k at *
          refine hid fun G bk_ => ?_
          obtain ⟨b,p0,p1,p3,p4,p5,us0,us1,rfl,hb,h0,hd0,h1,hd1,_⟩ := den_link dy
          refine bk_ ?_
          rw [denS hd0] at h0
          rw [denS hd1] at h1
          generalize hf:(ks.take i).foldl (afterLink ps) (setAll (fun _=>.lack) al .alone)=f0 at fd8
          have inS:∀ n:Nat,n≤1→∀ x∈sideOf n k,x∈ps.map (·.1):=fun n hn x hx=>by
            rw [← hLR,List.map_append]
            match n,hn with
            | 0,_=>exact List.mem_append_left _ (vb.on x (List.mem_flatMap.mpr ⟨k,hkm,hx⟩))
            | 1,_=>exact List.mem_append_right _ (vb.off x (List.mem_flatMap.mpr ⟨k,hkm,hx⟩))
          have lenS:∀ n:Nat,(sideOf n k).length≤9∧(lostOf n k).length≤4:=fun n=>by
            unfold sideOf lostOf
            have a1:=vb.nl k hkm
            have a2:=vb.lo k hkm
            split <;> omega
          refine gN ⟨smn 2,fun tt htt=>?_⟩
          have w:=same_new htt (.tup [.int 0,.int 1])
          have s9:=s8.trans w
          have e9d:=w _ _ e8d
          have fd9:=fd8.same w
          have e9m:=w _ _ e8m
          have fm9:=fm8.same w
          have e9t:(upd H8 tt (.tup [.int 0,.int 1])) tt=some (.tup [.int 0,.int 1]):=upd_same
          generalize upd H8 tt (.tup [.int 0,.int 1])=H9 at s9 e9d fd9 e9m fm9 e9t
          clear w htt fd8 fm8 e8d e8m s8
          refine ⟨tt,rfl,⟨_,SqT.of e9t⟩,?_⟩
          refine for_tup (K := K0) (a:=tt) (xs:=[.int 0,.int 1]) (fun j σ H9=>∃ (v3 v6 v7:Option V) (kvs:List (Key × V)),σ=[some (.ref p),some (.ref q2),some (.ref d),v3,some (.ref dm),some (.ref b),v6,v7]∧Same H H9∧H9 d=some (.dK kvs)∧Fd H9 kvs ps (fun p=>stD (midF ps f0 k j p.1))∧H9 dm=some (.dK kvm)∧Fd H9 kvm ps (fun q=>momD q.2.2)∧H9 tt=some (.tup [.int 0,.int 1])) ⟨_,_,_,kvs,rfl,s9,e9d,fd9,e9m,fm9,e9t⟩ ?_ ?_ ?_
          · intro j σ H10 _ q_ 
            refine hid fun G bk_ => ?_
            obtain ⟨_,_,_,_,_,_,_,_,_,_,e10t⟩ := q_
            refine bk_ ?_
            exact SqT.of e10t
          · intro j y σ H10 hj q_ 
            refine hid fun G bk_ => ?_
            obtain ⟨v3,v6,v7,kvs,rfl,s10,e10d,fd10,e10m,fm10,e10t⟩ := q_
            refine bk_ ?_
            have hj1:j≤1:=by
              have:=(List.getElem?_eq_some_iff.mp hj).1
              simp at this
              omega
            obtain ⟨pq,rfl,hat,hpq⟩:∃ pq,y=.int (j:Nat)∧atI [V.ref p0,V.ref p1,V.int k.2.2.1,V.ref p3] (j:Nat)=some (.ref pq)∧H pq=some (.tup ((sideOf j k).map mkT)):=by
              match j,hj1,hj with
              | 0,_,hj=>exact ⟨p0,(Option.some.inj hj).symm,atI_zero _ _,h0⟩
              | 1,_,hj=>exact ⟨p1,(Option.some.inj hj).symm,atI_nat (xs:=[V.ref p0,V.ref p1,V.int k.2.2.1,V.ref p3]) (j:=1) rfl,h1⟩
            refine gN ⟨_,rfl,_,rfl,_,rfl,_,k,j,dm,kvm,ps,rfl,hj1,dy.same s10,e10m,fm10,inS (1 - j) (by omega),hmo,(lenS _).2,(lenS _).1,fun u H11 s11 d11=>?_⟩
            have s11':=s10.trans s11
            refine gN ⟨_,rfl,_,rfl, ixT (p := b) rfl rfl (SqT.of (s11' _ _ hb)) (hat) (⟨pq,rfl,⟨_,SqT.of (s11' _ _ hpq)⟩,?_⟩)⟩
            refine for_tup (K := K0) (a:=pq) (xs:=(sideOf j k).map mkT) (fun m σ H12=>∃ (v3:Option V) (kvs:List (Key × V)),σ=[some (.ref p),some (.ref q2),some (.ref d),v3,some (.ref dm),some (.ref b),some (.int (j:Nat)),some u]∧Same H H12∧H12 d=some (.dK kvs)∧Fd H12 kvs ps (fun p=>stD (setAll (midF ps f0 k j) ((sideOf j k).take m) (pst ps k j) p.1))∧H12 dm=some (.dK kvm)∧Fd H12 kvm ps (fun q=>momD q.2.2)∧H12 tt=some (.tup [.int 0,.int 1])∧Den H12 u (stD (pst ps k j))) ⟨_,kvs,rfl,s11',s11 _ _ e10d,Fd.congr (fun q _=>rfl) (fd10.same s11),s11 _ _ e10m,fm10.same s11,s11 _ _ e10t,d11⟩ ?_ ?_ ?_
            · rintro m σ H12 _ ⟨_,_,_,s12,_⟩
              exact SqT.of (s12 _ _ hpq)
            · intro m y σ H12 hm q_ 
              refine hid fun G bk_ => ?_
              obtain ⟨v3,kvs,rfl,s12,e12d,fd12,e12m,fm12,e12t,d12⟩ := q_
              refine bk_ ?_
              have hm':m < (sideOf j k).length:=by
                have:=(List.getElem?_eq_some_iff.mp hm).1
                rwa [List.length_map] at this
              rw [at_T hm'] at hm
              injection hm with hm
              subst hm
              have hx:=inS j hj1 _ (List.getElem_mem hm')
              have fl:=fd_len fd12
              have kT:=keepT_dict (b:=putK kvs (nkey (sideOf j k)[m]) u) e12d
              refine gN ⟨_,rfl,_,rfl,_,rfl,d,_,rfl,DPut.k (k:=nkey (sideOf j k)[m]) e12d (small1000 (by omega)),_,putK kvs (nkey (sideOf j k)[m]) u,rfl,?_,upd_same,?_,(upd_ne nmd).trans e12m,fm12.keepT kT,kT _ _ e12t,Den.keepT kT d12⟩
              · intro c o z
                rw [upd_ne (ne_of_none z hdH)]
                exact s12 c o z
              · refine Fd.congr (fun q _=>?_) ((fd_put fd12 hx d12).keepT kT)
                rw [List.take_add_one,List.getElem?_eq_getElem hm']
                show _=stD (setAll _ ((sideOf j k).take m++[(sideOf j k)[m]]) _ _)
                rw [setAll_snoc]
                split <;> rfl
            · intro σ H12 q_ 
              refine hid fun G bk_ => ?_
              obtain ⟨v3,kvs,rfl,s12,e12d,fd12,e12m,fm12,e12t,d12⟩ := q_
              refine bk_ ?_
              rw [List.length_map,List.take_length] at fd12
              refine ⟨_,_,_,kvs,rfl,s12,e12d,?_,e12m,fm12,e12t⟩
              refine Fd.congr (fun q _=>?_) fd12
              rw [mid_step ps f0 k hj1]
          · intro σ H10 q_ 
            refine hid fun G bk_ => ?_
            obtain ⟨v3,v6,v7,kvs,rfl,s10,e10d,fd10,e10m,fm10,e10t⟩ := q_
            refine bk_ ?_
            refine ⟨_,_,_,_,kvs,rfl,s10,e10d,?_,e10m,fm10⟩
            refine Fd.congr (fun q _=>?_) fd10
            rw [htk,List.foldl_append,hf]
            rfl
        · intro σ H8 q_ 
          refine hid fun G bk_ => ?_
          obtain ⟨v3,v5,v6,v7,kvs,rfl,s8,e8d,fd8,e8m,fm8⟩ := q_
          refine bk_ ?_
          rw [hwl,List.take_length] at fd8
          exact ⟨_,rfl,kk d kvs H8 hdH s8 e8d fd8⟩
      · intro i σ' H6 hi q_ 
        refine hid fun G bk_ => ?_
        obtain ⟨v,vs,kvm,rfl,s6,e6,pr6,fd6⟩ := q_
        refine bk_ ?_
        have hni:i < ps.length:=by omega
        refine hid fun G bk_ => ?_
        obtain ⟨b,pm,yy,hub,hb,hm⟩ := part_at5 hni s6
        refine bk_ ?_
        refine ⟨⟨_,_,SqT.of (s6 _ _ e5q),hub⟩,?_⟩
        rintro y H'' ⟨rfl,hy⟩
        have ey:y=.ref b:=Option.some.inj ((hy _ (SqT.of (s6 _ _ e5q))).symm.trans hub)
        subst ey
        refine gN (yesT (iteT ?_))
        refine ⟨_,rfl, ixT (p := b) rfl rfl (SqT.of hb) (atI_zero _ _) (⟨_,rfl, ixT (p := b) rfl rfl (SqT.of hb) (atI_nat (xs:=[mkT ps[i].1,yy,V.ref pm]) (j:=2) rfl) (⟨smn 2,fun t2 h2=>?_⟩)⟩)⟩
        have w2:=same_new h2 (.tup [mkT ps[i].1,.ref pm])
        have pl3:=pr6.len
        have fl3:=fd_len fd6
        rw [List.length_take] at fl3
        have ntl:t2≠lm:=(ne_of_none e6 h2).symm
        have ec:=w2 _ _ e6
        have kT:=keepT_upd (zs:=vs++[.ref t2]) ec
        refine ⟨vs,ec,small1000 (by omega),_,vs++[.ref t2],kvm++[(nkey ps[i].1,.ref pm)],rfl,?_,upd_same,?_,?_⟩
        · intro c o z
          rw [upd_ne (ne_of_none z hlm)]
          exact w2 _ _ (s6 c o z)
        · exact Prs.snoc (kv:=(nkey ps[i].1,V.ref pm)) ⟨t2,rfl,(upd_ne ntl).trans upd_same⟩ (prs_keepT kT (pr6.same w2))
        · rw [List.take_add_one,List.getElem?_eq_getElem hni]
          exact Fd.snoc ⟨rfl,Den.keepT kT (hm.same w2)⟩ ((fd6.same w2).keepT kT)
  · intro i σ' H3 hi q_ 
    refine hid fun G bk_ => ?_
    obtain ⟨v,vs,kvs,rfl,s3,e3,pr3,fd3⟩ := q_
    refine bk_ ?_
    have hni:i < ps.length:=by omega
    refine hid fun G bk_ => ?_
    obtain ⟨b,pm,yy,hub,hb,hm⟩ := part_at hni s3
    refine bk_ ?_
    refine ⟨⟨_,_,SqT.of (s3 _ _ e2),hub⟩,?_⟩
    rintro y H'' ⟨rfl,hy⟩
    have ey:y=.ref b:=Option.some.inj ((hy _ (SqT.of (s3 _ _ e2))).symm.trans hub)
    subst ey
    refine gN (yesT (iteT ?_))
    refine ⟨_,rfl, ixT (p := b) rfl rfl (SqT.of hb) (atI_zero _ _) (⟨smn 1,fun t1 h1=>⟨smn 2,fun t2 h2=>?_⟩⟩)⟩
    have w1:=same_new h1 (.tup [.str "lacking"])
    have w2:=same_new h2 (.tup [mkT ps[i].1,.ref t1])
    have w12:=w1.trans w2
    have pl3:=pr3.len
    have fl3:=fd_len fd3
    rw [List.length_take] at fl3
    have ntl:t2≠lc:=(ne_of_none (w1 _ _ e3) h2).symm
    have ec:=w12 _ _ e3
    have kT:=keepT_upd (zs:=vs++[.ref t2]) ec
    refine ⟨vs,ec,small1000 (by omega),_,vs++[.ref t2],kvs++[(nkey ps[i].1,.ref t1)],rfl,?_,upd_same,?_,?_⟩
    · intro c o z
      rw [upd_ne (ne_of_none z hlc)]
      exact w12 _ _ (s3 c o z)
    · exact Prs.snoc (kv:=(nkey ps[i].1,V.ref t1)) ⟨t2,rfl,(upd_ne ntl).trans upd_same⟩ (prs_keepT kT (pr3.same w12))
    · rw [List.take_add_one,List.getElem?_eq_getElem hni]
      refine Fd.snoc ⟨rfl,?_⟩ ((fd3.same w12).keepT kT)
      exact Den.keepT kT (show Den _ (.ref t1) (stD .lack) from ⟨t1,_,rfl,w2 _ _ upd_same,rfl,trivial⟩)
end
theorem den_pr {H:Hp} {v:V} {q:Int × List Nat} (h:Den H v (prD q)):∃ b,v=.ref b∧H b=some (.tup [.int q.1,mkT q.2]):=by
  obtain ⟨b,bs,rfl,hb,hbd⟩:=den_tup h
  match bs,hbd with
  | [c0,c1],hbd =>
    have e0:c0=.int q.1:=hbd.1
    have e1:c1=mkT q.2:=hbd.2.1
    exact ⟨b,rfl,by rw [hb,e0,e1]⟩
  | [],h=>exact h.elim
  | [_],h=>exact h.2.elim
  | _ :: _ :: _ :: _,h=>exact h.2.2.elim
noncomputable def spStanding:Sp:=fun vs H Q _=>∃ (v:V) (L R:List Prt) (ks:List Lnk) (al:Nms) (x:List Nat),vs=[v,mkT x]∧Den H v (bookD L R ks al)∧VB L R ks al∧∀ (u:V) (H':Hp),Same H H'→Den H' u (stD (standing L R ks al x))→Q u H'
theorem in_names (x:List Nat) (xs:Nms):inV (mkT x) (xs.map mkT)=decide (x∈xs):=by
  have e:xs.map mkT=(xs.map sOf).map V.str:=by rw [List.map_map]; rfl
  rw [e,inV_str]
  rw [Bool.eq_iff_iff,decide_eq_true_eq,decide_eq_true_eq]
  constructor
  · intro h
    obtain ⟨y,hy,e⟩:=List.mem_map.mp h
    rw [← str_inj' e]
    exact hy
  · exact fun h=>List.mem_map_of_mem h
theorem flat_names (xs:Nms):(xs.map mkT).all flatV=true:=by
  have e:xs.map mkT=(xs.map sOf).map V.str:=by rw [List.map_map]; rfl
  rw [e]
  exact flat_strs _
theorem find_first {α:Type} {p:α→Bool}:∀ {xs:List α} {i:Nat} (hi:i < xs.length),(∀ x∈xs.take i,p x=false)→p xs[i]=true→xs.find? p=some xs[i]
  | x :: xs,0,_,_,h=>by
    rw [List.find?_cons,show p x=true from h]
    rfl
  | x :: xs,i+1,hi,h0,h=>by
    rw [List.find?_cons,h0 x (by rw [List.take_succ_cons]; exact .head _)]
    exact find_first (by simpa using hi) (fun y hy=>h0 y (by rw [List.take_succ_cons]; exact .tail _ hy)) h
theorem up_ints {ms:List Int} (h:UpD (ms.map D.int)) {m:Int} {r:List Int} (e:ms=m :: r):∀ n∈ms,m≤n:=by
  subst e
  unfold UpD at h
  rw [List.pairwise_map,List.pairwise_cons] at h
  intro n hn
  rcases List.mem_cons.mp hn with rfl | hn
  · exact Int.le_refl _
  · have:=h.1 n hn
    rw [dlt_int] at this
    have:=of_decide_eq_false this
    omega
theorem hom_ints (ms:List Int):Hom (ms.map D.int):=by
  refine ⟨fun a ha b hb=>?_,.inl fun d hd=>?_⟩
  · obtain ⟨x,_,rfl⟩:=List.mem_map.mp ha
    obtain ⟨y,_,rfl⟩:=List.mem_map.mp hb
    exact sim_int _ _
  · obtain ⟨x,_,rfl⟩:=List.mem_map.mp hd
    exact ⟨_,rfl⟩
theorem den_part {H:Hp} {v:V} {q:Prt} (h:Den H v (partD q)):∃ (b pm:Addr),v=.ref b∧H b=some (.tup [mkT q.1,mkT q.2.1,.ref pm])∧H pm=some (.tup (q.2.2.map V.int)):=by
  obtain ⟨b,bs,rfl,hb,hbd⟩:=den_tup h
  match bs,hbd with
  | [c0,c1,c2],hbd =>
    have e0:c0=mkT q.1:=hbd.1
    have e1:c1=mkT q.2.1:=hbd.2.1
    obtain ⟨pm,ms,rfl,h1,h2⟩:=den_tup hbd.2.2.1
    rw [denI h2] at h1
    exact ⟨b,pm,rfl,by rw [hb,e0,e1],h1⟩
  | [],h=>exact h.elim
  | [_],h=>exact h.2.elim
  | [_,_],h=>exact h.2.2.elim
  | _ :: _ :: _ :: _ :: _,h=>exact h.2.2.2.elim
section
variable {P:Program} {w:World} {K:PySem.W.Frag} {mg:Str→Option Value} {base:Heap}
theorem scStanding:FnScope ["_law_book_here", "_law_name", "_law_ones", "_law_others", "_law_told", "_law_lost", "_law_side", "_law_moments_here", "_law_part", "_law_later"] ["_law_book_here", "_law_name"] (defScope sStanding):=⟨rfl,rfl,rfl,by decide +kernel,rfl,by decide +kernel,by decide +kernel⟩
theorem c_standing (h:Has K mg "_law_standing" sStanding ["_law_book_here", "_law_name"]) (m_int:mg "int" = none) (m_list:mg "list" = none) (m_sorted:mg "sorted" = none):Cal P w K mg base "_law_standing" 1 ["_law_book_here", "_law_name"] spStanding:=by
  refine h.mk' scStanding (fun vs H Q E hs=>?_) (fun f cdv A outer s H vs Q E hr hs=>?_)
  · refine hid fun G bk_ => ?_
    obtain ⟨v,L,R,ks,al,x,rfl,_⟩ := hs
    refine bk_ ?_
    rfl
  refine hid fun G bk_ => ?_
  obtain ⟨v,L,R,ks,al,x,rfl,hv,vb,kk⟩ := hs
  refine bk_ ?_
  refine ⟨_,(pss_cons (ps_if (pt_cmpR op_in_seq0 (pv 1) (pe_ix ix_tup0 (pv 0) pe_int (fun _ _=>rfl)) (by with_unfolding_all rfl))
      (pss_one (ps_ret (pe_tup (pa_cons pe_str pa_nil))))
      pss_nil)
    (pss_cons (ps_for PassesOwn.never rfl (pi_tup0 (pe_ix ix_tup0 (pv 0) pe_int (fun _ _=>rfl))) (pg_tup0 (n := 4) rfl (pgs_cons (pg_name (i:=2) scStanding.nd rfl (Or.inl rfl)) (pgs_cons (pg_name (i:=3) scStanding.nd rfl (Or.inl rfl)) (pgs_cons (pg_name (i:=4) scStanding.nd rfl (Or.inr rfl)) (pgs_cons (pg_name (i:=5) scStanding.nd rfl (Or.inl rfl)) pgs_nil)))))
      (pss_one (ps_if (pt_cmpR op_in_seq0 (pv 1) (pe_op op_catT2 (pv 2) (pv 3)) (by with_unfolding_all rfl))
      (pss_cons (ps_set (i:=6) scStanding.nd rfl (Or.inl rfl) (pe_callTy call_int1 rfl m_int boot_int (pa_cons (pe_cmpR op_in_seq0 (pv 1) (pv 3) (by with_unfolding_all rfl)) pa_nil)))
    (pss_cons (ps_set (i:=7) scStanding.nd rfl (Or.inl rfl) (pe_callTy call_list_of rfl m_list boot_list (pa_cons (pe_ix ix_tup0 (pv 5) (pe_op op_sub pe_int (pv 6)) (fun _ _=>rfl)) pa_nil)))
    (pss_cons (ps_for PassesOwn.never rfl (pi_tup0 (pe_ix ix_tup0 (pv 0) (pe_op op_sub pe_int (pv 6)) (fun _ _=>rfl))) (pg_name (i:=8) scStanding.nd rfl (Or.inl rfl))
      (pss_one (ps_if (pt_cmpR op_in_seq0 (pe_ix ix_tup0 (pv 8) pe_int (fun _ _=>rfl)) (pe_ix ix_list0 (pe_lst (pa_cons (pv 3) (pa_cons (pv 2) pa_nil))) (pv 6) (fun _ _=>rfl)) (by with_unfolding_all rfl))
      (pss_one (ps_set (i:=7) scStanding.nd rfl (Or.inl rfl) (pe_op op_cat (pv 7) (pe_callTy call_list_of rfl m_list boot_list (pa_cons (pe_ix ix_tup0 (pv 8) pe_int (fun _ _=>rfl)) pa_nil)))))
      pss_nil)))
    (pss_cons (ps_set (i:=9) scStanding.nd rfl (Or.inl rfl) (pe_callB (call_sortedD0 (call_sortedD hr.units)) rfl m_sorted boot_sorted (pa_cons (pe_compL ["_law_book_here", "_law_name", "_law_ones", "_law_others", "_law_told", "_law_lost", "_law_side", "_law_moments_here", "_law_part", "_law_later"] (defScope sStanding) ["_law_told", "_law_moment_here"] [some 4,none] rfl rfl rfl (pi_list0 (pv 7)) rfl (by decide +kernel) (by decide +kernel) (by decide +kernel) (by decide +kernel) (hg:=fun cl C s H ex pn E=>(pg_name (i:=1) (by decide +kernel:(["_law_told", "_law_moment_here"]:List Str).Nodup) rfl (Or.inl rfl))) (ht:=fun cl C s H ex pn E=>(pifs_one (pt_cmpR op_gt (pv 1) (pv 0) (nomark _)))) (he:=fun cl C s H ex pn E=>(pv 1))) pa_nil)))
    (pss_cons (ps_if (pt_cmpR (op_eqE hr.units0) (pv 9) (pe_lst pa_nil) (nomark _))
      (pss_one (ps_ret (pe_tup (pa_cons pe_str pa_nil))))
      pss_nil)
    (pss_one (ps_ret (pe_tup (pa_cons pe_str (pa_cons (pe_ix ix_list0 (pv 9) pe_int (fun _ _=>rfl)) pa_nil))))))))))
      pss_nil)))
    (pss_one (ps_ret (pe_tup (pa_cons pe_str pa_nil)))))),?_⟩
  refine hid fun G bk_ => ?_
  obtain ⟨p,pl,pr,pk,pa,ls,rs,ws,rfl,hp,hpl,hdl,hpr,hdr,hpk,hdk,hpa⟩ := den_book hv
  refine bk_ ?_
  have at2:atI [V.ref pl,V.ref pr,V.ref pk,V.ref pa] 2=some (.ref pk):=atI_nat (xs:=[V.ref pl,V.ref pr,V.ref pk,V.ref pa]) (j:=2) rfl
  have at3:atI [V.ref pl,V.ref pr,V.ref pk,V.ref pa] 3=some (.ref pa):=atI_nat (xs:=[V.ref pl,V.ref pr,V.ref pk,V.ref pa]) (j:=3) rfl
  have hal:(al.map sOf).map V.str=al.map mkT:=by rw [List.map_map]; rfl
  rw [hal] at hpa
  refine ⟨_,rfl,_,rfl, ixT (p := p) rfl rfl (SqT.of hp) (at3) (⟨pa,_,rfl,.inr (SqT.of hpa),rfl,flat_names al,_,rfl,?_⟩)⟩
  rw [show (if false=true then !inV (mkT x) (al.map mkT) else inV (mkT x) (al.map mkT))=inV (mkT x) (al.map mkT) from rfl,in_names]
  refine ite2 (fun z=>?_) (fun z=>?_)
  · refine ⟨smn 1,fun q hq=>kk (.ref q) _ (same_new hq _) ?_⟩
    have e:standing L R ks al x=.alone:=by
      unfold standing
      rw [if_pos (of_decide_eq_true z)]
    rw [e]
    exact ⟨q,_,rfl,upd_same,rfl,trivial⟩
  have hxa:x ∉ al:=fun w=>z (decide_eq_true w)
  have hwl:=hdk.len
  rw [List.length_map] at hwl
  refine ⟨_,rfl, ixT (p := p) rfl rfl (SqT.of hp) (at2) (⟨pk,rfl,⟨_,SqT.of hpk⟩,?_⟩)⟩
  refine for_tup (K := K0) (a:=pk) (xs:=ws) (fun i σ H2=>∃ v2 v3 v4 v5:Option V,σ=[some (.ref p),some (mkT x),v2,v3,v4,v5,none,none,none,none]∧Same H H2∧∀ k∈ks.take i,inLink x k=false) ⟨_,_,_,_,rfl,Same.refl H,fun k hk=>by rw [List.take_zero] at hk; cases hk⟩ ?_ ?_ ?_
  · intro i σ H2 _ q_ 
    refine hid fun G bk_ => ?_
    obtain ⟨_,_,_,_,_,s2,_⟩ := q_
    refine bk_ ?_
    exact SqT.of (s2 _ _ hpk)
  · intro i y σ H2 hi q_ 
    refine hid fun G bk_ => ?_
    obtain ⟨v2,v3,v4,v5,rfl,s2,hno⟩ := q_
    refine bk_ ?_
    have hni:i < ks.length:=by
      have:=(List.getElem?_eq_some_iff.mp hi).1
      omega
    obtain ⟨dd,hdd,dy⟩:=hdk.at_ hi
    rw [List.getElem?_map,List.getElem?_eq_getElem hni] at hdd
    have edd:linkD ks[i]=dd:=Option.some.inj hdd
    subst edd
    have hkm:ks[i]∈ks:=List.getElem_mem hni
    have htk:ks.take (i+1)=ks.take i++[ks[i]]:=by
      rw [List.take_add_one,List.getElem?_eq_getElem hni]
      rfl
    have hfirst:inLink x ks[i]=true→ks.find? (inLink x)=some ks[i]:=fun h=>find_first hni hno h
    generalize hk:ks[i]=k at *
    refine hid fun G bk_ => ?_
    obtain ⟨b,p0,p1,p3,p4,p5,us0,us1,rfl,hb,h0,hd0,h1,hd1,h3,h4,h5⟩ := den_link dy
    refine bk_ ?_
    rw [denS hd0] at h0
    rw [denS hd1] at h1
    have nlk:=vb.nl k hkm
    have lok:=vb.lo k hkm
    refine ⟨b,_,rfl,SqT.of (s2 _ _ hb),rfl,_,_,rfl,_,_,rfl,_,_,rfl,_,_,rfl,rfl,?_⟩
    refine ⟨_,rfl,_,rfl,_,rfl,p0,p1,_,_,rfl,rfl,s2 _ _ h0,s2 _ _ h1,by rw [List.length_map,List.length_map]; exact small (by omega),fun q3 H3 s3 e3=>?_⟩
    rw [← List.map_append] at e3
    refine ⟨q3,_,rfl,.inr (SqT.of e3),rfl,flat_names _,_,rfl,?_⟩
    rw [show (if false=true then !inV (mkT x) ((k.1++k.2.1).map mkT) else inV (mkT x) ((k.1++k.2.1).map mkT))=inV (mkT x) ((k.1++k.2.1).map mkT) from rfl,in_names]
    refine ite2 (fun zi=>?pos) (fun zi=>?neg)
    case neg =>
      refine ⟨_,_,_,_,rfl,s2.trans s3,fun k' hk'=>?_⟩
      rw [htk] at hk'
      rcases List.mem_append.mp hk' with w | w
      · exact hno k' w
      · rw [List.mem_singleton.mp w]
        unfold inLink
        cases e:decide (x∈k.1++k.2.1) with
        | false=>rfl
        | true=>exact absurd e zi
    have hst:standing L R ks al x=if x∈k.2.1 then lst_ L k 1 else lst_ R k 0:=by
      unfold standing
      rw [if_neg hxa,hfirst zi]
    have s03:=s2.trans s3
    clear e3
    refine ⟨_,rfl,_,rfl,p1,_,rfl,.inr (SqT.of (s03 _ _ h1)),rfl,flat_names _,?_⟩
    rw [show (if false=true then !inV (mkT x) (k.2.1.map mkT) else inV (mkT x) (k.2.1.map mkT))=inV (mkT x) (k.2.1.map mkT) from rfl,in_names]
    refine .inr ⟨_,rfl,?_⟩
    obtain ⟨sd,hs1,es,hsd⟩:∃ sd:Nat,sd≤1∧(if decide (x∈k.2.1)=true then (1:Int) else 0)=(sd:Int)∧standing L R ks al x=lst_ (if sd=0 then R else L) k sd:=by
      by_cases h:x∈k.2.1
      · rw [hst,if_pos h]
        exact ⟨1,by decide,by rw [if_pos (decide_eq_true h)]; rfl,rfl⟩
      · rw [hst,if_neg h]
        exact ⟨0,by decide,by rw [if_neg (fun w=>h (of_decide_eq_true w))]; rfl,rfl⟩
    rw [es]
    obtain ⟨pq,pL,pQ,qv,e1,e2,e3,hpq,hpL,hpQ,hdQ,e4⟩:∃ (pq pL pQ:Addr) (qv:List V),atI [V.ref p1,V.ref p0] (sd:Nat)=some (.ref pq)∧atI [V.ref p4,V.ref p5] (1 - (sd:Int))=some (.ref pL)∧atI [V.ref pl,V.ref pr,V.ref pk,V.ref pa] (1 - (sd:Int))=some (.ref pQ)∧H pq=some (.tup ((sideOf (1 - sd) k).map mkT))∧H pL=some (.tup ((lostOf (1 - sd) k).map V.int))∧H pQ=some (.tup qv)∧DenL H qv ((if sd=0 then R else L).map partD)∧(if sd=0 then R else L).length≤9:=by
      match sd,hs1 with
      | 0,_=>exact ⟨p1,p5,pr,rs,atI_zero _ _,atI_nat (xs:=[V.ref p4,V.ref p5]) (j:=1) rfl,atI_nat (xs:=[V.ref pl,V.ref pr,V.ref pk,V.ref pa]) (j:=1) rfl,h1,h5,hpr,hdr,vb.lR⟩
      | 1,_=>exact ⟨p0,p4,pl,ls,atI_nat (xs:=[V.ref p1,V.ref p0]) (j:=1) rfl,atI_zero _ _,atI_zero _ _,h0,h4,hpl,hdl,vb.lL⟩
    have hmoQ:∀ q∈(if sd=0 then R else L),q.2.2.length≤4:=fun q hq=>by
      refine (vb.mo q ?_).1
      by_cases h:sd=0
      · rw [if_pos h] at hq
        exact List.mem_append_right _ hq
      · rw [if_neg h] at hq
        exact List.mem_append_left _ hq
    have hll:(lostOf (1 - sd) k).length≤4:=by
      unfold lostOf
      split <;> omega
    generalize (if sd=0 then R else L)=Q0 at hsd hdQ e4 hmoQ
    have hqv:=hdQ.len
    rw [List.length_map] at hqv
    refine gN ⟨_,rfl,_,rfl,_,_,rfl,rfl, ixT (p := p3) rfl rfl (SqT.of (s03 _ _ h3)) (e2) (⟨pL,_,rfl,.inr (SqT.of (s03 _ _ hpL)),fun lm hlm=>?_⟩)⟩
    have s4:=s03.trans (same_new hlm (.lst ((lostOf (1 - sd) k).map V.int)))
    have e4l:(upd H3 lm (.lst ((lostOf (1 - sd) k).map V.int))) lm=some (.lst ((lostOf (1 - sd) k).map V.int)):=upd_same
    generalize upd H3 lm (.lst ((lostOf (1 - sd) k).map V.int))=H4 at s4 e4l
    refine gN ⟨_,rfl,_,rfl,_,_,rfl,rfl, ixT (p := p) rfl rfl (SqT.of (s4 _ _ hp)) (e3) (⟨pQ,rfl,⟨_,SqT.of (s4 _ _ hpQ)⟩,?_⟩)⟩
    refine for_tup (K := K0) (a:=pQ) (xs:=qv) (fun j σ H5=>∃ (v8:Option V) (lm:Addr),σ=[some (.ref p),some (mkT x),some (.ref p0),some (.ref p1),some (.int k.2.2.1),some (.ref p3),some (.int (sd:Nat)),some (.ref lm),v8,none]∧Same H H5∧H5 lm=some (.lst ((lostOf (1 - sd) k++((Q0.take j).filter fun q=>decide (q.1∈sideOf (1 - sd) k)).flatMap (·.2.2)).map V.int))∧(((Q0.take j).filter fun q=>decide (q.1∈sideOf (1 - sd) k)).flatMap (·.2.2)).length≤4 * j) ⟨_,lm,rfl,s4,by rw [List.take_zero,List.filter_nil,List.flatMap_nil,List.append_nil]; exact e4l,Nat.le_refl _⟩ ?_ ?_ ?_
    · rintro j σ H5 _ ⟨_,_,_,s5,_⟩
      exact SqT.of (s5 _ _ hpQ)
    · intro j y σ H5 hj q_ 
      refine hid fun G bk_ => ?_
      obtain ⟨v8,lm,rfl,s5,e5,hle⟩ := q_
      refine bk_ ?_
      have hnj:j < Q0.length:=by
        have:=(List.getElem?_eq_some_iff.mp hj).1
        omega
      obtain ⟨dd,hdd,dyq⟩:=hdQ.at_ hj
      rw [List.getElem?_map,List.getElem?_eq_getElem hnj] at hdd
      have edd:partD Q0[j]=dd:=Option.some.inj hdd
      subst edd
      obtain ⟨b',pm,rfl,hb',hpm⟩:=den_part (dyq.same s5)
      have htq:Q0.take (j+1)=Q0.take j++[Q0[j]]:=by
        rw [List.take_add_one,List.getElem?_eq_getElem hnj]
        rfl
      have hml:=hmoQ Q0[j] (List.getElem_mem hnj)
      refine gN ⟨_,rfl, ixT (p := b') rfl rfl (SqT.of hb') (atI_zero _ _) (⟨_,rfl,_,rfl,smn 2,fun l2 hl2=>?_⟩)⟩
      have w2:=same_new hl2 (.lst [.ref p1,.ref p0])
      refine ⟨_,rfl, ixL (p := l2) rfl rfl (SqL.of upd_same) (e1) (⟨pq,_,rfl,.inr (SqT.of (w2 _ _ (s5 _ _ hpq))),rfl,flat_names _,_,rfl,?_⟩)⟩
      rw [show (if false=true then !inV (mkT Q0[j].1) ((sideOf (1 - sd) k).map mkT) else inV (mkT Q0[j].1) ((sideOf (1 - sd) k).map mkT))=inV (mkT Q0[j].1) ((sideOf (1 - sd) k).map mkT) from rfl,in_names]
      have e5':=w2 _ _ e5
      have s5':=s5.trans w2
      have hb2:=w2 _ _ hb'
      have hpm2:=w2 _ _ hpm
      generalize upd H5 l2 (.lst [.ref p1,.ref p0])=H6 at e5' s5' hb2 hpm2
      refine ite2 (fun zq=>?_) (fun zq=>?_)
      · refine ⟨_,rfl,_,rfl, ixT (p := b') rfl rfl (SqT.of hb2) (atI_nat (xs:=[mkT Q0[j].1,mkT Q0[j].2.1,V.ref pm]) (j:=2) rfl) (⟨pm,_,rfl,.inr (SqT.of hpm2),fun l3 hl3=>?_⟩)⟩
        have w3:=same_new hl3 (.lst (Q0[j].2.2.map V.int))
        refine ⟨lm,l3,_,_,rfl,rfl,w3 _ _ e5',upd_same,by rw [List.length_map,List.length_map,List.length_append]; exact small (by omega),fun l4 hl4=>?_⟩
        have w4:=w3.trans (same_new hl4 (.lst (((lostOf (1 - sd) k++((Q0.take j).filter fun q=>decide (q.1∈sideOf (1 - sd) k)).flatMap (·.2.2)).map V.int)++Q0[j].2.2.map V.int)))
        refine ⟨_,l4,rfl,s5'.trans w4,?_,?_⟩
        · rw [upd_same,htq,List.filter_append,List.filter_cons,if_pos zq,List.filter_nil,List.flatMap_append]
          simp only [List.flatMap_cons,List.flatMap_nil,List.append_nil,List.map_append,List.append_assoc]
        · rw [htq,List.filter_append,List.filter_cons,if_pos zq,List.filter_nil,List.flatMap_append]
          simp only [List.flatMap_cons,List.flatMap_nil,List.append_nil,List.length_append]
          omega
      · refine ⟨_,lm,rfl,s5',?_,?_⟩
        · rw [htq,List.filter_append,List.filter_cons,if_neg zq,List.filter_nil,List.append_nil]
          exact e5'
        · rw [htq,List.filter_append,List.filter_cons,if_neg zq,List.filter_nil,List.append_nil]
          omega
    · intro σ H5 q_ 
      refine hid fun G bk_ => ?_
      obtain ⟨v8,lm,rfl,s5,e5,hle⟩ := q_
      refine bk_ ?_
      rw [hqv,List.take_length] at e5 hle
      have e5s:H5 lm=some (.lst ((seenL Q0 k (1 - sd)).map V.int)):=e5
      have hsl:(seenL Q0 k (1 - sd)).length≤40:=by
        unfold seenL
        rw [List.length_append]
        omega
      have hres:standing L R ks al x=stOf (later k.2.2.1 (seenL Q0 k (1 - sd))):=hsd
      generalize seenL Q0 k (1 - sd)=sn at e5s hsl hres
      refine ⟨_,rfl,lm,rfl,⟨_,SqL.of e5s⟩,fun lc hlc=>?_⟩
      refine comp_by (J:=Itl K0 lm) (l:=lc) (sn.map V.int).length (fun i σ' H'=>∃ v:Option V,σ'=[some (.int k.2.2.1),v]∧Same H5 H'∧H' lc=some (.lst ((later k.2.2.1 (sn.take i)).map V.int))) ⟨none,rfl,same_new hlc _,upd_same⟩ ?_ ?_
      · rintro σ' H6 ⟨v,rfl,s6,e6⟩
        rw [List.length_map,List.take_length] at e6
        have hlat:(later k.2.2.1 sn).length≤sn.length:=List.length_filter_le _ _
        refine ⟨⟨_,SqL.of (s6 _ _ e5s),Nat.le_refl _⟩,lc,_,_,rfl,.inl (SqL.of e6),denI_of _ _,hom_ints _,by rw [List.length_map]; omega,fun d hd=>?_,fun l7 us7 ds7 hl7 pm7 up7 dn7=>?_⟩
        · obtain ⟨y,_,rfl⟩:=List.mem_map.mp hd
          exact show Shal 50 _ from shal_ups (n:=0) (shal_int y) 50
        obtain ⟨ms,pms,rfl⟩:=perm_map_inv pm7 rfl
        have eu:=denI dn7
        subst eu
        have s7:=same_new hl7 (.lst (ms.map V.int))
        have e7:(upd H6 l7 (.lst (ms.map V.int))) l7=some (.lst (ms.map V.int)):=upd_same
        have sA:=(s5.trans s6).trans s7
        generalize upd H6 l7 (.lst (ms.map V.int))=H7 at e7 sA
        refine gN ⟨_,rfl,smn 0,fun l8 hl8=>?_⟩
        have w8:=same_new hl8 (.lst [])
        refine ⟨l7,l8,_,rfl,rfl,w8 _ _ e7,upd_same,_,rfl,?_⟩
        have sB:=sA.trans w8
        have e8:=w8 _ _ e7
        generalize upd H7 l8 (.lst [])=H8 at sB e8
        cases hms:ms with
        | nil =>
          subst hms
          refine iteT ⟨smn 1,fun q hq=>kk (.ref q) _ (sB.trans (same_new hq _)) ?_⟩
          have en:later k.2.2.1 sn=[]:=List.length_eq_zero_iff.mp pms.length_eq.symm
          rw [hres,en]
          exact ⟨q,_,rfl,upd_same,rfl,trivial⟩
        | cons m r =>
          rw [hms] at e8
          refine iteF ⟨_,rfl, ixL (p := l7) rfl rfl (SqL.of e8) (atI_zero _ _) (⟨smn 2,fun q hq=>kk (.ref q) _ (sB.trans (same_new hq _)) ?_⟩)⟩
          have em:stOf (later k.2.2.1 sn)=.stale m:=stOf_eq (pms.mem_iff.mp (by rw [hms]; exact .head _)) fun n hn=>up_ints up7 hms n (pms.mem_iff.mpr hn)
          rw [hres,em]
          exact ⟨q,_,rfl,upd_same,rfl,rfl,trivial⟩
      · rintro i' σ' H6 hi' ⟨v,rfl,s6,e6⟩
        have hi2:i' < sn.length:=by rwa [List.length_map] at hi'
        have hat:(sn.map V.int)[i']?=some (.int sn[i']):=by rw [List.getElem?_map,List.getElem?_eq_getElem hi2]; rfl
        refine ⟨⟨_,_,SqL.of (s6 _ _ e5s),hat⟩,?_⟩
        rintro y H'' ⟨rfl,hy⟩
        have ey:y=.int sn[i']:=Option.some.inj ((hy _ (SqL.of (s6 _ _ e5s))).symm.trans hat)
        subst ey
        have hts:sn.take (i' + 1)=sn.take i'++[sn[i']]:=by
          rw [List.take_add_one,List.getElem?_eq_getElem hi2]
          rfl
        refine gN ⟨_,rfl,_,rfl,_,_,rfl,rfl,_,rfl,?_⟩
        refine ite2 (fun z=>?_) (fun z=>?_)
        · have z':k.2.2.1 < sn[i']:=of_decide_eq_true z
          refine ⟨_,rfl,_,e6,?_,_,rfl,?_,?_⟩
          · rw [List.length_map]
            have:(later k.2.2.1 (sn.take i')).length≤(sn.take i').length:=List.length_filter_le _ _
            rw [List.length_take] at this
            exact small1000 (by omega)
          · intro c o z
            rw [upd_ne (ne_of_none z hlc)]
            exact s6 c o z
          · rw [upd_same,hts,later_snoc,if_pos z',List.map_append]
            rfl
        · have z':¬ k.2.2.1 < sn[i']:=fun w=>z (decide_eq_true w)
          refine ⟨_,rfl,s6,?_⟩
          rw [hts,later_snoc,if_neg z',List.append_nil]
          exact e6
  · intro σ H2 q_ 
    refine hid fun G bk_ => ?_
    obtain ⟨v2,v3,v4,v5,rfl,s2,hno⟩ := q_
    refine bk_ ?_
    rw [hwl,List.take_length] at hno
    refine ⟨smn 1,fun q hq=>kk (.ref q) _ (s2.trans (same_new hq _)) ?_⟩
    have e:standing L R ks al x=.lack:=by
      unfold standing
      rw [if_neg hxa,List.find?_eq_none.mpr fun k hk hi=>by rw [hno k hk] at hi; cases hi]
    rw [e]
    exact ⟨q,_,rfl,upd_same,rfl,trivial⟩
end
noncomputable def stp (f:List Nat→Stt) (p:Prt):D:=.tup [sD p.1,stD (f p.1)]
noncomputable def spStandings:Sp:=fun vs H Q _=>∃ (v:V) (L R:List Prt) (ks:List Lnk) (al:Nms),vs=[v]∧Den H v (bookD L R ks al)∧VB L R ks al∧∀ (u:V) (H':Hp),Same H H'→Den H' u (.tup [.tup (L.map (stp (standing L R ks al))),.tup (R.map (stp (standing L R ks al)))])→Q u H'
theorem den_stp {H:Hp} {v:V} {f:List Nat→Stt} {p:Prt} (h:Den H v (stp f p)):∃ (b:Addr) (u:V),v=.ref b∧H b=some (.tup [mkT p.1,u])∧Den H u (stD (f p.1)):=by
  obtain ⟨b,bs,rfl,hb,hbd⟩:=den_tup h
  match bs,hbd with
  | [c0,c1],hbd =>
    have e0:c0=mkT p.1:=hbd.1
    exact ⟨b,c1,rfl,by rw [hb,e0],hbd.2.1⟩
  | [],h=>exact h.elim
  | [_],h=>exact h.2.elim
  | _ :: _ :: _ :: _,h=>exact h.2.2.elim
section
variable {P:Program} {w:World} {K:PySem.W.Frag} {mg:Str→Option Value} {base:Heap}
theorem scStandings:FnScope ["_law_book_here", "_law_rows"] ["_law_book_here"] (defScope sStandings):=⟨rfl,rfl,rfl,by decide +kernel,rfl,by decide +kernel,by decide +kernel⟩
theorem c_standings (h:Has K mg "_law_standings" sStandings ["_law_book_here"]) (C_standing:Cal P w K mg base "_law_standing" 1 ["_law_book_here", "_law_name"] spStanding) (m_tuple:mg "tuple" = none):Cal P w K mg base "_law_standings" 2 ["_law_book_here"] spStandings:=by
  refine h.mk' scStandings (fun vs H Q E hs=>?_) (fun f cdv A outer s H vs Q E hr hs=>?_)
  · obtain ⟨v,L,R,ks,al,rfl,_⟩:=hs
    rfl
  obtain ⟨v,L,R,ks,al,rfl,hv,vb,kk⟩:=hs
  refine ⟨_,(pss_cons (ps_setC (ix:=1) scStandings.nd rfl rfl ["_law_book_here", "_law_rows"] (defScope sStandings) ["_law_book_here", "_law_parts_here"] [some 0,none] rfl rfl rfl (pi_tup0 (pe_slice sl_tup (pv 0) po_none (po_some pe_int))) rfl (by decide +kernel) (by decide +kernel) (by decide +kernel) (by decide +kernel) (hg:=fun cl C s H ex pn E=>(pg_name (i:=1) (by decide +kernel:(["_law_book_here", "_law_parts_here"]:List Str).Nodup) rfl (Or.inl rfl))) (ht:=fun cl C s H ex pn E=>pifs_nil) (he:=fun cl C s H ex pn E=>(pe_callTy (call_tuple_of0) rfl m_tuple boot_tuple (pa_cons (pe_compL ["_law_book_here", "_law_parts_here"] _ ["_law_book_here", "_law_part"] [some 0,none] rfl rfl rfl (pi_tup0 (pv 1)) rfl (by decide +kernel) (by decide +kernel) (freeBlock (by decide +kernel)) (by decide +kernel) (hg:=fun cl C s H ex pn E=>(pg_name (i:=1) (by decide +kernel:(["_law_book_here", "_law_part"]:List Str).Nodup) rfl (Or.inl rfl))) (ht:=fun cl C s H ex pn E=>pifs_nil) (he:=fun cl C s H ex pn E=>(pe_tup (pa_cons (pe_ix (ix_tup0) (pv 1) pe_int (fun _ _=>rfl)) (pa_cons (pe_cal C_standing hr (by decide) rfl (pa_cons (pv 0) (pa_cons (pe_ix (ix_tup0) (pv 1) pe_int (fun _ _=>rfl)) pa_nil))) pa_nil))))) pa_nil))))
    (pss_one (ps_ret (pe_tup (pa_cons (pe_ix ix_list0 (pv 1) pe_int (fun _ _=>rfl)) (pa_cons (pe_ix ix_list0 (pv 1) pe_int (fun _ _=>rfl)) pa_nil)))))),?_⟩
  obtain ⟨p,pl,pr,pk,pa,ls,rs,ws,rfl,hp,hpl,hdl,hpr,hdr,hpk,hdk,hpa⟩:=den_book hv
  refine ⟨_,rfl,_,rfl,p,_,rfl,SqT.of hp,(by show ¬ (HT.sIx 4 0 none=0∧HT.sIx 4 4 (some 2)=4); decide),fun p2 hp2=>?_⟩
  have s1:=same_new hp2 (.tup [.ref pl,.ref pr])
  have e1:(upd H p2 (.tup (cutV [V.ref pl,V.ref pr,V.ref pk,V.ref pa] none (some 2)))) p2=some (.tup [.ref pl,.ref pr]):=upd_same
  have s1':Same H (upd H p2 (.tup (cutV [V.ref pl,V.ref pr,V.ref pk,V.ref pa] none (some 2)))):=s1
  clear s1
  generalize upd H p2 (.tup (cutV [V.ref pl,V.ref pr,V.ref pk,V.ref pa] none (some 2)))=H1 at s1' e1
  refine ⟨p2,rfl,⟨_,SqT.of e1⟩,fun la hla=>?_⟩
  generalize hf:standing L R ks al=f at kk
  refine comp_by (J:=Itt K0 p2) (l:=la) 2 (fun i σ' H'=>∃ (v:Option V) (ts:List V),σ'=[some (.ref p),v]∧Same H1 H'∧H' la=some (.lst ts)∧DenL H' ts (([L,R].take i).map fun q=>D.tup (q.map (stp f)))) ⟨none,[],rfl,same_new hla _,upd_same,trivial⟩ ?_ ?_
  · rintro σ' H2 ⟨v,ts,rfl,s2,e2,dn2⟩
    refine ⟨⟨_,SqT.of (s2 _ _ e1),Nat.le_refl _⟩,?_⟩
    obtain ⟨t0,t1,rfl⟩:∃ t0 t1,ts=[t0,t1]:=by
      match ts,dn2 with
      | [t0,t1],_=>exact ⟨t0,t1,rfl⟩
      | [],h=>exact h.elim
      | [_],h=>exact h.2.elim
      | _ :: _ :: _ :: _,h=>exact h.2.2.elim
    refine gN ⟨_,rfl, ixL (p := la) rfl rfl (SqL.of e2) (atI_zero _ _) (⟨_,rfl, ixL (p := la) rfl rfl (SqL.of e2) (atI_nat (xs:=[t0,t1]) (j:=1) rfl) (⟨smn 2,fun q hq=>?_⟩)⟩)⟩
    have w:=same_new hq (.tup [t0,t1])
    exact kk (.ref q) _ ((s1'.trans s2).trans w) ⟨q,_,rfl,upd_same,dn2.same w⟩
  · rintro i σ' H2 hi ⟨v,ts,rfl,s2,e2,dn2⟩
    obtain ⟨Q0,qv,pq,hyi,hqi,hpq,hdq,hql⟩:∃ (Q0:List Prt) (qv:List V) (pq:Addr),([V.ref pl,V.ref pr]:List V)[i]?=some (.ref pq)∧[L,R][i]?=some Q0∧H pq=some (.tup qv)∧DenL H qv (Q0.map partD)∧Q0.length≤9:=by
      match i,hi with
      | 0,_=>exact ⟨L,ls,pl,rfl,rfl,hpl,hdl,vb.lL⟩
      | 1,_=>exact ⟨R,rs,pr,rfl,rfl,hpr,hdr,vb.lR⟩
    refine ⟨⟨_,_,SqT.of (s2 _ _ e1),hyi⟩,?_⟩
    rintro y H'' ⟨rfl,hy⟩
    have ey:y=.ref pq:=Option.some.inj ((hy _ (SqT.of (s2 _ _ e1))).symm.trans hyi)
    subst ey
    have hul:=hdq.len
    rw [List.length_map] at hul
    have s02:=s1'.trans s2
    refine gN (yesT (iteT ?_))
    refine ⟨_,rfl,pq,rfl,⟨_,SqT.of (s02 _ _ hpq)⟩,fun lc hlc=>?_⟩
    refine comp_by (J:=Itt K0 pq) (l:=lc) qv.length (fun j σ' H'=>∃ (v:Option V) (ws:List V),σ'=[some (.ref p),v]∧Same H'' H'∧H' lc=some (.lst ws)∧DenL H' ws ((Q0.take j).map (stp f))) ⟨none,[],rfl,same_new hlc _,upd_same,trivial⟩ ?_ ?_
    · rintro σ' H3 ⟨v,ws,rfl,s3,e3,dn3⟩
      rw [hul,List.take_length] at dn3
      refine ⟨⟨_,SqT.of (s3 _ _ (s02 _ _ hpq)),Nat.le_refl _⟩,lc,ws,rfl,.inl ⟨SqL.of e3,fun q hq=>?_⟩⟩
      have w:=same_new hq (.tup ws)
      have s3w:=s3.trans w
      have ea:=s3w _ _ e2
      have kT:=keepT_upd (zs:=ts++[.ref q]) ea
      have tl:=dn2.len
      rw [List.length_map,List.length_take] at tl
      refine ⟨ts,ea,small1000 (by simp at tl; omega),_,ts++[.ref q],rfl,?_,upd_same,?_⟩
      · intro c o z
        rw [upd_ne (ne_of_none z hla)]
        exact s3w _ _ (s2 c o z)
      · have htk:[L,R].take (i+1)=[L,R].take i++[Q0]:=by
          rw [List.take_add_one,hqi]
          rfl
        rw [htk,List.map_append]
        exact DenL.snoc (Den.keepT kT (show Den _ (.ref q) (.tup (Q0.map (stp f))) from ⟨q,ws,rfl,upd_same,dn3.same w⟩)) ((dn2.same s3w).keepT kT)
    · rintro j σ' H3 hj ⟨v,ws,rfl,s3,e3,dn3⟩
      have hnj:j < Q0.length:=by omega
      have hat:qv[j]?=some qv[j]:=List.getElem?_eq_getElem hj
      have s03:=s02.trans s3
      refine ⟨⟨_,_,SqT.of (s03 _ _ hpq),hat⟩,?_⟩
      rintro y H4 ⟨rfl,hy⟩
      have ey:y=qv[j]:=Option.some.inj ((hy _ (SqT.of (s03 _ _ hpq))).symm.trans hat)
      obtain ⟨dd,hdd,dy⟩:=hdq.at_ hat
      rw [← ey] at dy
      rw [List.getElem?_map,List.getElem?_eq_getElem hnj] at hdd
      have edd:partD Q0[j]=dd:=Option.some.inj hdd
      subst edd
      obtain ⟨b,pm,rfl,hb,hpm⟩:=den_part (dy.same s03)
      refine gN (yesT (iteT ?_))
      refine ⟨_,rfl, ixT (p := b) rfl rfl (SqT.of hb) (atI_zero _ _) (⟨_,rfl,_,rfl, ixT (p := b) rfl rfl (SqT.of hb) (atI_zero _ _) (⟨_,L,R,ks,al,Q0[j].1,rfl,hv.same s03,vb,fun u H5 s5 d5=>⟨smn 2,fun t ht=>?_⟩⟩)⟩)⟩
      rw [hf] at d5
      have w:=s5.trans (same_new ht (.tup [mkT Q0[j].1,u]))
      have ec:=w _ _ e3
      have kT:=keepT_upd (zs:=ws++[.ref t]) ec
      have wl:=dn3.len
      rw [List.length_map,List.length_take] at wl
      refine ⟨ws,ec,small1000 (by omega),_,ws++[.ref t],rfl,?_,upd_same,?_⟩
      · intro c o z
        rw [upd_ne (ne_of_none z hlc)]
        exact w _ _ (s3 c o z)
      · rw [List.take_add_one,List.getElem?_eq_getElem hnj,List.map_append]
        refine DenL.snoc (Den.keepT kT (show Den _ (.ref t) (stp f Q0[j]) from ⟨t,_,rfl,upd_same,rfl,d5.same (same_new ht _),trivial⟩)) ((dn3.same w).keepT kT)
end
noncomputable def BoxAt (b ln:Addr) (H:Hp):Prop:=∃ (i:Int) (ns:List Int),H b=some (.lst [.ref ln,.int i,.int 0])∧H ln=some (.lst (ns.map V.int))∧b≠ln∧0 < ns.length∧ns.length≤1000
theorem BoxAt.same {b ln:Addr} {H H':Hp} (h:BoxAt b ln H) (s:Same H H'):BoxAt b ln H':=by
  obtain ⟨i,ns,e1,e2,r⟩:=h
  exact ⟨i,ns,s _ _ e1,s _ _ e2,r⟩
theorem BoxAt.new {b ln c:Addr} {H:Hp} {o:HO} (h:BoxAt b ln H) (hc:H c=none):BoxAt b ln (upd H c o):=h.same (same_new hc o)
theorem BoxAt.ne {b ln c:Addr} {H:Hp} (h:BoxAt b ln H) (hc:H c=none):c≠b∧c≠ln:=by
  obtain ⟨i,ns,e1,e2,r⟩:=h
  exact ⟨(ne_of_none e1 hc).symm,(ne_of_none e2 hc).symm⟩
theorem BoxAt.upd {b ln c:Addr} {H:Hp} {o:HO} (h:BoxAt b ln H) (h1:c≠b) (h2:c≠ln):BoxAt b ln (upd H c o):=by
  obtain ⟨i,ns,e1,e2,r⟩:=h
  exact ⟨i,ns,(upd_ne h1.symm).trans e1,(upd_ne h2.symm).trans e2,r⟩
noncomputable def OldB (b:Addr) (H H':Hp):Prop:=∀ c o,H c=some o→c≠b→H' c=some o
theorem OldB.trans {b:Addr} {H H1 H2:Hp} (a:OldB b H H1) (c:OldB b H1 H2):OldB b H H2:=fun d o e h=>c d o (a d o e h) h
theorem OldB.of {b:Addr} {H H1:Hp} (s:Same H H1):OldB b H H1:=fun c o e _=>s c o e
theorem OldB.free {b c:Addr} {H H1:Hp} {o:HO} (a:OldB b H H1) (hc:H c=none):OldB b H (L2.upd H1 c o):=fun d o' e h=>by
  rw [upd_ne (ne_of_none e hc)]
  exact a d o' e h
theorem OldB.none {b ln c:Addr} {H H':Hp} (o:OldB b H H') (hp':BoxAt b ln H') (hc:H' c=none):H c=none:=by
  cases e:H c with
  | none=>rfl
  | some u =>
    have:=o c u e (hp'.ne hc).1
    rw [hc] at this
    cases this
theorem oldB_keep {b ln:Addr} {H H':Hp} (hp:BoxAt b ln H) (o:OldB b H H'):∀ (c:Addr) (vs:List V),H c=some (.tup vs)→H' c=some (.tup vs):=fun c vs e=>by
  obtain ⟨i,ns,e1,e2,r⟩:=hp
  exact o c _ e (ne_of e e1 (by intro z; cases z))
noncomputable def spNext:Sp:=fun vs H Q _=>∃ (b ln:Addr),vs=[.ref b]∧BoxAt b ln H∧∀ (r:Int) (H':Hp),BoxAt b ln H'→OldB b H H'→Q (.int r) H'
noncomputable def spMixed:Sp:=fun vs H Q _=>∃ (c:Int) (n:Nat),vs=[.int c,.int (n:Nat)]∧n≤1000∧∀ (l:Addr) (ns:List Int),H l=none→ns.length=n→Q (.ref l) (upd H l (.lst (ns.map V.int)))
noncomputable def spNumbers (K:PySem.W.Frag):Sp:=fun vs H Q _=>∃ (a:Addr) (ms:List Int),vs=[.ref a,.int 900]∧SqL K H a (ms.map V.int)∧ms.length≤63∧∀ (l:Addr) (ns:List Int) (H':Hp),Same H H'→H' l=some (.lst (ns.map V.int))→ns.length=900→Q (.ref l) H'
theorem snocI {H:Hp} {l:Addr} {ns:List Int} {m:Int}:L2.upd (L2.upd H l (.lst (ns.map V.int))) l (.lst (ns.map V.int++[V.int m]))=L2.upd H l (.lst ((ns++[m]).map V.int)):=by
  rw [upd_upd,List.map_append]
  rfl
theorem mod_ok (z:Int):-(2 ^ 64) < z % 2147483629∧z % 2147483629 < 2 ^ 64:=by omega
section
variable {P:Program} {w:World} {K:PySem.W.Frag} {mg:Str→Option Value} {base:Heap}
theorem scNext:FnScope ["_law_box"] ["_law_box"] (defScope sNext):=⟨rfl,rfl,rfl,by decide +kernel,rfl,by decide +kernel,by decide +kernel⟩
theorem c_next (h:Has K mg "_law_next" sNext ["_law_box"]) (m_len:mg "len" = none):Cal P w K mg base "_law_next" 1 ["_law_box"] spNext:=by
  refine h.mk' scNext (fun vs H Q E hs=>?_) (fun f cdv A outer s H vs Q E hr hs=>?_)
  · obtain ⟨b,ln,rfl,_⟩:=hs
    rfl
  obtain ⟨b,ln,rfl,⟨i,ns,e1,e2,hne,h0,h1⟩,k⟩:=hs
  refine ⟨_,(pss_cons (ps_augS (pv 0) pe_int get_list pe_int iop_add set_list)
    (pss_one (ps_ret (pe_ix ix_list0 (pe_ix ix_list0 (pv 0) pe_int (fun _ _=>rfl)) (pe_op op_mod (pe_op op_sub (pe_ix ix_list0 (pv 0) pe_int (fun _ _=>rfl)) pe_int) (pe_callB call_len_seq rfl m_len PySem.boot_len (pa_cons (pe_ix ix_list0 (pv 0) pe_int (fun _ _=>rfl)) pa_nil))) (fun _ _=>rfl))))),?_⟩
  have at1:∀ i:Int,atI [V.ref ln,V.int i,V.int 0] 1=some (.int i):=fun i=>atI_nat (xs:=[V.ref ln,V.int i,V.int 0]) (j:=1) rfl
  refine ⟨_,rfl, ixL (p := b) rfl rfl (SqL.of e1) (at1 i) (⟨_,_,rfl,rfl,b,_,_,1,rfl,rfl,e1,rfl,?_⟩)⟩
  have e3:(upd H b (.lst ([V.ref ln,V.int i,V.int 0].set 1 (.int (i+1))))) b=some (.lst [.ref ln,.int (i+1),.int 0]):=upd_same
  have e4:(upd H b (.lst ([V.ref ln,V.int i,V.int 0].set 1 (.int (i+1))))) ln=some (.lst (ns.map V.int)):=(upd_ne hne.symm).trans e2
  have o3:OldB b H (upd H b (.lst ([V.ref ln,V.int i,V.int 0].set 1 (.int (i+1))))):=fun c o e h=>by
    rw [upd_ne h]
    exact e
  generalize upd H b (.lst ([V.ref ln,V.int i,V.int 0].set 1 (.int (i+1))))=H3 at e3 e4 o3
  have hpos:(0:Int) < (((ns.map V.int).length:Nat):Int):=by rw [List.length_map]; omega
  obtain ⟨v,hv,hm⟩:=atI_lt (xs:=ns.map V.int) (Int.emod_nonneg (i+1 - 1) (Int.ne_of_gt hpos)) (Int.emod_lt_of_pos (i+1 - 1) hpos)
  obtain ⟨r,_,rfl⟩:=List.mem_map.mp hm
  refine ⟨_,rfl, ixL (p := b) rfl rfl (SqL.of e3) (atI_zero _ _) (⟨_,rfl, ixL (p := b) rfl rfl (SqL.of e3) (at1 _) (⟨_,_,rfl,rfl,_,rfl, ixL (p := b) rfl rfl (SqL.of e3) (atI_zero _ _) (⟨ln,_,rfl,.inl (SqL.of e4),_,_,rfl,rfl,hpos, ixL (p := ln) rfl rfl (SqL.of e4) (hv) (?_)⟩)⟩)⟩)⟩
  exact k r H3 ⟨i+1,ns,e3,e4,hne,h0,h1⟩ o3
theorem scMixed:FnScope ["_law_cell", "_law_many_here", "_law_at", "_law_found", "_law_k"] ["_law_cell", "_law_many_here"] (defScope sMixed):=⟨rfl,rfl,rfl,by decide +kernel,rfl,by decide +kernel,by decide +kernel⟩
theorem c_mixed (h:Has K mg "_law_mixed" sMixed ["_law_cell", "_law_many_here"]) (m_range:mg "range" = none):Cal P w K mg base "_law_mixed" 1 ["_law_cell", "_law_many_here"] spMixed:=by
  refine h.mk' scMixed (fun vs H Q E hs=>?_) (fun f cdv A outer s H vs Q E hr hs=>?_)
  · obtain ⟨c,n,rfl,_⟩:=hs
    rfl
  obtain ⟨c,n,rfl,hn,k⟩:=hs
  refine ⟨_,(pss_cons (ps_set (i:=2) scMixed.nd rfl (Or.inl rfl) (pe_op op_mod (pv 0) pe_int))
    (pss_cons (ps_set (i:=3) scMixed.nd rfl (Or.inl rfl) (pe_lst pa_nil))
    (pss_cons (ps_for PassesOwn.never rfl (pi_range1 rfl m_range (pa_cons (pv 1) pa_nil)) (pg_name (i:=4) scMixed.nd rfl (Or.inl rfl))
      (pss_cons (ps_set (i:=2) scMixed.nd rfl (Or.inl rfl) (pe_op op_mod (pe_op op_add (pe_op op_add (pe_op op_mul (pv 2) pe_int) (pe_op op_mul (pe_op op_mul pe_int (pv 4)) (pv 4))) pe_int) pe_int))
    (pss_one (ps_expr (pe_bmZ PySem.F.plainAttrs_list PySem.F.slot_list_append PySem.F.type_list_append mt_append (pv 3) (pa_cons (pe_op op_fdivB (pe_op op_mod (pe_op op_add (pe_op op_add (pe_op op_mul (pv 2) (pv 2)) (pe_op op_mul pe_int (pv 2))) (pv 4)) pe_int) pe_int) pa_nil))))))
    (pss_one (ps_ret (pv 3)))))),?_⟩
  refine ⟨_,rfl,_,_,rfl,rfl,by show (0:Int) < 2147483647; decide,smn 0,fun l hl=>?_⟩
  refine ⟨_,rfl,_,rfl,by omega,by omega,?_⟩
  refine for_range (lo:=0) (n:=n) (fun j σ H2=>∃ (v4:Option V) (at_:Int) (ns:List Int),σ=[some (.int c),some (.int (n:Nat)),some (.int at_),some (.ref l),v4]∧H2=upd H l (.lst (ns.map V.int))∧ns.length=j∧0≤at_∧at_ < 2147483647) ⟨_,_,[],rfl,rfl,rfl,Int.emod_nonneg _ (by decide),Int.emod_lt_of_pos _ (by decide)⟩ ?_ ?_
  · rintro j σ H2 hj ⟨v4,at_,ns,rfl,rfl,hl2,a0,a1⟩
    refine gN ⟨_,rfl,_,_,rfl,rfl,.inr ⟨by decide,by decide⟩,_,rfl,_,_,rfl,rfl,.inl ⟨by decide,by decide⟩,_,rfl,_,_,rfl,rfl,.inl ⟨by omega,by omega⟩,_,_,rfl,rfl,_,_,rfl,rfl,_,_,rfl,rfl,by show (0:Int) < 2147483629; decide,?_⟩
    refine gN ⟨_,rfl,.inl ⟨rfl,_,SqL.of upd_same⟩,_,rfl,_,rfl,_,_,rfl,rfl,.inl (mod_ok _),_,rfl,_,_,rfl,rfl,.inl ⟨by decide,by decide⟩,_,_,rfl,rfl,_,rfl,_,_,rfl,rfl,_,_,rfl,rfl,by show (0:Int) < 2147483587; decide,_,_,rfl,rfl,⟨by decide,by decide⟩,?_⟩
    refine ⟨l,_,_,rfl,rfl,upd_same,by rw [List.length_map]; exact small1000 (by omega),_,_,ns++[_],rfl,snocI,(by simp [hl2]),Int.emod_nonneg _ (by decide),Int.lt_trans (Int.emod_lt_of_pos _ (by decide)) (by decide)⟩
  · rintro σ H2 ⟨v4,at_,ns,rfl,rfl,hl2,a0,a1⟩
    exact ⟨_,rfl,k l ns hl hl2⟩
theorem scNumbers:FnScope ["_law_script", "_law_many_here", "_law_found", "_law_cell", "_law_left", "_law_k"] ["_law_script", "_law_many_here"] (defScope sNumbers):=⟨rfl,rfl,rfl,by decide +kernel,rfl,by decide +kernel,by decide +kernel⟩
theorem c_numbers (h:Has K mg "_law_numbers" sNumbers ["_law_script", "_law_many_here"]) (C_mixed:Cal P w K mg base "_law_mixed" 1 ["_law_cell", "_law_many_here"] spMixed) (m_range:mg "range" = none) (m_len:mg "len" = none) (m_sum:mg "sum" = none):Cal P w K mg base "_law_numbers" 2 ["_law_script", "_law_many_here"] (spNumbers K):=by
  refine h.mk' scNumbers (fun vs H Q E hs=>?_) (fun f cdv A outer s H vs Q E hr hs=>?_)
  · obtain ⟨a,ms,rfl,_⟩:=hs
    rfl
  obtain ⟨a,ms,rfl,hS,h63,k⟩:=hs
  refine ⟨_,(pss_cons (ps_set (i:=2) scNumbers.nd rfl (Or.inl rfl) (pe_lst pa_nil))
    (pss_cons (ps_for PassesOwn.never rfl (pi_list0 (pe_slice sl_list (pv 0) po_none (po_some pe_int))) (pg_name (i:=3) scNumbers.nd rfl (Or.inl rfl))
      (pss_cons (ps_if (pt_cmpR op_lt (pv 3) (pe_op op_pow pe_int pe_int) (nomark _))
      (pss_cons (ps_expr (pe_bmZ PySem.F.plainAttrs_list PySem.F.slot_list_extend PySem.F.type_list_extend mt_extend (pv 2) (pa_cons (pe_cal C_mixed hr (by decide) rfl (pa_cons (pv 3) (pa_cons pe_int pa_nil))) pa_nil)))
    (pss_one ps_continue))
      pss_nil)
    (pss_cons (ps_set (i:=4) scNumbers.nd rfl (Or.inl rfl) (pv 3))
    (pss_one (ps_for PassesOwn.never rfl (pi_range1 rfl m_range (pa_cons pe_int pa_nil)) (pg_name (i:=5) scNumbers.nd rfl (Or.inl rfl))
      (pss_one (ps_if (pt_cmpR op_gt (pv 4) pe_int (nomark _))
      (pss_cons (ps_expr (pe_bmZ PySem.F.plainAttrs_list PySem.F.slot_list_append PySem.F.type_list_append mt_append (pv 2) (pa_cons (pe_op op_mod (pv 4) pe_int) pa_nil)))
    (pss_one (ps_set (i:=4) scNumbers.nd rfl (Or.inl rfl) (pe_op op_fdivB (pv 4) pe_int))))
      pss_nil)))))))
    (pss_cons (ps_set (i:=2) scNumbers.nd rfl (Or.inl rfl) (pe_slice sl_list (pv 2) po_none (po_some (pv 1))))
    (pss_one (ps_ret (pe_op op_cat (pv 2) (pe_cal C_mixed hr (by decide) rfl (pa_cons (pe_op op_add (pe_callB (call_sumI rfl) rfl m_sum boot_sum (pa_cons (pe_slice sl_list (pv 0) po_none (po_some pe_int)) pa_nil)) (pe_callB call_len_seq rfl m_len PySem.boot_len (pa_cons (pv 0) pa_nil))) (pa_cons (pe_op op_sub (pv 1) (pe_callB call_len_seq rfl m_len PySem.boot_len (pa_cons (pv 2) pa_nil))) pa_nil))))))))),?_⟩
  refine ⟨smn 0,fun lf hlf=>?_⟩
  have s1:=same_new hlf (.lst [])
  obtain ⟨m2,em2,hm2⟩:=cutV_ints ms none (some 63)
  refine ⟨_,rfl,_,rfl,a,_,rfl,s1.seq hS,fun lx hlx=>?_⟩
  rw [em2]
  have s2:=same_new hlx (.lst (m2.map V.int))
  have s02:=s1.trans s2
  have nfx:lf≠lx:=ne_of_none upd_same hlx
  have e2f:(upd (upd H lf (.lst [])) lx (.lst (m2.map V.int))) lf=some (.lst []):=s2 _ _ upd_same
  have e2x:(upd (upd H lf (.lst [])) lx (.lst (m2.map V.int))) lx=some (.lst (m2.map V.int)):=upd_same
  have hlxH:H lx=none:=same_none s1 hlx
  generalize upd (upd H lf (.lst [])) lx (.lst (m2.map V.int))=H2 at s02 e2f e2x
  refine ⟨lx,rfl,⟨_,SqL.of e2x⟩,?_⟩
  refine for_list (K := K0) (a:=lx) (xs:=m2.map V.int) (fun i σ H3=>∃ (v3 v4 v5:Option V) (fs:List Int),σ=[some (.ref a),some (.int 900),some (.ref lf),v3,v4,v5]∧Same H H3∧H3 lf=some (.lst (fs.map V.int))∧H3 lx=some (.lst (m2.map V.int))∧fs.length≤80 * i) ⟨_,_,_,[],rfl,s02,e2f,e2x,Nat.le_refl _⟩ ?_ ?_ ?_
  · rintro i σ H3 _ ⟨_,_,_,_,_,_,_,e3x,_⟩
    exact SqL.of e3x
  · rintro i y σ H3 hi ⟨v3,v4,v5,fs,rfl,s3,e3f,e3x,hfl⟩
    obtain ⟨c,rfl⟩:=map_int_at hi
    have hi63:i < 63:=by
      have:=(List.getElem?_eq_some_iff.mp hi).1
      rw [List.length_map] at this
      omega
    refine gN ⟨_,rfl,_,_,rfl,rfl,⟨by decide,by decide,by decide⟩,_,_,rfl,rfl,_,rfl,?_⟩
    refine ite2 (fun z=>?_) (fun z=>?_)
    · refine ⟨_,rfl,.inl ⟨rfl,_,SqL.of e3f⟩,_,rfl,c,8,rfl,by decide,fun l4 ns4 hl4 hn4=>?_⟩
      have s4:=same_new hl4 (.lst (ns4.map V.int))
      refine ⟨lf,l4,_,_,rfl,rfl,s4 _ _ e3f,upd_same,by rw [List.length_map,List.length_map]; exact Nat.le_trans (show _≤1000000 by omega) sizeLine_big,?_⟩
      refine ⟨_,_,_,fs++ns4,rfl,?_,?_,(upd_ne nfx.symm).trans (s4 _ _ e3x),by rw [List.length_append]; omega⟩
      · intro c o z
        rw [upd_ne (ne_of_none z hlf)]
        exact s4 _ _ (s3 c o z)
      · rw [upd_same,List.map_append]
    · refine gN ⟨_,rfl,gN ⟨80,rfl,by omega,by omega,?_⟩⟩
      refine for_range (lo:=0) (n:=80) (fun j σ H4=>∃ (v5:Option V) (left:Int) (fs:List Int),σ=[some (.ref a),some (.int 900),some (.ref lf),some (.int c),some (.int left),v5]∧Same H H4∧H4 lf=some (.lst (fs.map V.int))∧H4 lx=some (.lst (m2.map V.int))∧fs.length≤80 * i+j) ⟨_,c,fs,rfl,s3,e3f,e3x,hfl⟩ ?_ ?_
      · rintro j σ H4 hj ⟨v5,left,fs,rfl,s4,e4f,e4x,hf4⟩
        refine gN ⟨_,rfl,_,_,rfl,rfl,_,rfl,?_⟩
        refine ite2 (fun z=>?_) (fun z=>?_)
        · refine gN ⟨_,rfl,.inl ⟨rfl,_,SqL.of e4f⟩,_,rfl,_,_,rfl,rfl,by show (0:Int) < 10007; decide,lf,_,_,rfl,rfl,e4f,by rw [List.length_map]; exact Nat.lt_of_lt_of_le (show _ < 1000000 by omega) sizeLine_big,?_⟩
          refine ⟨_,rfl,_,_,rfl,rfl,⟨by decide,by decide⟩,_,_,fs++[left % 10007],rfl,?_,?_,(upd_ne nfx.symm).trans e4x,by rw [List.length_append,List.length_singleton]; omega⟩
          · intro c o z
            rw [upd_ne (ne_of_none z hlf)]
            exact s4 c o z
          · rw [upd_same,List.map_append]
            rfl
        · exact ⟨_,_,fs,rfl,s4,e4f,e4x,by omega⟩
      · rintro σ H4 ⟨v5,left,fs,rfl,s4,e4f,e4x,hf4⟩
        exact ⟨_,_,_,fs,rfl,s4,e4f,e4x,by omega⟩
  · rintro σ H3 ⟨v3,v4,v5,fs,rfl,s3,e3f,e3x,hfl⟩
    have hml:(m2.map V.int).length≤63:=by rw [List.length_map]; omega
    obtain ⟨f2,ef2,hf2⟩:=cutV_ints fs none (some 900)
    have hf3:f2.length≤900:=by
      have e:(cutV (fs.map V.int) none (some 900)).length≤900:=by
        unfold cutV
        rw [HT.sIx_none,List.length_take]
        have:HT.sIx (fs.map V.int).length (fs.map V.int).length (some 900)=min 900 (fs.map V.int).length:=HT.sIx_nat (fs.map V.int).length (fs.map V.int).length 900
        omega
      rw [ef2,List.length_map] at e
      exact e
    refine ⟨_,rfl,_,rfl,_,rfl,lf,_,rfl,SqL.of e3f,fun l4 hl4=>?_⟩
    rw [ef2]
    have s4:=same_new hl4 (.lst (f2.map V.int))
    have e4:(upd H3 l4 (.lst (f2.map V.int))) l4=some (.lst (f2.map V.int)):=upd_same
    have s04:=s3.trans s4
    generalize upd H3 l4 (.lst (f2.map V.int))=H4 at s04 e4
    obtain ⟨m5,em5,hm5⟩:=cutV_ints ms none (some 63)
    refine ⟨_,rfl,_,rfl,_,rfl,a,_,rfl,s04.seq hS,fun l5 hl5=>?_⟩
    rw [em5]
    have s5:=same_new hl5 (.lst (m5.map V.int))
    refine ⟨l5,m5,rfl,SqL.of upd_same,fun m=>?_⟩
    have s05:=s04.trans s5
    have e5:=s5 _ _ e4
    generalize upd H4 l5 (.lst (m5.map V.int))=H5 at s05 e5
    refine ⟨_,rfl,a,_,rfl,.inl (s05.seq hS),_,_,rfl,rfl,_,rfl,_,rfl,l4,_,rfl,.inl (SqL.of e5),_,_,rfl,rfl,?_⟩
    refine ⟨m+((ms.map V.int).length:Nat),900 - f2.length,by show [V.int (m+((ms.map V.int).length:Nat)),V.int (900 - (((f2.map V.int).length:Nat):Int))]=_; rw [List.length_map,List.length_map,show (900:Int) - (f2.length:Int)=((900 - f2.length:Nat):Int) by omega],by omega,fun l6 ns6 hl6 hn6=>?_⟩
    have s6:=same_new hl6 (.lst (ns6.map V.int))
    refine ⟨l4,l6,_,_,rfl,rfl,s6 _ _ e5,upd_same,by rw [List.length_map,List.length_map]; exact small (by omega),fun l7 hl7=>?_⟩
    refine k l7 (f2++ns6) _ ((s05.trans s6).trans (same_new hl7 _)) ?_ (by rw [List.length_append]; omega)
    rw [upd_same,List.map_append]
end
noncomputable def LT8:List Nat:=[98,97,122,113,109,120,121,99]
noncomputable def base3:Nms:=[[108,111,110,103,110,97,109,101],[108,111,110,103,110,97,109,102],[97,98,99]]
noncomputable def poolAt (i:Nat):Nms:=(base3++LT8.map fun c=>[c])++(LT8.take i).flatMap fun a=>LT8.map fun b=>[a,b]
structure PoolOk (ns:Nms):Prop where
  len:ns.length=75
  nd:ns.Nodup
  sh:∀ x∈ns,x.length≤8
theorem pool_ok:(poolAt 8).length=75∧(poolAt 8).Nodup∧∀ x∈poolAt 8,x.length≤8:=by decide +kernel
theorem pool_step {i c:Nat} (h:LT8[i]?=some c):poolAt (i+1)=poolAt i++LT8.map fun b=>[c,b]:=by
  unfold poolAt
  rw [List.take_add_one,h,Option.toList_some,List.flatMap_append,← List.append_assoc]
  simp only [List.flatMap_cons,List.flatMap_nil,List.append_nil]
theorem lt8_list:("bazqmxyc" : Str).cps.toList=LT8:=by decide +kernel
theorem pool0:[V.str "longname",V.str "longnamf",V.str "abc"]++(LT8.map fun c=>V.str ⟨#[c]⟩)=(poolAt 0).map mkT:=by decide +kernel
theorem cut_from {α:Type} (xs:List α) {r:Nat} (h:r≤xs.length):(xs.drop (HT.sIx xs.length 0 (some (r:Int)))).take (HT.sIx xs.length xs.length none - HT.sIx xs.length 0 (some (r:Int)))=xs.drop r:=by
  rw [HT.sIx_nat,HT.sIx_none,Nat.min_eq_left h]
  exact List.take_of_length_le (by rw [List.length_drop]; omega)
theorem cut_upto {α:Type} (xs:List α) {r:Nat} (h:r≤xs.length):(xs.drop (HT.sIx xs.length 0 none)).take (HT.sIx xs.length xs.length (some (r:Int)) - HT.sIx xs.length 0 none)=xs.take r:=by
  rw [HT.sIx_nat,HT.sIx_none,Nat.min_eq_left h,List.drop_zero,Nat.sub_zero]
noncomputable def spPool:Sp:=fun vs H Q _=>∃ x:Int,vs=[.int x]∧∀ (l:Addr) (ns:Nms) (H':Hp),H l=none→Same H H'→H' l=some (.lst (ns.map mkT))→PoolOk ns→Q (.ref l) H'
theorem str_two (c d:Nat):(⟨#[c]⟩:Str)++(⟨#[d]⟩:Str)=⟨[c,d].toArray⟩:=rfl
section
variable {P:Program} {w:World} {K:PySem.W.Frag} {mg:Str→Option Value} {base:Heap}
theorem scPool:FnScope ["_law_x", "_law_letters", "_law_pool_here", "_law_one"] ["_law_x"] (defScope sPool):=⟨rfl,rfl,rfl,by decide +kernel,rfl,by decide +kernel,by decide +kernel⟩
theorem c_pool (h:Has K mg "_law_pool" sPool ["_law_x"]) (m_list:mg "list" = none):Cal P w K mg base "_law_pool" 1 ["_law_x"] spPool:=by
  refine h.mk' scPool (fun vs H Q E hs=>?_) (fun f cdv A outer s H vs Q E hr hs=>?_)
  · obtain ⟨x,rfl,_⟩:=hs
    rfl
  obtain ⟨x,rfl,k⟩:=hs
  refine ⟨_,(pss_cons (ps_set (i:=1) scPool.nd rfl (Or.inl rfl) pe_str)
    (pss_cons (ps_set (i:=2) scPool.nd rfl (Or.inl rfl) (pe_op op_cat (pe_lst (pa_cons pe_str (pa_cons pe_str (pa_cons pe_str pa_nil)))) (pe_callTy (call_listS rfl) rfl m_list boot_list (pa_cons (pv 1) pa_nil))))
    (pss_cons (ps_for PassesOwn.never rfl (pi_str (pv 1)) (pg_name (i:=3) scPool.nd rfl (Or.inr rfl))
      (pss_one (ps_set (i:=2) scPool.nd rfl (Or.inl rfl) (pe_op op_cat (pv 2) (pe_compL ["_law_x", "_law_letters", "_law_pool_here", "_law_one"] (defScope sPool) ["_law_one", "_law_other"] [some 3,none] rfl rfl rfl (pi_str (pv 1)) rfl (by decide +kernel) (by decide +kernel) (by decide +kernel) (by decide +kernel) (hg:=fun cl C s H ex pn E=>(pg_name (i:=1) (by decide +kernel:(["_law_one", "_law_other"]:List Str).Nodup) rfl (Or.inl rfl))) (ht:=fun cl C s H ex pn E=>pifs_nil) (he:=fun cl C s H ex pn E=>(pe_op op_add_str (pv 0) (pv 1))))))))
    (pss_one (ps_ret (pe_op op_cat (pe_slice sl_list (pv 2) (po_some (pe_op op_mod (pv 0) pe_int)) po_none) (pe_slice sl_list (pv 2) po_none (po_some (pe_op op_mod (pv 0) pe_int))))))))),?_⟩
  have hz8:("bazqmxyc" : Str).cps.size≤1000:=by decide +kernel
  have hsz:("bazqmxyc" : Str).cps.size=8:=by decide +kernel
  refine ⟨smn 3,fun l1 hl1=>⟨_,rfl,_,rfl,hz8,fun l2 hl2=>?_⟩⟩
  rw [lt8_list]
  have s1:=same_new hl1 (.lst [.str "longname",.str "longnamf",.str "abc"])
  have s2:=same_new hl2 (.lst (LT8.map fun c=>V.str ⟨#[c]⟩))
  refine ⟨l1,l2,_,_,rfl,rfl,s2 _ _ upd_same,upd_same,smn 11,fun l3 hl3=>?_⟩
  rw [pool0]
  have s3:=(s1.trans s2).trans (same_new hl3 (.lst ((poolAt 0).map mkT)))
  have hl3H:H l3=none:=same_none (s1.trans s2) hl3
  refine ⟨_,rfl,_,rfl,?_⟩
  refine for_str (x:="bazqmxyc") (fun i σ H4=>∃ (v3:Option V) (l:Addr),σ=[some (.int x),some (.str "bazqmxyc"),some (.ref l),v3]∧Same H H4∧H4 l=some (.lst ((poolAt i).map mkT))∧H l=none) ⟨_,l3,rfl,s3,upd_same,hl3H⟩ ?_ ?_
  · intro i c σ H4 hi q_ 
    refine hid fun G bk_ => ?_
    obtain ⟨v3,l,rfl,s4,e4,hlH⟩ := q_
    refine bk_ ?_
    have hi':LT8[i]?=some c:=by rw [← lt8_list]; simpa using hi
    have hi8:i < 8:=(List.getElem?_eq_some_iff.mp hi').1
    have hpl:(poolAt i).length≤100:=by
      unfold poolAt
      rw [List.length_append,List.length_flatMap]
      have:((LT8.take i).map fun a=>(LT8.map fun b=>[a,b]).length).sum≤8 * 8:=by
        have e:((LT8.take i).map fun a=>(LT8.map fun b=>[a,b]).length)=List.replicate (LT8.take i).length 8:=by
          rw [List.eq_replicate_iff]
          refine ⟨by rw [List.length_map],fun b hb=>?_⟩
          obtain ⟨a,_,rfl⟩:=List.mem_map.mp hb
          rfl
        rw [e,List.sum_replicate_nat,List.length_take]
        have:LT8.length=8:=rfl
        omega
      have:(base3++LT8.map fun c=>[c]).length=11:=rfl
      omega
    refine gN ⟨_,rfl,_,rfl,_,rfl,fun lc hlc=>?_⟩
    refine comp_by (J:=Its "bazqmxyc") (l:=lc) 8 (fun j σ' H'=>∃ v:Option V,σ'=[some (.str ⟨#[c]⟩),v]∧H'=upd H4 lc (.lst (((LT8.take j).map fun b=>[c,b]).map mkT))) ⟨none,rfl,rfl⟩ ?_ ?_
    · rintro σ' H5 ⟨v,rfl,rfl⟩
      have s5:=same_new hlc (.lst (((LT8.take 8).map fun b=>[c,b]).map mkT))
      refine ⟨by rw [← hsz]; exact Nat.le_refl _,l,lc,_,_,rfl,rfl,s5 _ _ e4,upd_same,?_,fun l6 hl6=>?_⟩
      · rw [List.length_map,List.length_map,List.length_map]
        have:(LT8.take 8).length=8:=rfl
        exact small (by omega)
      · rw [← List.map_append,show LT8.take 8=LT8 from rfl,← pool_step hi']
        have s6:=same_new hl6 (.lst ((poolAt (i+1)).map mkT))
        exact ⟨_,l6,rfl,(s4.trans s5).trans s6,upd_same,same_none (s4.trans s5) hl6⟩
    · rintro j σ' H5 hj ⟨v,rfl,rfl⟩
      refine ⟨by rw [← hsz] at hj; exact hj,?_⟩
      rintro y H'' ⟨rfl,d,hd,rfl⟩
      have hd':LT8[j]?=some d:=by rw [← lt8_list]; simpa using hd
      refine gN (yesT (iteT ?_))
      refine ⟨_,rfl,_,rfl,_,_,rfl,rfl,smn 2,?_⟩
      rw [str_two]
      refine ⟨_,upd_same,?_,_,rfl,?_⟩
      · rw [List.length_map,List.length_map,List.length_take]
        have:LT8.length=8:=rfl
        exact small1000 (by omega)
      · rw [upd_upd,List.take_add_one,hd',List.map_append,List.map_append]
        rfl
  · intro σ H4 q_ 
    refine hid fun G bk_ => ?_
    obtain ⟨v3,l,rfl,s4,e4,hlH⟩ := q_
    refine bk_ ?_
    rw [hsz] at e4
    obtain ⟨p1,p2,p3⟩:=pool_ok
    obtain ⟨r,er,hr⟩:∃ r:Nat,x % 75=(r:Nat)∧r < 75:=⟨(x % 75).toNat,by omega,by omega⟩
    have hrl:r≤((poolAt 8).map mkT).length:=by rw [List.length_map]; omega
    refine ⟨_,rfl,_,rfl,_,_,rfl,rfl,by show (0:Int) < 75; decide,_,rfl,l,_,rfl,SqL.of e4,fun l5 hl5=>?_⟩
    have s5:=same_new hl5 (.lst (cutV ((poolAt 8).map mkT) (some (x % 75)) none))
    refine ⟨_,rfl,_,rfl,_,_,rfl,rfl,by show (0:Int) < 75; decide,_,rfl,l,_,rfl,SqL.of (s5 _ _ e4),fun l6 hl6=>?_⟩
    have s6:=same_new hl6 (.lst (cutV ((poolAt 8).map mkT) none (some (x % 75))))
    have c5:cutV ((poolAt 8).map mkT) (some (x % 75)) none=((poolAt 8).drop r).map mkT:=by
      rw [er]
      exact (cut_from _ hrl).trans (by rw [List.map_drop])
    have c6:cutV ((poolAt 8).map mkT) none (some (x % 75))=((poolAt 8).take r).map mkT:=by
      rw [er]
      exact (cut_upto _ hrl).trans (by rw [List.map_take])
    have pm:((poolAt 8).drop r++(poolAt 8).take r).Perm (poolAt 8):=by
      refine List.perm_append_comm.trans ?_
      rw [List.take_append_drop]
    refine ⟨l5,l6,_,_,rfl,rfl,s6 _ _ upd_same,upd_same,?_,fun l7 hl7=>?_⟩
    · rw [c5,c6,List.length_map,List.length_map,List.length_drop,List.length_take]
      exact small (by omega)
    refine k l7 ((poolAt 8).drop r++(poolAt 8).take r) _ ?_ (((s4.trans s5).trans s6).trans (same_new hl7 _)) ?_ ⟨by rw [pm.length_eq]; exact p1,pm.nodup_iff.mpr p2,fun y hy=>p3 y (pm.mem_iff.mp hy)⟩
    · exact same_none ((s4.trans s5).trans s6) hl7
    · rw [upd_same,c5,c6,List.map_append]
end
noncomputable def spMoment:Sp:=fun vs H Q _=>∃ (b ln:Addr),vs=[.ref b]∧BoxAt b ln H∧∀ (r:Int) (H':Hp),r≤1000000000000→BoxAt b ln H'→OldB b H H'→Q (.int r) H'
noncomputable def spMoments:Sp:=fun vs H Q _=>∃ (b ln:Addr) (n:Nat),vs=[.ref b,.int (n:Nat)]∧BoxAt b ln H∧n≤1∧∀ (q:Addr) (ms:List Int) (H':Hp),H' q=some (.tup (ms.map V.int))→ms.length≤4→(1≤n→ms≠[])→(∀ m∈ms,m≤1000000000000)→BoxAt b ln H'→OldB b H H'→Q (.ref q) H'
noncomputable def spText:Sp:=fun vs H Q _=>∃ (b ln:Addr),vs=[.ref b]∧BoxAt b ln H∧∀ (t:List Nat) (H':Hp),BoxAt b ln H'→OldB b H H'→Q (mkT t) H'
noncomputable def spMany:Sp:=fun vs H Q _=>∃ (b ln:Addr),vs=[.ref b]∧BoxAt b ln H∧∀ (r:Int) (H':Hp),0≤r→r≤9→BoxAt b ln H'→OldB b H H'→Q (.int r) H'
theorem flat_ints (ms:List Int):(ms.map V.int).all flatV=true:=by
  rw [List.all_eq_true]
  intro v hv
  obtain ⟨m,_,rfl⟩:=List.mem_map.mp hv
  rfl
section
variable {P:Program} {w:World} {K:PySem.W.Frag} {mg:Str→Option Value} {base:Heap}
theorem nextN {σ:L2.St} {H:Hp} {i:Nat} {b ln:Addr} {Q:VK} (hσ:σ[i]?=some (some (.ref b))) (hp:BoxAt b ln H) (k:∀ (r:Int) (H':Hp),BoxAt b ln H'→OldB b H H'→Q (.int r) H'):tCall spNext [] E0 (tCons (tVar i) tNil) σ H Q:=⟨_,hσ,b,ln,rfl,hp,k⟩
theorem scMoment:FnScope ["_law_box", "_law_x"] ["_law_box"] (defScope sMoment):=⟨rfl,rfl,rfl,by decide +kernel,rfl,by decide +kernel,by decide +kernel⟩
theorem c_moment (h:Has K mg "_law_moment" sMoment ["_law_box"]) (C_next:Cal P w K mg base "_law_next" 1 ["_law_box"] spNext):Cal P w K mg base "_law_moment" 2 ["_law_box"] spMoment:=by
  refine h.mk' scMoment (fun vs H Q E hs=>?_) (fun f cdv A outer s H vs Q E hr hs=>?_)
  · obtain ⟨b,ln,rfl,_⟩:=hs
    rfl
  obtain ⟨b,ln,rfl,hp,k⟩:=hs
  refine ⟨_,(pss_cons (ps_set (i:=1) scMoment.nd rfl (Or.inl rfl) (pe_cal C_next hr (by decide) rfl (pa_cons (pv 0) pa_nil)))
    (pss_one (ps_ret (pe_ix ix_list0 (pe_lst (pa_cons (pe_op op_mod (pe_op op_fdivB (pv 1) pe_int) pe_int) (pa_cons (pe_op op_mod (pe_op op_fdivB (pv 1) pe_int) pe_int) (pa_cons (pe_op op_mod (pe_op op_fdivB (pv 1) pe_int) pe_int) (pa_cons (pe_op op_sub (pe_op op_pow pe_int pe_int) (pe_op op_mod (pe_op op_fdivB (pv 1) pe_int) pe_int)) (pa_cons (pe_op op_mod (pe_op op_mul (pe_op op_fdivB (pv 1) pe_int) pe_int) (pe_op op_pow pe_int pe_int)) pa_nil)))))) (pe_op op_mod (pv 1) pe_int) (fun _ _=>rfl))))),?_⟩
  refine nextN (σ:=[some (.ref b),none]) (i:=0) rfl hp fun x H1 p1 o1=>?_
  have e12:(10:Int) ^ (12:Int).toNat=1000000000000:=by decide
  refine ⟨_,rfl,_,_,rfl,rfl,⟨by decide,by decide⟩,_,_,rfl,rfl,by show (0:Int) < 7; decide,_,rfl,_,_,rfl,rfl,⟨by decide,by decide⟩,_,_,rfl,rfl,by show (0:Int) < 4; decide,_,rfl,_,_,rfl,rfl,⟨by decide,by decide⟩,_,_,rfl,rfl,by show (0:Int) < 40; decide,?_⟩
  refine ⟨_,_,rfl,rfl,⟨by decide,by decide,by decide⟩,_,rfl,_,_,rfl,rfl,⟨by decide,by decide⟩,_,_,rfl,rfl,by show (0:Int) < 5; decide,_,_,rfl,rfl,_,rfl,_,_,rfl,rfl,⟨by decide,by decide⟩,_,_,rfl,rfl,.inr ⟨by decide,by decide⟩,_,_,rfl,rfl,⟨by decide,by decide,by decide⟩,_,_,rfl,rfl,by show (0:Int) < 10 ^ (12:Int).toNat; decide,smn 5,fun l hl=>?_⟩
  refine ⟨_,rfl,_,_,rfl,rfl,by show (0:Int) < 5; decide,?_⟩
  obtain ⟨v,hv,hm⟩:=atI_lt (xs:=[V.int (x / 5 % 7),V.int (x / 5 % 4),V.int (x / 5 % 40),V.int ((10:Int) ^ (12:Int).toNat - x / 5 % 5),V.int (x / 5 * 99990001 % (10:Int) ^ (12:Int).toNat)]) (Int.emod_nonneg x (by decide:(5:Int)≠0)) (Int.emod_lt_of_pos x (by decide:(0:Int) < 5))
  refine ⟨l,_,_,v,rfl,rfl,SqL.of upd_same,hv,?_⟩
  have o2:OldB b H _:=o1.trans (OldB.of (same_new hl (.lst [V.int (x / 5 % 7),V.int (x / 5 % 4),V.int (x / 5 % 40),V.int ((10:Int) ^ (12:Int).toNat - x / 5 % 5),V.int (x / 5 * 99990001 % (10:Int) ^ (12:Int).toNat)])))
  have p2:=p1.new (o:=.lst [V.int (x / 5 % 7),V.int (x / 5 % 4),V.int (x / 5 % 40),V.int ((10:Int) ^ (12:Int).toNat - x / 5 % 5),V.int (x / 5 * 99990001 % (10:Int) ^ (12:Int).toNat)]) hl
  simp only [List.mem_cons,List.not_mem_nil,or_false] at hm
  rw [e12] at hm
  rcases hm with rfl | rfl | rfl | rfl | rfl
  · exact k _ _ (by omega) p2 o2
  · exact k _ _ (by omega) p2 o2
  · exact k _ _ (by omega) p2 o2
  · exact k _ _ (by omega) p2 o2
  · exact k _ _ (by have:=Int.emod_lt_of_pos (x / 5 * 99990001) (by decide:(0:Int) < 1000000000000); omega) p2 o2
theorem scMoments:FnScope ["_law_box", "_law_least", "_law_found", "_law_k", "_law_moment_here"] ["_law_box", "_law_least"] (defScope sMoments):=⟨rfl,rfl,rfl,by decide +kernel,rfl,by decide +kernel,by decide +kernel⟩
theorem c_moments (h:Has K mg "_law_moments" sMoments ["_law_box", "_law_least"]) (C_next:Cal P w K mg base "_law_next" 1 ["_law_box"] spNext) (C_moment:Cal P w K mg base "_law_moment" 2 ["_law_box"] spMoment) (m_range:mg "range" = none) (m_tuple:mg "tuple" = none) (m_sorted:mg "sorted" = none):Cal P w K mg base "_law_moments" 3 ["_law_box", "_law_least"] spMoments:=by
  refine h.mk' scMoments (fun vs H Q E hs=>?_) (fun f cdv A outer s H vs Q E hr hs=>?_)
  · obtain ⟨b,ln,n,rfl,_⟩:=hs
    rfl
  refine hid fun G bk_ => ?_
  obtain ⟨b,ln,n,rfl,hp,hn,k⟩ := hs
  refine bk_ ?_
  refine ⟨_,(pss_cons (ps_set (i:=2) scMoments.nd rfl (Or.inl rfl) (pe_lst pa_nil))
    (pss_cons (ps_for PassesOwn.never rfl (pi_range1 rfl m_range (pa_cons (pe_op op_add (pv 1) (pe_op op_mod (pe_cal C_next hr (by decide) rfl (pa_cons (pv 0) pa_nil)) pe_int)) pa_nil)) (pg_name (i:=3) scMoments.nd rfl (Or.inl rfl))
      (pss_cons (ps_set (i:=4) scMoments.nd rfl (Or.inl rfl) (pe_cal C_moment hr (by decide) rfl (pa_cons (pv 0) pa_nil)))
    (pss_one (ps_if (pt_cmpR op_notIn_seq (pv 4) (pv 2) (by with_unfolding_all rfl))
      (pss_one (ps_expr (pe_bmZ PySem.F.plainAttrs_list PySem.F.slot_list_append PySem.F.type_list_append mt_append (pv 2) (pa_cons (pv 4) pa_nil))))
      pss_nil))))
    (pss_one (ps_ret (pe_callTy call_tuple_of0 rfl m_tuple boot_tuple (pa_cons (pe_callB (call_sortedD0 (call_sortedD hr.units)) rfl m_sorted boot_sorted (pa_cons (pv 2) pa_nil)) pa_nil)))))),?_⟩
  refine ⟨smn 0,fun lf hlf=>?_⟩
  obtain ⟨nfb,nfn⟩:=hp.ne hlf
  have p1:=hp.new (o:=.lst []) hlf
  refine ⟨_,rfl,?_⟩
  refine nextN (σ:=[some (.ref b),some (.int (n:Nat)),some (.ref lf),none,none]) (i:=0) rfl p1 fun r H2 p2 o2=>?_
  have o02:OldB b H H2:=(OldB.of (same_new hlf _)).trans o2
  have e2:H2 lf=some (.lst []):=o2 lf _ upd_same nfb
  refine ⟨_,_,rfl,rfl,by show (0:Int) < 4; decide,_,_,rfl,rfl,?_⟩
  obtain ⟨m,em,hm1,hm2⟩:∃ m:Nat,(n:Int)+r % 4=(m:Int)∧n≤m∧m≤4:=⟨((n:Int)+r % 4).toNat,by omega,by omega,by omega⟩
  refine ⟨_,rfl,by show -(2:Int) ^ 62≤(n:Int)+r % 4; omega,by show (n:Int)+r % 4 < (2:Int) ^ 62; omega,?_⟩
  rw [show ((n:Int)+r % 4).toNat=m by omega]
  refine for_range (lo:=0) (n:=m) (fun j σ H3=>∃ (v3 v4:Option V) (ms:List Int),σ=[some (.ref b),some (.int (n:Nat)),some (.ref lf),v3,v4]∧BoxAt b ln H3∧OldB b H H3∧H3 lf=some (.lst (ms.map V.int))∧ms.length≤j∧(1≤j→ms≠[])∧∀ m∈ms,m≤1000000000000) ⟨_,_,[],rfl,p2,o02,e2,Nat.le_refl _,(fun z=>absurd z (by decide)),fun m h=>by cases h⟩ ?_ ?_
  · intro j σ H3 hj q_ 
    refine hid fun G bk_ => ?_
    obtain ⟨v3,v4,ms,rfl,p3,o3,e3,hml,hme,hmb⟩ := q_
    refine bk_ ?_
    refine gN ⟨_,rfl,b,ln,rfl,p3,fun x H4 hx4 p4 o4=>?_⟩
    have e4:H4 lf=_:=o4 lf _ e3 nfb
    refine gN ⟨_,rfl,_,rfl,lf,_,rfl,.inl (SqL.of e4),rfl,flat_ints ms,_,rfl,?_⟩
    refine ite2 (fun z=>?_) (fun z=>?_)
    · refine ⟨_,rfl,.inl ⟨rfl,_,SqL.of e4⟩,_,rfl,lf,_,_,rfl,rfl,e4,by rw [List.length_map]; exact small1000 (by omega),_,_,ms++[x],rfl,p4.upd nfb nfn,(o3.trans o4).free hlf,?_,by rw [List.length_append,List.length_singleton]; omega,(fun _=>by simp),fun m hm=>?_⟩
      · rw [upd_same,List.map_append]
        rfl
      · rcases List.mem_append.mp hm with z | z
        · exact hmb m z
        · rw [List.mem_singleton.mp z]
          exact hx4
    · refine ⟨_,_,ms,rfl,p4,o3.trans o4,e4,by omega,fun _ hn=>z ?_,hmb⟩
      subst hn
      rfl
  · intro σ H3 q_ 
    refine hid fun G bk_ => ?_
    obtain ⟨v3,v4,ms,rfl,p3,o3,e3,hml,hme,hmb⟩ := q_
    refine bk_ ?_
    refine ⟨_,rfl,lf,_,_,rfl,.inl (SqL.of e3),denI_of _ ms,hom_ints _,by rw [List.length_map]; omega,fun d hd=>?_,fun l4 us4 ds4 hl4 pm4 up4 dn4=>?_⟩
    · obtain ⟨y,_,rfl⟩:=List.mem_map.mp hd
      exact show Shal 50 _ from shal_ups (n:=0) (shal_int y) 50
    obtain ⟨ms4,pms,rfl⟩:=perm_map_inv pm4 rfl
    have eu:=denI dn4
    subst eu
    have s4:=same_new hl4 (.lst (ms4.map V.int))
    refine ⟨l4,_,rfl,.inl ⟨SqL.of upd_same,fun q hq=>?_⟩⟩
    have s5:=s4.trans (same_new hq (.tup (ms4.map V.int)))
    refine k q ms4 _ upd_same (by rw [pms.length_eq]; omega) (fun h1 hz=>?_) (fun m hm=>hmb m (pms.mem_iff.mp hm)) (p3.same s5) (o3.trans (OldB.of s5))
    subst hz
    exact hme (by omega) (List.length_eq_zero_iff.mp pms.length_eq.symm)
theorem scMany:FnScope ["_law_box", "_law_x"] ["_law_box"] (defScope sMany):=⟨rfl,rfl,rfl,by decide +kernel,rfl,by decide +kernel,by decide +kernel⟩
theorem c_many (h:Has K mg "_law_many" sMany ["_law_box"]) (C_next:Cal P w K mg base "_law_next" 1 ["_law_box"] spNext) (m_int:mg "int" = none):Cal P w K mg base "_law_many" 2 ["_law_box"] spMany:=by
  refine h.mk' scMany (fun vs H Q E hs=>?_) (fun f cdv A outer s H vs Q E hr hs=>?_)
  · obtain ⟨b,ln,rfl,_⟩:=hs
    rfl
  obtain ⟨b,ln,rfl,hp,k⟩:=hs
  refine ⟨_,(pss_cons (ps_set (i:=1) scMany.nd rfl (Or.inl rfl) (pe_cal C_next hr (by decide) rfl (pa_cons (pv 0) pa_nil)))
    (pss_one (ps_ret (pe_ix ix_list0 (pe_lst (pa_cons (pe_op op_mod (pe_op op_fdivB (pv 1) pe_int) pe_int) (pa_cons (pe_op op_add pe_int (pe_op op_mod (pe_op op_fdivB (pv 1) pe_int) pe_int)) pa_nil))) (pe_callTy call_int1 rfl m_int boot_int (pa_cons (pe_cmpR op_eq (pe_op op_mod (pv 1) pe_int) pe_int (nomark _)) pa_nil)) (fun _ _=>rfl))))),?_⟩
  refine nextN (σ:=[some (.ref b),none]) (i:=0) rfl hp fun x H1 p1 o1=>?_
  refine ⟨_,rfl,_,_,rfl,rfl,⟨by decide,by decide⟩,_,_,rfl,rfl,by show (0:Int) < 5; decide,_,rfl,_,_,rfl,rfl,⟨by decide,by decide⟩,_,_,rfl,rfl,by show (0:Int) < 3; decide,_,_,rfl,rfl,smn 2,fun l hl=>?_⟩
  refine ⟨_,rfl,_,_,rfl,rfl,by show (0:Int) < 8; decide,rfl,.inr ⟨_,rfl,?_⟩⟩
  have o2:OldB b H _:=o1.trans (OldB.of (same_new hl (.lst [V.int (x / 8 % 5),V.int (7+x / 8 % 3)])))
  have p2:=p1.new (o:=.lst [V.int (x / 8 % 5),V.int (7+x / 8 % 3)]) hl
  by_cases hc:decide (V.int (x % 8)=V.int 5)=true
  · refine ⟨l,_,_,.int (7+x / 8 % 3),rfl,rfl,SqL.of upd_same,?_,k _ _ (by omega) (by omega) p2 o2⟩
    show atI _ (if decide (V.int (x % 8)=V.int 5)=true then (1:Int) else 0)=_
    rw [if_pos hc]
    exact atI_nat (xs:=[V.int (x / 8 % 5),V.int (7+x / 8 % 3)]) (j:=1) rfl
  · refine ⟨l,_,_,.int (x / 8 % 5),rfl,rfl,SqL.of upd_same,?_,k _ _ (by omega) (by omega) p2 o2⟩
    show atI _ (if decide (V.int (x % 8)=V.int 5)=true then (1:Int) else 0)=_
    rw [if_neg hc]
    exact atI_zero _ _
end
section
variable {P:Program} {w:World} {K:PySem.W.Frag} {mg:Str→Option Value} {base:Heap}
theorem qex {X:Cx} {st:List Stmt} {D:Ends} {σ:L2.St} {H:Hp} (h:∃ t,QSs X st t∧t D σ H):∃ t,PSs X st t∧t D σ H:=h.elim fun t h=>⟨t,h.1.h,h.2⟩
theorem scText:FnScope ["_law_box", "_law_words", "_law_marks", "_law_text_here", "_law_k", "_law_x"] ["_law_box"] (defScope sText):=⟨rfl,rfl,rfl,by decide +kernel,rfl,by decide +kernel,by decide +kernel⟩
theorem c_text (h:Has K mg "_law_text" sText ["_law_box"]) (C_next:Cal P w K mg base "_law_next" 1 ["_law_box"] spNext) (m_range:mg "range" = none):Cal P w K mg base "_law_text" 2 ["_law_box"] spText:=by
  refine h.mk' scText (fun vs H Q E hs=>?_) (fun f cdv A outer s H vs Q E hr hs=>?_)
  · obtain ⟨b,ln,rfl,_⟩:=hs
    rfl
  obtain ⟨b,ln,rfl,hp,k⟩:=hs
  refine qex ⟨_,(qss_cons (qs_set (i:=1) scText.nd rfl (Or.inl rfl) (qe_lst (qa_c ⟨pe_str⟩ (qa_c ⟨pe_str⟩ (qa_c ⟨pe_str⟩ (qa_c ⟨pe_str⟩ (qa_c ⟨pe_str⟩ (qa_c ⟨pe_str⟩ (qa_c ⟨pe_str⟩ (qa_c ⟨pe_str⟩ (qa_c ⟨pe_str⟩ qa_nil)))))))))))
    (qss_cons (qs_set (i:=2) scText.nd rfl (Or.inl rfl) (qe_lst (qa_c ⟨pe_str⟩ (qa_c ⟨pe_str⟩ (qa_c ⟨pe_str⟩ (qa_c ⟨pe_str⟩ (qa_c ⟨pe_str⟩ (qa_c ⟨pe_str⟩ (qa_c ⟨pe_str⟩ qa_nil)))))))))
    ⟨(pss_cons (ps_set (i:=3) scText.nd rfl (Or.inl rfl) pe_str)
    (pss_cons (ps_for PassesOwn.never rfl (pi_range1 rfl m_range (pa_cons (pe_ix ix_list0 (pe_lst (pa_cons pe_int (pa_cons pe_int (pa_cons pe_int (pa_cons pe_int (pa_cons pe_int (pa_cons pe_int (pa_cons pe_int (pa_cons pe_int pa_nil))))))))) (pe_op op_mod (pe_cal C_next hr (by decide) rfl (pa_cons (pv 0) pa_nil)) pe_int) (fun _ _=>rfl)) pa_nil)) (pg_name (i:=4) scText.nd rfl (Or.inl rfl))
      (pss_cons (ps_set (i:=5) scText.nd rfl (Or.inl rfl) (pe_cal C_next hr (by decide) rfl (pa_cons (pv 0) pa_nil)))
    (pss_one (ps_set (i:=3) scText.nd rfl (Or.inl rfl) (pe_op op_add_str (pe_op op_add_str (pv 3) (pe_ix ix_list0 (pv 1) (pe_op op_mod (pv 5) pe_int) (fun _ _=>rfl))) (pe_ix ix_list0 (pv 2) (pe_op op_mod (pe_op op_fdivB (pv 5) pe_int) pe_int) (fun _ _=>rfl)))))))
    (pss_one (ps_ret (pv 3)))))⟩)),?_⟩
  refine ⟨smn 9,fun lw hlw=>?_⟩
  have p1:=hp.new (o:=HO.lst [V.str "one",V.str "two",V.str "Two",V.str "a1",V.str "three",V.str "x",V.str "0",V.str "",V.str "nine9"]) hlw
  have ew:(upd H lw (.lst [V.str "one",V.str "two",V.str "Two",V.str "a1",V.str "three",V.str "x",V.str "0",V.str "",V.str "nine9"])) lw=some (.lst ((["one", "two", "Two", "a1", "three", "x", "0", "", "nine9"]:List Str).map V.str)):=upd_same
  have s1:Same H (upd H lw (.lst [V.str "one",V.str "two",V.str "Two",V.str "a1",V.str "three",V.str "x",V.str "0",V.str "",V.str "nine9"])):=same_new hlw _
  refine ⟨smn 7,fun lm hlm=>?_⟩
  have s2:Same (upd H lw (.lst [V.str "one",V.str "two",V.str "Two",V.str "a1",V.str "three",V.str "x",V.str "0",V.str "",V.str "nine9"])) (upd (upd H lw (.lst [V.str "one",V.str "two",V.str "Two",V.str "a1",V.str "three",V.str "x",V.str "0",V.str "",V.str "nine9"])) lm (.lst [V.str " ",V.str ", ",V.str ". ",V.str "\n",V.str "? ",V.str "-",V.str ""])):=same_new hlm _
  have p2:=p1.same s2
  have em:(upd (upd H lw (.lst [V.str "one",V.str "two",V.str "Two",V.str "a1",V.str "three",V.str "x",V.str "0",V.str "",V.str "nine9"])) lm (.lst [V.str " ",V.str ", ",V.str ". ",V.str "\n",V.str "? ",V.str "-",V.str ""])) lm=some (.lst (([" ", ", ", ". ", "\n", "? ", "-", ""]:List Str).map V.str)):=upd_same
  have ew2:=s2 _ _ ew
  have o2:OldB b H (upd (upd H lw (.lst [V.str "one",V.str "two",V.str "Two",V.str "a1",V.str "three",V.str "x",V.str "0",V.str "",V.str "nine9"])) lm (.lst [V.str " ",V.str ", ",V.str ". ",V.str "\n",V.str "? ",V.str "-",V.str ""])):=OldB.of (s1.trans s2)
  obtain ⟨nwb,_⟩:=hp.ne hlw
  obtain ⟨nmb,_⟩:=p1.ne hlm
  have gW:∀ x∈(["one", "two", "Two", "a1", "three", "x", "0", "", "nine9"]:List Str),x.length≤9:=by decide +kernel
  have gM:∀ x∈([" ", ", ", ". ", "\n", "? ", "-", ""]:List Str),x.length≤9:=by decide +kernel
  have lW:((["one", "two", "Two", "a1", "three", "x", "0", "", "nine9"]:List Str).map V.str).length=9:=rfl
  have lM:(([" ", ", ", ". ", "\n", "? ", "-", ""]:List Str).map V.str).length=7:=rfl
  generalize upd (upd H lw (.lst [V.str "one",V.str "two",V.str "Two",V.str "a1",V.str "three",V.str "x",V.str "0",V.str "",V.str "nine9"])) lm (.lst [V.str " ",V.str ", ",V.str ". ",V.str "\n",V.str "? ",V.str "-",V.str ""])=H2 at p2 em ew2 o2
  clear s1 s2 ew p1
  generalize (["one", "two", "Two", "a1", "three", "x", "0", "", "nine9"]:List Str)=WS at ew2 gW lW
  generalize ([" ", ", ", ". ", "\n", "? ", "-", ""]:List Str)=MS at em gM lM
  refine ⟨smn 8,fun l8 hl8=>?_⟩
  have s8:=same_new hl8 (.lst [V.int 0,V.int 1,V.int 2,V.int 3,V.int 4,V.int 1,V.int 2,V.int 9])
  obtain ⟨n8b,_⟩:=p2.ne hl8
  refine nextN (σ:=[some (.ref b),some (.ref lw),some (.ref lm),some (.str ""),none,none]) (i:=0) rfl (p2.same s8) fun r H3 p3 o3=>?_
  have e38:H3 l8=some (.lst [V.int 0,V.int 1,V.int 2,V.int 3,V.int 4,V.int 1,V.int 2,V.int 9]):=o3 l8 _ upd_same n8b
  obtain ⟨v,hv,hm⟩:=atI_lt (xs:=[V.int 0,V.int 1,V.int 2,V.int 3,V.int 4,V.int 1,V.int 2,V.int 9]) (Int.emod_nonneg r (by decide:(8:Int)≠0)) (Int.emod_lt_of_pos r (by decide:(0:Int) < 8))
  obtain ⟨n,rfl,hn⟩:∃ n:Nat,v=.int (n:Nat)∧n≤9:=by
    simp only [List.mem_cons,List.not_mem_nil,or_false] at hm
    rcases hm with rfl | rfl | rfl | rfl | rfl | rfl | rfl | rfl
    · exact ⟨0,rfl,by decide⟩
    · exact ⟨1,rfl,by decide⟩
    · exact ⟨2,rfl,by decide⟩
    · exact ⟨3,rfl,by decide⟩
    · exact ⟨4,rfl,by decide⟩
    · exact ⟨1,rfl,by decide⟩
    · exact ⟨2,rfl,by decide⟩
    · exact ⟨9,rfl,by decide⟩
  refine ⟨_,_,rfl,rfl,by show (0:Int) < 8; decide, ixL (p := l8) rfl rfl (SqL.of e38) (hv) (⟨_,rfl,by omega,by omega,?_⟩)⟩
  refine for_range (lo:=0) (n:=n) (fun j σ H4=>∃ (v4 v5:Option V) (t:Str),σ=[some (.ref b),some (.ref lw),some (.ref lm),some (.str t),v4,v5]∧BoxAt b ln H4∧OldB b H H4∧H4 lw=some (.lst (WS.map V.str))∧H4 lm=some (.lst (MS.map V.str))∧t.length≤20 * j) ⟨_,_, "",rfl,p3,(o2.trans (OldB.of s8)).trans o3,o3 lw _ (s8 _ _ ew2) nwb,o3 lm _ (s8 _ _ em) nmb,by decide +kernel⟩ ?_ ?_
  · intro j σ H4 hj q_ 
    refine hid fun G bk_ => ?_
    obtain ⟨v4,v5,t,rfl,p4,o4,e4w,e4m,htl⟩ := q_
    refine bk_ ?_
    refine gN ?_
    refine nextN (σ:=[some (.ref b),some (.ref lw),some (.ref lm),some (.str t),some (.int (0+(j:Int))),v5]) (i:=0) rfl p4 fun x H5 p5 o5=>?_
    have e5w:H5 lw=_:=o5 lw _ e4w nwb
    have e5m:H5 lm=_:=o5 lm _ e4m nmb
    obtain ⟨u,hu,hum⟩:=atI_lt (xs:=WS.map V.str) (Int.emod_nonneg x (by decide:(9:Int)≠0)) (by rw [lW]; exact Int.emod_lt_of_pos x (by decide))
    obtain ⟨u',hu',rfl⟩:=List.mem_map.mp hum
    obtain ⟨z,hz,hzm⟩:=atI_lt (xs:=MS.map V.str) (Int.emod_nonneg (x / 9) (by decide:(7:Int)≠0)) (by rw [lM]; exact Int.emod_lt_of_pos (x / 9) (by decide))
    obtain ⟨z',hz',rfl⟩:=List.mem_map.mp hzm
    have g1:=gW u' hu'
    have g2:=gM z' hz'
    have a1:(t++u').length=t.length+u'.length:=Array.size_append
    have a2:(t++u'++z').length=(t++u').length+z'.length:=Array.size_append
    refine gN ⟨_,rfl,_,rfl,_,rfl,_,_,rfl,rfl,by show (0:Int) < 9; decide, ixL (p := lw) rfl rfl (SqL.of e5w) (hu) (⟨_,_,rfl,rfl,small (by omega),_,rfl,_,rfl,_,_,rfl,rfl,⟨by decide,by decide⟩,_,_,rfl,rfl,by show (0:Int) < 7; decide, ixL (p := lm) rfl rfl (SqL.of e5m) (hz) (⟨_,_,rfl,rfl,small (by rw [a1]; omega),?_⟩)⟩)⟩
    exact ⟨_,_,t++u'++z',rfl,p5,o4.trans o5,e5w,e5m,by rw [a2,a1]; omega⟩
  · intro σ H4 q_ 
    refine hid fun G bk_ => ?_
    obtain ⟨v4,v5,t,rfl,p4,o4,e4w,e4m,htl⟩ := q_
    refine bk_ ?_
    have q:=k t.cps.toList H4 p4 o4
    have et:mkT t.cps.toList=V.str t:=by
      show V.str ⟨t.cps.toList.toArray⟩=_
      cases t
      simp
    rw [et] at q
    exact ⟨_,rfl,q⟩
end
noncomputable def OldB2 (b l:Addr) (H H':Hp):Prop:=∀ c o,H c=some o→c≠b→c≠l→H' c=some o
theorem OldB2.trans {b l:Addr} {H H1 H2:Hp} (x:OldB2 b l H H1) (y:OldB2 b l H1 H2):OldB2 b l H H2:=fun c o e h1 h2=>y c o (x c o e h1 h2) h1 h2
theorem OldB2.of {b l:Addr} {H H1:Hp} (s:Same H H1):OldB2 b l H H1:=fun c o e _ _=>s c o e
theorem OldB2.of1 {b l:Addr} {H H1:Hp} (s:OldB b H H1):OldB2 b l H H1:=fun c o e h _=>s c o e h
theorem OldB2.free {b l c:Addr} {H H1:Hp} {o:HO} (a:OldB2 b l H H1) (hc:H c=none):OldB2 b l H (L2.upd H1 c o):=fun d o' e h1 h2=>by
  rw [upd_ne (ne_of_none e hc)]
  exact a d o' e h1 h2
theorem oldB2_keep {b ln l:Addr} {H H':Hp} {ys:List V} (hp:BoxAt b ln H) (hl:H l=some (.lst ys)) (o:OldB2 b l H H'):∀ (c:Addr) (vs:List V),H c=some (.tup vs)→H' c=some (.tup vs):=fun c vs e=>by
  obtain ⟨i,ns,e1,e2,r⟩:=hp
  exact o c _ e (ne_of e e1 (by intro z; cases z)) (ne_of e hl (by intro z; cases z))
noncomputable def spParts:Sp:=fun vs H Q _=>∃ (b ln l:Addr) (xs:Nms) (n:Nat),vs=[.ref b,.ref l,.int (n:Nat)]∧BoxAt b ln H∧H l=some (.lst (xs.map mkT))∧l≠b∧l≠ln∧n≤9∧n≤xs.length∧xs.length≤1000 ∧
  ∀ (q:Addr) (ps:List Prt) (rest:Nms) (H':Hp),Den H' (.ref q) (.tup (ps.map partD))→ps.length=n→(∀ p∈ps,p.2.2.length≤4∧p.2.2≠[]∧∀ m∈p.2.2,m≤1000000000000)→xs.Perm (ps.map (·.1)++rest)→H' l=some (.lst (rest.map mkT))→BoxAt b ln H'→OldB2 b l H H'→Q (.ref q) H'
section
variable {P:Program} {w:World} {K:PySem.W.Frag} {mg:Str→Option Value} {base:Heap}
theorem scParts:FnScope ["_law_box", "_law_names", "_law_many_here"] ["_law_box", "_law_names", "_law_many_here"] (defScope sParts):=⟨rfl,rfl,rfl,by decide +kernel,rfl,by decide +kernel,by decide +kernel⟩
theorem c_parts (h:Has K mg "_law_parts" sParts ["_law_box", "_law_names", "_law_many_here"]) (C_moments:Cal P w K mg base "_law_moments" 3 ["_law_box", "_law_least"] spMoments) (C_text:Cal P w K mg base "_law_text" 2 ["_law_box"] spText) (m_tuple:mg "tuple" = none) (m_range:mg "range" = none):Cal P w K mg base "_law_parts" 4 ["_law_box", "_law_names", "_law_many_here"] spParts:=by
  refine h.mk' scParts (fun vs H Q E hs=>?_) (fun f cdv A outer s H vs Q E hr hs=>?_)
  · obtain ⟨b,ln,l,xs,n,rfl,_⟩:=hs
    rfl
  obtain ⟨b,ln,l,xs,n,rfl,hp,hl,nb,nn,hn9,hnx,hx1,k⟩:=hs
  refine ⟨_,(pss_one (ps_ret (pe_callTy call_tuple_of rfl m_tuple boot_tuple (pa_cons (pe_compL ["_law_box", "_law_names", "_law_many_here"] (defScope sParts) ["_law_box", "_law_names", "_law_k"] [some 0,some 1,none] rfl rfl rfl (pi_range1 rfl m_range (pa_cons (pv 2) pa_nil)) rfl (by decide +kernel) (by decide +kernel) (by decide +kernel) (by decide +kernel) (hg:=fun cl C s H ex pn E=>(pg_name (i:=2) (by decide +kernel:(["_law_box", "_law_names", "_law_k"]:List Str).Nodup) rfl (Or.inl rfl))) (ht:=fun cl C s H ex pn E=>pifs_nil) (he:=fun cl C s H ex pn E=>(pe_tup (pa_cons (pe_bm0K (K:=K) rfl PySem.F.plainAttrs_list PySem.F.slot_list_pop PySem.F.type_list_pop mt_pop (pv 1)) (pa_cons (pe_cal C_text hr (by decide) rfl (pa_cons (pv 0) pa_nil)) (pa_cons (pe_cal C_moments hr (by decide) rfl (pa_cons (pv 0) (pa_cons pe_int pa_nil))) pa_nil)))))) pa_nil)))),?_⟩
  refine ⟨_,rfl,_,rfl,by omega,by omega,fun lc hlc=>?_⟩
  obtain ⟨ncb,ncn⟩:=hp.ne hlc
  have ncl:lc≠l:=(ne_of_none hl hlc).symm
  have s0:=same_new hlc (.lst [])
  refine comp_by (J:=Itr 0 n) (l:=lc) n (fun i σ' H'=>∃ (v:Option V) (us:List V) (ps:List Prt) (rest:Nms),σ'=[some (.ref b),some (.ref l),v]∧H' lc=some (.lst us)∧DenL H' us (ps.map partD)∧ps.length=i∧(∀ p∈ps,p.2.2.length≤4∧p.2.2≠[]∧∀ m∈p.2.2,m≤1000000000000)∧xs.Perm (ps.map (·.1)++rest)∧H' l=some (.lst (rest.map mkT))∧BoxAt b ln H'∧OldB2 b l H H') ⟨none,[],[],xs,rfl,upd_same,trivial,rfl,(fun p hp=>by cases hp),List.Perm.refl _,s0 _ _ hl,hp.same s0,OldB2.of s0⟩ ?_ ?_
  · rintro σ' H2 ⟨v,us,ps,rest,rfl,e2,dn2,hpl,hpg,hpm,e2l,p2,o2⟩
    refine ⟨Nat.le_refl _,lc,us,rfl,.inl ⟨SqL.of e2,fun q hq=>?_⟩⟩
    have s3:=same_new hq (.tup us)
    exact k q ps rest _ ⟨q,us,rfl,upd_same,dn2.same s3⟩ hpl hpg hpm (s3 _ _ e2l) (p2.same s3) (o2.trans (OldB2.of s3))
  · rintro i σ' H2 hi ⟨v,us,ps,rest,rfl,e2,dn2,hpl,hpg,hpm,e2l,p2,o2⟩
    refine ⟨hi,?_⟩
    rintro y H'' ⟨rfl,rfl⟩
    have hrl:ps.length+rest.length=xs.length:=by
      have:=hpm.length_eq
      rw [List.length_append,List.length_map] at this
      omega
    have hne:rest≠[]:=fun z=>by
      subst z
      simp at hrl
      omega
    obtain ⟨r0,x,rfl⟩:∃ r0 x,rest=r0++[x]:=⟨rest.dropLast,rest.getLast hne,(List.dropLast_concat_getLast hne).symm⟩
    refine gN (yesT (iteT ?_))
    have hlast:((r0++[x]).map mkT)[((r0++[x]).map mkT).length - 1]?=some (mkT x):=by
      rw [List.map_append,List.length_append,List.length_map]
      simp
    have hdrop:((r0++[x]).map mkT).dropLast=r0.map mkT:=by
      rw [List.map_append]
      simp
    refine ⟨_,rfl,.inl ⟨rfl,_,SqL.of e2l⟩,l,_,_,rfl,rfl,e2l,hlast,?_⟩
    rw [hdrop]
    have p3:=p2.upd (o:=.lst (r0.map mkT)) nb nn
    have e3l:(upd H'' l (.lst (r0.map mkT))) l=some (.lst (r0.map mkT)):=upd_same
    have k3:=keepT_upd (zs:=r0.map mkT) e2l
    have e3:(upd H'' l (.lst (r0.map mkT))) lc=some (.lst us):=(upd_ne ncl).trans e2
    have o3:OldB2 b l H (upd H'' l (.lst (r0.map mkT))):=fun c o e h1 h2=>by
      rw [upd_ne h2]
      exact o2 c o e h1 h2
    generalize upd H'' l (.lst (r0.map mkT))=H3 at p3 e3l k3 e3 o3
    refine ⟨_,rfl,b,ln,rfl,p3,fun t H4 p4 o4=>?_⟩
    refine ⟨_,rfl,b,ln,1,rfl,p4,by decide,fun q5 ms H5 e5q hm5 hmn hmb p5 o5=>?_⟩
    refine ⟨smn 3,fun tp htp=>?_⟩
    have s6:=same_new htp (.tup [mkT x,mkT t,.ref q5])
    have kA:∀ (c:Addr) (vs:List V),H'' c=some (.tup vs)→H5 c=some (.tup vs):=fun c vs e=>oldB_keep p4 o5 _ _ (oldB_keep p3 o4 _ _ (k3 _ _ e))
    have e5c:H5 lc=some (.lst us):=o5 lc _ (o4 lc _ e3 ncb) ncb
    have e5l:H5 l=some (.lst (r0.map mkT)):=o5 l _ (o4 l _ e3l nb) nb
    have ec:=s6 _ _ e5c
    have kT:=keepT_upd (zs:=us++[.ref tp]) ec
    have ul:=dn2.len
    rw [List.length_map] at ul
    refine ⟨us,ec,small1000 (by omega),_,us++[.ref tp],ps++[(x,t,ms)],r0,rfl,upd_same,?_,by rw [List.length_append,hpl]; rfl,fun p hp'=>?_,?_,(upd_ne ncl.symm).trans (s6 _ _ e5l),(p5.same s6).upd ncb ncn,?_⟩
    · rw [List.map_append]
      exact DenL.snoc (Den.keepT kT (show Den _ (.ref tp) (partD (x,t,ms)) from ⟨tp,_,rfl,upd_same,rfl,rfl,⟨q5,_,rfl,s6 _ _ e5q,denI_of _ ms⟩,trivial⟩)) (((dn2.keepT kA).same s6).keepT kT)
    · rcases List.mem_append.mp hp' with z | z
      · exact hpg p z
      · rw [List.mem_singleton.mp z]
        exact ⟨hm5,hmn (Nat.le_refl _),hmb⟩
    · refine hpm.trans ?_
      rw [List.map_append,List.append_assoc]
      exact (List.perm_append_comm).append_left _
    · exact (((o3.trans (OldB2.of1 o4)).trans (OldB2.of1 o5)).trans (OldB2.of s6)).free hlc
end
noncomputable abbrev SN:=Int × List Nat
noncomputable def sel (g:Int) (A:List SN):Nms:=(A.filter fun q=>decide (q.1=g)).map (·.2)
noncomputable def low (g:Int) (A:List SN):Nms:=(A.filter fun q=>decide (q.1 < g)).map (·.2)
theorem sel_app (g:Int) (A B:List SN):sel g (A++B)=sel g A++sel g B:=by
  unfold sel
  rw [List.filter_append,List.map_append]
theorem low_zero {A:List SN} (h:∀ q∈A,0≤q.1):low 0 A=[]:=by
  unfold low
  rw [List.filter_eq_nil_iff.mpr fun q hq z=>by have:=h q hq; have:=of_decide_eq_true z; omega]
  rfl
theorem low_succ (j:Int):∀ A:List SN,(low (j+1) A).Perm (low j A++sel j A)
  | []=>.nil
  | q :: A=>by
    have ih:=low_succ j A
    unfold low sel at *
    rw [List.filter_cons,List.filter_cons,List.filter_cons]
    by_cases h1:q.1 < j
    · rw [if_pos (decide_eq_true (by omega:q.1 < j+1)),if_pos (decide_eq_true h1),if_neg (fun z=>by have:=of_decide_eq_true z; omega)]
      exact ih.cons _
    · by_cases h2:q.1=j
      · rw [if_pos (decide_eq_true (by omega:q.1 < j+1)),if_neg (fun z=>h1 (of_decide_eq_true z)),if_pos (decide_eq_true h2)]
        rw [List.map_cons,List.map_cons]
        exact (ih.cons _).trans List.perm_middle.symm
      · rw [if_neg (fun z=>by have:=of_decide_eq_true z; omega),if_neg (fun z=>h1 (of_decide_eq_true z)),if_neg (fun z=>h2 (of_decide_eq_true z))]
        exact ih
theorem low_all (g:Int):∀ A:List SN,∃ r:Nms,(A.map (·.2)).Perm (low g A++sel g A++r)
  | []=>⟨[],.nil⟩
  | q :: A=>by
    obtain ⟨r,ih⟩:=low_all g A
    unfold low sel at *
    rw [List.filter_cons,List.filter_cons,List.map_cons]
    by_cases h1:q.1 < g
    · rw [if_pos (decide_eq_true h1),if_neg (fun z=>by have:=of_decide_eq_true z; omega)]
      exact ⟨r,ih.cons _⟩
    · by_cases h2:q.1=g
      · rw [if_neg (fun z=>h1 (of_decide_eq_true z)),if_pos (decide_eq_true h2)]
        refine ⟨r,(ih.cons _).trans ?_⟩
        rw [List.map_cons,List.append_assoc,List.append_assoc]
        exact List.perm_middle.symm
      · rw [if_neg (fun z=>h1 (of_decide_eq_true z)),if_neg (fun z=>h2 (of_decide_eq_true z))]
        exact ⟨q.2 :: r,(ih.cons _).trans List.perm_middle.symm⟩
theorem side_len {n:Nat} {ks:List Lnk} {k:Lnk} (h:k∈ks):(sideOf n k).length≤(linkedN n ks).length:=by
  obtain ⟨a,b,rfl⟩:=List.append_of_mem h
  unfold linkedN
  rw [List.flatMap_append,List.flatMap_cons,List.length_append,List.length_append]
  omega
theorem vb_of {L R:List Prt} {ks ks':List Lnk} {A B:List SN} {ra rb al:Nms} {g:Int} (hnd:((L++R).map (·.1)).Nodup) (hL:L.length≤9) (hR:R.length≤9) (htx:∀ p∈L++R,p.1.length≤8) (hmo:∀ p∈L++R,p.2.2.length≤4∧p.2.2≠[]) (hmb:∀ p∈L++R,∀ m∈p.2.2,m≤1000000000000) (hA:A.map (·.2)=L.map (·.1)) (hB:B.map (·.2)=R.map (·.1)) (hlk:ks.length≤8)
    (hlo:∀ k∈ks,k.2.2.2.1.length≤4∧k.2.2.2.2.length≤4) (hlb:∀ k∈ks,∀ m∈k.2.2.2.1++k.2.2.2.2,m≤1000000000000) (hne:∀ k∈ks,k.1≠[]∧k.2.1≠[]) (h0:(low g A).Perm (linkedN 0 ks++ra)) (h1:(low g B).Perm (linkedN 1 ks++rb)) (hp:ks'.Perm ks) (hal:al.Perm (sel g (A++B))):VB L R ks' al:=by
  obtain ⟨r0,q0⟩:=low_all g A
  obtain ⟨r1,q1⟩:=low_all g B
  rw [hA] at q0
  rw [hB] at q1
  rw [sel_app] at hal
  have l0:=linked_perm 0 hp
  have l1:=linked_perm 1 hp
  have big:((L++R).map (·.1)).Perm (linkedN 0 ks'++linkedN 1 ks'++al++(ra++rb++r0++r1)):=by
    rw [List.map_append]
    refine List.perm_iff_count.mpr fun a=>?_
    have c0:=q0.count_eq a
    have c1:=q1.count_eq a
    have c2:=h0.count_eq a
    have c3:=h1.count_eq a
    have c4:=l0.count_eq a
    have c5:=l1.count_eq a
    have c6:=hal.count_eq a
    simp only [List.count_append] at *
    omega
  have inL:∀ x∈linkedN 0 ks',x∈L.map (·.1):=fun x hx=>q0.mem_iff.mpr (List.mem_append_left _ (List.mem_append_left _ (h0.mem_iff.mpr (List.mem_append_left _ (l0.mem_iff.mp hx)))))
  have inR:∀ x∈linkedN 1 ks',x∈R.map (·.1):=fun x hx=>q1.mem_iff.mpr (List.mem_append_left _ (List.mem_append_left _ (h1.mem_iff.mpr (List.mem_append_left _ (l1.mem_iff.mp hx)))))
  have e0:=q0.length_eq
  have e1:=q1.length_eq
  have e2:=h0.length_eq
  have e3:=h1.length_eq
  have e4:=l0.length_eq
  have e5:=l1.length_eq
  have eb:=big.length_eq
  simp only [List.length_append,List.length_map] at e0 e1 e2 e3 eb
  refine ⟨hnd,hL,hR,htx,hmo,by rw [hp.length_eq]; exact hlk,fun k hk=>hlo k (hp.mem_iff.mp hk),fun k hk=>hne k (hp.mem_iff.mp hk),fun k hk=>?_,inL,inR,(big.nodup_iff.mp hnd).sublist (List.sublist_append_left _ _),by omega,(fun x hx=>big.mem_iff.mpr (List.mem_append_left _ (List.mem_append_right _ hx))),hmb,fun k hk=>hlb k (hp.mem_iff.mp hk)⟩
  have a0:=side_len (n:=0) hk
  have a1:=side_len (n:=1) hk
  have b0:(sideOf 0 k).length=k.1.length:=rfl
  have b1:(sideOf 1 k).length=k.2.1.length:=rfl
  omega
theorem sel_sub (g:Int) (A:List SN):(sel g A).length≤A.length:=by
  unfold sel
  rw [List.length_map]
  exact List.length_filter_le _ _
theorem sel_snoc (g:Int) (A:List SN) (q:SN):sel g (A++[q])=sel g A++if q.1=g then [q.2] else []:=by
  rw [sel_app]
  unfold sel
  by_cases h:q.1=g
  · simp [h]
  · simp [h]
noncomputable def spBook:Sp:=fun vs H Q _=>∃ (b ln:Addr),vs=[.ref b]∧BoxAt b ln H∧∀ (u:V) (L R:List Prt) (ks:List Lnk) (al:Nms) (H':Hp),Den H' u (bookD L R ks al)→VB L R ks al→BoxAt b ln H'→OldB b H H'→Q u H'
section
variable {P:Program} {w:World} {K:PySem.W.Frag} {mg:Str→Option Value} {base:Heap}
theorem take_group {l lc:Addr} {H:Hp} {us:List V} {A:List SN} {g:Int} {R:Hp→Prop} (hl:H l=some (.lst us)) (dn:DenL H us (A.map prD)) (hA:A.length≤100) (hlc:H lc=none) (hfin:∀ (H':Hp),Same H H'→H' lc=some (.lst ((sel g A).map mkT))→R H') :
    ∃ W:Nat→Nat→L2.St→Hp→Prop,(∃ m,W 0 m [some (.int g),none,none] (upd H lc (.lst [])))∧∀ i m σ H,W i m σ H →
      ((Itl K l).stop i H∧R H)∨((Itl K l).go i H∧∃ N:L2.St→Hp→Prop,(∀ σ' H',N σ' H'→∃ m',m' < m∧W (i+1) m' σ' H') ∧
        ∀ x H',(Itl K l).yld i H x H'→gTup K 2 (gCons (gName 1) (gCons (gName 2) gNil)) x σ H' fun σ2 H2=>tTest (tOp rEq (tVar 1) (tVar 0)) σ2 H2 fun b H3=>if b=true then tVar 2 σ2 H3 fun v H4=>∃ ys,H4 lc=some (.lst ys)∧ys.length < sizeLine∧N σ2 (upd H4 lc (.lst (ys++[v]))) else N σ2 H3):=by
  have hul:=dn.len
  rw [List.length_map] at hul
  refine comp_by (J:=Itl K l) (l:=lc) us.length (fun i σ' H'=>∃ (v0 v1:Option V),σ'=[some (.int g),v0,v1]∧Same H H'∧H' lc=some (.lst ((sel g (A.take i)).map mkT))) ⟨none,none,rfl,same_new hlc _,upd_same⟩ ?_ ?_
  · rintro σ' H' ⟨v0,v1,rfl,s,e⟩
    rw [hul,List.take_length] at e
    exact ⟨⟨_,SqL.of (s _ _ hl),Nat.le_refl _⟩,hfin H' s e⟩
  · rintro i σ' H' hi ⟨v0,v1,rfl,s,e⟩
    have hni:i < A.length:=by omega
    have hat:us[i]?=some us[i]:=List.getElem?_eq_getElem hi
    refine ⟨⟨_,_,SqL.of (s _ _ hl),hat⟩,?_⟩
    rintro y H'' ⟨rfl,hy⟩
    have ey:y=us[i]:=Option.some.inj ((hy _ (SqL.of (s _ _ hl))).symm.trans hat)
    obtain ⟨dd,hdd,dy⟩:=dn.at_ hat
    rw [← ey] at dy
    rw [List.getElem?_map,List.getElem?_eq_getElem hni] at hdd
    have edd:prD A[i]=dd:=Option.some.inj hdd
    subst edd
    obtain ⟨b,rfl,hb⟩:=den_pr (dy.same s)
    have htk:A.take (i+1)=A.take i++[A[i]]:=by
      rw [List.take_add_one,List.getElem?_eq_getElem hni]
      rfl
    refine ⟨b,_,rfl,SqT.of hb,rfl,_,_,rfl,_,_,rfl,rfl,_,rfl,_,rfl,rfl,_,rfl,?_⟩
    refine ite2 (fun z=>?_) (fun z=>?_)
    · have z':A[i].1=g:=by
        have:=of_decide_eq_true z
        injection this
      refine ⟨_,rfl,_,e,?_,_,_,rfl,?_,?_⟩
      · rw [List.length_map]
        have:=sel_sub g (A.take i)
        rw [List.length_take] at this
        exact small1000 (by omega)
      · intro c o w
        rw [upd_ne (ne_of_none w hlc)]
        exact s c o w
      · rw [upd_same,htk,sel_snoc,if_pos z',List.map_append]
        rfl
    · refine ⟨_,_,rfl,s,?_⟩
      rw [htk,sel_snoc,if_neg (fun w=>z (decide_eq_true (by rw [w]))),List.append_nil]
      exact e
end
section
variable {P:Program} {w:World} {K:PySem.W.Frag} {mg:Str→Option Value} {base:Heap}
theorem shal_lnk {q:Lnk} (h1:q.1.length≤1000) (h2:q.2.1.length≤1000) (h3:q.2.2.2.1.length≤1000) (h4:q.2.2.2.2.length≤1000):Shal 3 (linkD q):=by
  refine shal_tup (by simp) fun d hd=>?_
  simp only [List.mem_cons,List.not_mem_nil,or_false] at hd
  rcases hd with rfl | rfl | rfl | rfl
  · exact (shal_names h1).up
  · exact (shal_names h2).up
  · exact (shal_int _).up.up
  · refine shal_tup (by simp) fun d hd=>?_
    simp only [List.mem_cons,List.not_mem_nil,or_false] at hd
    rcases hd with rfl | rfl
    · exact shal_mom h3
    · exact shal_mom h4
structure Bk (b ln ls s0 s1 qL qR:Addr) (L R:List Prt) (A B:List SN) (H0 H:Hp):Prop where
  box:BoxAt b ln H
  old:OldB b H0 H
  dL:Den H (.ref qL) (.tup (L.map partD))
  dR:Den H (.ref qR) (.tup (R.map partD))
  els:H ls=some (.lst [.ref s0,.ref s1])
  e0:∃ us,H s0=some (.lst us)∧DenL H us (A.map prD)
  e1:∃ us,H s1=some (.lst us)∧DenL H us (B.map prD)
theorem Bk.step {b ln ls s0 s1 qL qR:Addr} {L R:List Prt} {A B:List SN} {H0 H H':Hp} (x:Bk b ln ls s0 s1 qL qR L R A B H0 H) (p:BoxAt b ln H') (o:OldB b H H') (n1:ls≠b) (n2:s0≠b) (n3:s1≠b):Bk b ln ls s0 s1 qL qR L R A B H0 H':=by
  obtain ⟨a1,a2,a3,a4,a5,⟨us,a6,a7⟩,⟨vs,a8,a9⟩⟩:=x
  have kT:=oldB_keep a1 o
  exact ⟨p,a2.trans o,Den.keepT kT a3,Den.keepT kT a4,o _ _ a5 n1,⟨us,o _ _ a6 n2,a7.keepT kT⟩,⟨vs,o _ _ a8 n3,a9.keepT kT⟩⟩
theorem Bk.same {b ln ls s0 s1 qL qR:Addr} {L R:List Prt} {A B:List SN} {H0 H H':Hp} (x:Bk b ln ls s0 s1 qL qR L R A B H0 H) (s:Same H H'):Bk b ln ls s0 s1 qL qR L R A B H0 H':=by
  obtain ⟨a1,a2,a3,a4,a5,⟨us,a6,a7⟩,⟨vs,a8,a9⟩⟩:=x
  exact ⟨a1.same s,a2.trans (OldB.of s),a3.same s,a4.same s,s _ _ a5,⟨us,s _ _ a6,a7.same s⟩,⟨vs,s _ _ a8,a9.same s⟩⟩
theorem Bk.updL {b ln ls s0 s1 qL qR l:Addr} {L R:List Prt} {A B:List SN} {H0 H:Hp} {xs ys:List V} (x:Bk b ln ls s0 s1 qL qR L R A B H0 H) (hl:H l=some (.lst xs)) (h0:H0 l=none) (n0:l≠b) (n4:l≠ln) (n1:l≠ls) (n2:l≠s0) (n3:l≠s1):Bk b ln ls s0 s1 qL qR L R A B H0 (upd H l (.lst ys)):=by
  obtain ⟨a1,a2,a3,a4,a5,⟨us,a6,a7⟩,⟨vs,a8,a9⟩⟩:=x
  have kT:=keepT_upd (zs:=ys) hl
  exact ⟨a1.upd n0 n4,a2.free h0,Den.keepT kT a3,Den.keepT kT a4,(upd_ne n1.symm).trans a5,⟨us,(upd_ne n2.symm).trans a6,a7.keepT kT⟩,⟨vs,(upd_ne n3.symm).trans a8,a9.keepT kT⟩⟩
theorem scBook:FnScope ["_law_box", "_law_names", "_law_left", "_law_right_here", "_law_groups", "_law_sorts", "_law_side", "_law_parts_here", "_law_part", "_law_links", "_law_group", "_law_rows", "_law_told", "_law_lost", "_law_alone"] ["_law_box"] (defScope sBook):=⟨rfl,rfl,rfl,by decide +kernel,rfl,by decide +kernel,by decide +kernel⟩
theorem c_book (h:Has K mg "_law_book" sBook ["_law_box"]) (C_pool:Cal P w K mg base "_law_pool" 1 ["_law_x"] spPool) (C_next:Cal P w K mg base "_law_next" 1 ["_law_box"] spNext) (C_parts:Cal P w K mg base "_law_parts" 4 ["_law_box", "_law_names", "_law_many_here"] spParts) (C_many:Cal P w K mg base "_law_many" 2 ["_law_box"] spMany) (C_moment:Cal P w K mg base "_law_moment" 2 ["_law_box"] spMoment) (C_moments:Cal P w K mg base "_law_moments" 3 ["_law_box", "_law_least"] spMoments) (m_enumerate:mg "enumerate" = none) (m_range:mg "range" = none) (m_tuple:mg "tuple" = none) (m_sorted:mg "sorted" = none):Cal P w K mg base "_law_book" 5 ["_law_box"] spBook:=by
  refine h.mk' scBook (fun vs H Q E hs=>?_) (fun f cdv A outer s H vs Q E hr hs=>?_)
  · obtain ⟨b,ln,rfl,_⟩:=hs
    rfl
  obtain ⟨b,ln,rfl,hp,kk⟩:=hs
  refine ⟨_,(pss_cons (ps_set (i:=1) scBook.nd rfl (Or.inl rfl) (pe_cal C_pool hr (by decide) rfl (pa_cons (pe_cal C_next hr (by decide) rfl (pa_cons (pv 0) pa_nil)) pa_nil)))
    (pss_cons (ps_set (i:=2) scBook.nd rfl (Or.inl rfl) (pe_cal C_parts hr (by decide) rfl (pa_cons (pv 0) (pa_cons (pv 1) (pa_cons (pe_cal C_many hr (by decide) rfl (pa_cons (pv 0) pa_nil)) pa_nil)))))
    (pss_cons (ps_set (i:=3) scBook.nd rfl (Or.inl rfl) (pe_cal C_parts hr (by decide) rfl (pa_cons (pv 0) (pa_cons (pv 1) (pa_cons (pe_cal C_many hr (by decide) rfl (pa_cons (pv 0) pa_nil)) pa_nil)))))
    (pss_cons (ps_set (i:=4) scBook.nd rfl (Or.inr rfl) (pe_ix ix_list0 (pe_lst (pa_cons pe_int (pa_cons pe_int (pa_cons pe_int (pa_cons pe_int pa_nil))))) (pe_op op_mod (pe_cal C_next hr (by decide) rfl (pa_cons (pv 0) pa_nil)) pe_int) (fun _ _=>rfl)))
    (pss_cons (ps_set (i:=5) scBook.nd rfl (Or.inl rfl) (pe_lst (pa_cons (pe_lst pa_nil) (pa_cons (pe_lst pa_nil) pa_nil))))
    (pss_cons (ps_for PassesOwn.never rfl (pi_enum0 rfl m_enumerate (pa_cons (pe_lst (pa_cons (pv 2) (pa_cons (pv 3) pa_nil))) pa_nil)) (pg_tup0 (n := 2) rfl (pgs_cons (pg_name (i:=6) scBook.nd rfl (Or.inl rfl)) (pgs_cons (pg_name (i:=7) scBook.nd rfl (Or.inl rfl)) pgs_nil)))
      (pss_one (ps_for PassesOwn.never rfl (pi_tup0 (pv 7)) (pg_name (i:=8) scBook.nd rfl (Or.inl rfl))
      (pss_one (ps_expr (pe_bmZ PySem.F.plainAttrs_list PySem.F.slot_list_append PySem.F.type_list_append mt_append (pe_ix ix_list0 (pv 5) (pv 6) (fun _ _=>rfl)) (pa_cons (pe_tup (pa_cons (pe_op op_mod (pe_cal C_next hr (by decide) rfl (pa_cons (pv 0) pa_nil)) (pe_op op_add (pv 4) pe_int)) (pa_cons (pe_ix ix_tup0 (pv 8) pe_int (fun _ _=>rfl)) pa_nil))) pa_nil)))))))
    (pss_cons (ps_set (i:=9) scBook.nd rfl (Or.inl rfl) (pe_lst pa_nil))
    (pss_cons (ps_for PassesOwn.never rfl (pi_range1 rfl m_range (pa_cons (pv 4) pa_nil)) (pg_name (i:=10) scBook.nd rfl (Or.inr rfl))
      (pss_cons (ps_setC (ix:=11) scBook.nd rfl rfl ["_law_box", "_law_names", "_law_left", "_law_right_here", "_law_groups", "_law_sorts", "_law_side", "_law_parts_here", "_law_part", "_law_links", "_law_group", "_law_rows", "_law_told", "_law_lost", "_law_alone"] (defScope sBook) ["_law_group", "_law_row"] [some 10,none] rfl rfl rfl (pi_list0 (pv 5)) rfl (by decide +kernel) (by decide +kernel) (by decide +kernel) (by decide +kernel) (hg:=fun cl C s H ex pn E=>(pg_name (i:=1) (by decide +kernel:(["_law_group", "_law_row"]:List Str).Nodup) rfl (Or.inl rfl))) (ht:=fun cl C s H ex pn E=>pifs_nil) (he:=fun cl C s H ex pn E=>(pe_callTy (call_tuple_of0) rfl m_tuple boot_tuple (pa_cons (pe_callB (call_sortedD0 (call_sortedD hr.units)) rfl m_sorted boot_sorted (pa_cons (pe_compL ["_law_group", "_law_row"] _ ["_law_group", "_law_sort", "_law_name"] [some 0,none,none] rfl rfl rfl (pi_list0 (pv 1)) rfl (by decide +kernel) (by decide +kernel) (freeBlock (by decide +kernel)) (by decide +kernel) (g:=gTup K0 2 (gCons (gName 1) (gCons (gName 2) gNil))) (hg:=fun cl C s H ex pn E=>pg_tup0 (n := 2) rfl (pgs_cons (pg_name (i:=1) (by decide +kernel:(["_law_group", "_law_sort", "_law_name"]:List Str).Nodup) rfl (Or.inl rfl) (Or.inr rfl)) (pgs_cons (pg_name (i:=2) (by decide +kernel:(["_law_group", "_law_sort", "_law_name"]:List Str).Nodup) rfl (Or.inl rfl) (Or.inr rfl)) pgs_nil))) (ht:=fun cl C s H ex pn E=>(pifs_one (pt_cmpR op_eq (pv 1) (pv 0) (nomark _)))) (he:=fun cl C s H ex pn E=>(pv 2))) pa_nil)) pa_nil))))
    (pss_cons (ps_set (i:=12) scBook.nd rfl (Or.inl rfl) (pe_cal C_moment hr (by decide) rfl (pa_cons (pv 0) pa_nil)))
    (pss_cons (ps_set (i:=13) scBook.nd rfl (Or.inl rfl) (pe_tup (pa_cons (pe_cal C_moments hr (by decide) rfl (pa_cons (pv 0) (pa_cons pe_int pa_nil))) (pa_cons (pe_cal C_moments hr (by decide) rfl (pa_cons (pv 0) (pa_cons pe_int pa_nil))) pa_nil))))
    (pss_one (ps_if (PW.pt (pw_and (pt_cmpR (op_neT00 hr.units0) (pe_ix ix_list0 (pv 11) pe_int (fun _ _=>rfl)) (pe_tup pa_nil) (nomark _)) (pw_and1 (pt_cmpR (op_neT00 hr.units0) (pe_ix ix_list0 (pv 11) pe_int (fun _ _=>rfl)) (pe_tup pa_nil) (nomark _)))))
      (pss_one (ps_expr (pe_bmZ PySem.F.plainAttrs_list PySem.F.slot_list_append PySem.F.type_list_append mt_append (pv 9) (pa_cons (pe_tup (pa_cons (pe_ix ix_list0 (pv 11) pe_int (fun _ _=>rfl)) (pa_cons (pe_ix ix_list0 (pv 11) pe_int (fun _ _=>rfl)) (pa_cons (pv 12) (pa_cons (pv 13) pa_nil))))) pa_nil))))
      pss_nil))))))
    (pss_cons (ps_setC (ix:=14) scBook.nd rfl rfl ["_law_box", "_law_names", "_law_left", "_law_right_here", "_law_groups", "_law_sorts", "_law_side", "_law_parts_here", "_law_part", "_law_links", "_law_group", "_law_rows", "_law_told", "_law_lost", "_law_alone"] (defScope sBook) ["_law_groups", "_law_sort", "_law_name"] [some 4,none,none] rfl rfl rfl (pi_list0 (pe_op op_cat (pe_ix ix_list0 (pv 5) pe_int (fun _ _=>rfl)) (pe_ix ix_list0 (pv 5) pe_int (fun _ _=>rfl)))) rfl (by decide +kernel) (by decide +kernel) (by decide +kernel) (by decide +kernel) (g:=gTup K0 2 (gCons (gName 1) (gCons (gName 2) gNil))) (hg:=fun cl C s H ex pn E=>pg_tup0 (n := 2) rfl (pgs_cons (pg_name (i:=1) (by decide +kernel:(["_law_groups", "_law_sort", "_law_name"]:List Str).Nodup) rfl (Or.inl rfl) (Or.inr rfl)) (pgs_cons (pg_name (i:=2) (by decide +kernel:(["_law_groups", "_law_sort", "_law_name"]:List Str).Nodup) rfl (Or.inl rfl) (Or.inr rfl)) pgs_nil))) (ht:=fun cl C s H ex pn E=>(pifs_one (pt_cmpR op_eq (pv 1) (pv 0) (nomark _)))) (he:=fun cl C s H ex pn E=>(pv 2)))
    (pss_one (ps_ret (pe_tup (pa_cons (pv 2) (pa_cons (pv 3) (pa_cons (pe_callTy call_tuple_of0 rfl m_tuple boot_tuple (pa_cons (pe_callB (call_sortedD0 (call_sortedD hr.units)) rfl m_sorted boot_sorted (pa_cons (pv 9) pa_nil)) pa_nil)) (pa_cons (pe_callTy call_tuple_of0 rfl m_tuple boot_tuple (pa_cons (pe_callB (call_sortedD0 (call_sortedD hr.units)) rfl m_sorted boot_sorted (pa_cons (pv 14) pa_nil)) pa_nil)) pa_nil)))))))))))))))),?_⟩
  refine seqN fun N hb => ⟨_,rfl,b,ln,rfl,hp,fun r H1 p1 o1=>⟨r,rfl,fun l ns H2 hlN s2 e2 pk=>?_⟩⟩
  have o2:OldB b H H2:=o1.trans (OldB.of s2)
  have p2:=p1.same s2
  obtain ⟨nlb,nln⟩:=p1.ne hlN
  have hlH:H l=none:=o1.none p1 hlN
  refine gN <| hb _ _ <| seqN fun N hb => ⟨_,rfl,_,rfl,_,rfl,b,ln,rfl,p2,fun n3 H3 n30 n31 p3 o3=>?_⟩
  obtain ⟨nL,rfl⟩:=Int.eq_ofNat_of_zero_le n30
  have e3l:H3 l=_:=o3 l _ e2 nlb
  have pkl:=pk.len
  refine ⟨b,ln,l,ns,nL,rfl,p3,e3l,nlb,nln,by omega,by omega,by omega,fun qL L rs1 H4 dL hLl hLg hLp e4l p4 o4=>?_⟩
  have hl1:L.length+rs1.length=75:=by
    have:=hLp.length_eq
    rw [List.length_append,List.length_map] at this
    omega
  refine gN <| hb _ _ <| seqN fun N hb => ⟨_,rfl,_,rfl,_,rfl,b,ln,rfl,p4,fun n5 H5 n50 n51 p5 o5=>?_⟩
  obtain ⟨nR,rfl⟩:=Int.eq_ofNat_of_zero_le n50
  have e5l:H5 l=_:=o5 l _ e4l nlb
  refine ⟨b,ln,l,rs1,nR,rfl,p5,e5l,nlb,nln,by omega,by omega,by omega,fun qR R rs2 H6 dR hRl hRg hRp e6l p6 o6=>?_⟩
  have o6':OldB b H H6:=by
    have w:OldB2 b l H H6:=(((OldB2.of1 o2).trans (OldB2.of1 o3)).trans o4).trans ((OldB2.of1 o5).trans o6)
    exact fun c o e h1=>w c o e h1 (ne_of_none e hlH)
  have dL6:Den H6 (.ref qL) (.tup (L.map partD)):=Den.keepT (oldB2_keep p5 e5l o6) (Den.keepT (oldB_keep p4 o5) dL)
  have hnames:ns.Perm ((L++R).map (·.1)++rs2):=by
    refine hLp.trans ?_
    rw [List.map_append,List.append_assoc]
    exact hRp.append_left _
  have hnd:((L++R).map (·.1)).Nodup:=(hnames.nodup_iff.mp pk.nd).sublist (List.sublist_append_left _ _)
  have htx:∀ p∈L++R,p.1.length≤8:=fun p hp'=>pk.sh _ (hnames.mem_iff.mpr (List.mem_append_left _ (List.mem_map_of_mem hp')))
  have hmo3:∀ p∈L++R,p.2.2.length≤4∧p.2.2≠[]∧∀ m∈p.2.2,m≤1000000000000:=fun p hp'=>by
    rcases List.mem_append.mp hp' with z | z
    · exact hLg p z
    · exact hRg p z
  have hmo:∀ p∈L++R,p.2.2.length≤4∧p.2.2≠[]:=fun p hp'=>⟨(hmo3 p hp').1,(hmo3 p hp').2.1⟩
  have hmb:∀ p∈L++R,∀ m∈p.2.2,m≤1000000000000:=fun p hp'=>(hmo3 p hp').2.2
  clear o3 o4 o5 o6 o2 dL hLp hRp e3l e4l e5l
  refine gN <| hb _ _ <| seqN fun N hb => ⟨smn 4,fun lg hlg=>?_⟩
  obtain ⟨ngb,_⟩:=p6.ne hlg
  have s7:=same_new hlg (.lst [V.int 2,V.int 1,V.int 3,V.int 8])
  refine ⟨_,rfl,b,ln,rfl,p6.same s7,fun r8 H8 p8 o8=>?_⟩
  have e8g:H8 lg=some (.lst [V.int 2,V.int 1,V.int 3,V.int 8]):=o8 lg _ upd_same ngb
  obtain ⟨v,hv,hm⟩:=atI_lt (xs:=[V.int 2,V.int 1,V.int 3,V.int 8]) (Int.emod_nonneg r8 (by decide:(4:Int)≠0)) (Int.emod_lt_of_pos r8 (by decide:(0:Int) < 4))
  obtain ⟨g,rfl,hg0,hg8⟩:∃ g:Nat,v=.int (g:Nat)∧1≤g∧g≤8:=by
    simp only [List.mem_cons,List.not_mem_nil,or_false] at hm
    rcases hm with rfl | rfl | rfl | rfl
    · exact ⟨2,rfl,by decide,by decide⟩
    · exact ⟨1,rfl,by decide,by decide⟩
    · exact ⟨3,rfl,by decide,by decide⟩
    · exact ⟨8,rfl,by decide,by decide⟩
  refine ⟨_,_,rfl,rfl,by show (0:Int) < 4; decide, ixL (p := lg) rfl rfl (SqL.of e8g) (hv) (?_)⟩
  have o8':OldB b H H8:=(o6'.trans (OldB.of s7)).trans o8
  have dL8:=Den.keepT (oldB_keep (p6.same s7) o8) (dL6.same s7)
  have dR8:=Den.keepT (oldB_keep (p6.same s7) o8) (dR.same s7)
  clear e8g hv hm o8 s7 dL6 dR o6' p6 hlg ngb
  refine gN <| hb _ _ <| seqN fun N hb => ⟨smn 0,fun s0 h0=>⟨smn 0,fun s1 h1=>⟨smn 2,fun ls hls=>?_⟩⟩⟩
  have w0:=same_new h0 (.lst [])
  have w1:=same_new h1 (.lst [])
  have w2:=same_new hls (.lst [.ref s0,.ref s1])
  have w02:=(w0.trans w1).trans w2
  obtain ⟨n0b,n0n⟩:=p8.ne h0
  obtain ⟨n1b,n1n⟩:=(p8.same w0).ne h1
  obtain ⟨nsb,nsn⟩:=((p8.same w0).same w1).ne hls
  have n01:s1≠s0:=(ne_of_none upd_same h1).symm
  have ns0:ls≠s0:=(ne_of_none (w1 _ _ upd_same) hls).symm
  have ns1:ls≠s1:=(ne_of_none upd_same hls).symm
  have hs0H:H s0=none:=o8'.none p8 h0
  have hs1H:H s1=none:=(o8'.trans (OldB.of w0)).none (p8.same w0) h1
  have hlsH:H ls=none:=(o8'.trans (OldB.of (w0.trans w1))).none (p8.same (w0.trans w1)) hls
  have bk:Bk b ln ls s0 s1 qL qR L R [] [] H (upd (upd (upd H8 s0 (.lst [])) s1 (.lst [])) ls (.lst [.ref s0,.ref s1])) :=
    ⟨p8.same w02,o8'.trans (OldB.of w02),dL8.same w02,dR8.same w02,upd_same,⟨[],w2 _ _ (w1 _ _ upd_same),trivial⟩,⟨[],w2 _ _ upd_same,trivial⟩⟩
  generalize upd (upd (upd H8 s0 (.lst [])) s1 (.lst [])) ls (.lst [.ref s0,.ref s1])=H9 at bk
  clear w0 w1 w2 w02 h0 h1 hls dL8 dR8 o8' p8
  refine gN <| hb _ _ <| seqN fun N hb => ⟨_,rfl,_,rfl,smn 2,fun le hle=>?_⟩
  have w3:=same_new hle (.lst [.ref qL,.ref qR])
  have e10:(upd H9 le (.lst [.ref qL,.ref qR])) le=some (.lst [.ref qL,.ref qR]):=upd_same
  have bk10:=bk.same w3
  obtain ⟨neb,_⟩:=bk.box.ne hle
  have ne0:le≠s0:=(ne_of_none bk.e0.choose_spec.1 hle).symm
  have ne1:le≠s1:=(ne_of_none bk.e1.choose_spec.1 hle).symm
  generalize upd H9 le (.lst [.ref qL,.ref qR])=H10 at e10 bk10
  refine ⟨le,rfl,⟨_,SqL.of e10⟩,?_⟩
  refine for_enum (K := K0) (a:=le) (xs:=[.ref qL,.ref qR]) (fun i σ H11=>∃ (v6 v7 v8:Option V) (A B:List SN),σ=[some (.ref b),some (.ref l),some (.ref qL),some (.ref qR),some (.int (g:Nat)),some (.ref ls),v6,v7,v8,none,none,none,none,none,none]∧Bk b ln ls s0 s1 qL qR L R A B H H11∧H11 le=some (.lst [.ref qL,.ref qR])∧A.map (·.2)=(if 1≤i then L.map (·.1) else [])∧B.map (·.2)=(if 2≤i then R.map (·.1) else [])∧∀ q∈A++B,0≤q.1) ⟨_,_,_,[],[],rfl,bk10,e10,rfl,rfl,fun q hq=>by cases hq⟩ ?_ ?_ ?_
  · rintro i σ H11 _ ⟨_,_,_,_,_,_,_,e11,_⟩
    exact SqL.of e11
  · rintro i y t σ H11 hi ⟨v6,v7,v8,A,B,rfl,bk11,e11,hA,hB,hpos⟩ ht
    have wt:=same_new ht (.tup [.int (i:Nat),y])
    have et:(upd H11 t (.tup [.int (i:Nat),y])) t=some (.tup [.int (i:Nat),y]):=upd_same
    have bk12:=bk11.same wt
    have e12:=wt _ _ e11
    generalize upd H11 t (.tup [.int (i:Nat),y])=H12 at et bk12 e12
    have hi2:i < 2:=(List.getElem?_eq_some_iff.mp hi).1
    obtain ⟨sx,qx,Q0,X,us,hat,rfl,nxb,nxn,nxs,nxe,hxH,hdq,hsx,hdx,hX,hXp,hQl⟩:∃ (sx qx:Addr) (Q0:List Prt) (X:List SN) (us:List V),atI [V.ref s0,V.ref s1] (i:Nat)=some (.ref sx)∧y=.ref qx∧sx≠b∧sx≠ln∧sx≠ls∧sx≠le∧H sx=none∧Den H12 (.ref qx) (.tup (Q0.map partD))∧H12 sx=some (.lst us)∧DenL H12 us (X.map prD)∧X.map (·.2)=[]∧(∀ q∈X,0≤q.1)∧Q0.length≤9∧((i=0→sx=s0∧Q0=L)∧(i=1→sx=s1∧Q0=R)):=by
      match i,hi2,hi with
      | 0,_,hi =>
        obtain ⟨us,u1,u2⟩:=bk12.e0
        exact ⟨s0,qL,L,A,us,atI_zero _ _,(Option.some.inj hi).symm,n0b,n0n,ns0.symm,ne0.symm,hs0H,bk12.dL,u1,u2,hA,fun q hq=>hpos q (List.mem_append_left _ hq),by omega,fun _=>⟨rfl,rfl⟩,fun z=>absurd z (by decide)⟩
      | 1,_,hi =>
        obtain ⟨us,u1,u2⟩:=bk12.e1
        exact ⟨s1,qR,R,B,us,atI_nat (xs:=[V.ref s0,V.ref s1]) (j:=1) rfl,(Option.some.inj hi).symm,n1b,n1n,ns1.symm,ne1.symm,hs1H,bk12.dR,u1,u2,hB,fun q hq=>hpos q (List.mem_append_right _ hq),by omega,fun z=>absurd z (by decide),fun _=>⟨rfl,rfl⟩⟩
    obtain ⟨hQl,hcase⟩:=hQl
    have hX0:X=[]:=List.map_eq_nil_iff.mp hX
    subst hX0
    obtain ⟨qx',qv,eqx,hqx,hdv⟩:=den_tup hdq
    injection eqx with eqx
    subst eqx
    have hqv:=hdv.len
    rw [List.length_map] at hqv
    refine ⟨t,_,rfl,SqT.of et,rfl,_,_,rfl,_,_,rfl,rfl,?_⟩
    refine ⟨_,rfl,qx,rfl,⟨_,SqT.of hqx⟩,?_⟩
    refine for_tup (K := K0) (a:=qx) (xs:=qv) (fun j σ H13=>∃ (v8:Option V) (us:List V) (X:List SN),σ=[some (.ref b),some (.ref l),some (.ref qL),some (.ref qR),some (.int (g:Nat)),some (.ref ls),some (.int (i:Nat)),some (.ref qx),v8,none,none,none,none,none,none]∧BoxAt b ln H13∧OldB2 b sx H12 H13∧H13 sx=some (.lst us)∧DenL H13 us (X.map prD)∧X.map (·.2)=(Q0.take j).map (·.1)∧∀ q∈X,0≤q.1) ⟨_,us,[],rfl,bk12.box,fun _ _ e _ _=>e,hsx,hdx,rfl,fun q hq=>by cases hq⟩ ?_ ?_ ?_
    · rintro j σ H13 _ ⟨_,_,_,_,_,o13,_⟩
      exact SqT.of (oldB2_keep bk12.box hsx o13 _ _ hqx)
    · rintro j y σ H13 hj ⟨v8,us,X,rfl,p13,o13,e13,d13,hXn,hXp⟩
      have hnj:j < Q0.length:=by
        have:=(List.getElem?_eq_some_iff.mp hj).1
        omega
      have k13:=oldB2_keep bk12.box hsx o13
      obtain ⟨dd,hdd,dy⟩:=hdv.at_ hj
      rw [List.getElem?_map,List.getElem?_eq_getElem hnj] at hdd
      have edd:partD Q0[j]=dd:=Option.some.inj hdd
      subst edd
      obtain ⟨bq,pm,rfl,hbq,hpm⟩:=den_part (Den.keepT k13 dy)
      have e13s:H13 ls=some (.lst [.ref s0,.ref s1]):=o13 _ _ bk12.els nsb nxs.symm
      refine gN ⟨_,rfl,_,rfl, ixL (p := ls) rfl rfl (SqL.of e13s) (hat) (⟨.inl ⟨rfl,_,SqL.of e13⟩,_,rfl,b,ln,rfl,p13,fun r14 H14 p14 o14=>?_⟩)⟩
      have hgp:(0:Int) < (g:Int)+2:=by omega
      have hbq14:=oldB_keep p13 o14 _ _ hbq
      refine ⟨_,rfl,_,_,rfl,rfl,_,_,rfl,rfl,hgp,_,rfl, ixT (p := bq) rfl rfl (SqT.of hbq14) (atI_zero _ _) (⟨smn 2,fun tt htt=>?_⟩)⟩
      have w:=same_new htt (.tup [.int (r14 % ((g:Int)+2)),mkT Q0[j].1])
      have e14:H14 sx=_:=o14 sx _ e13 nxb
      have ec:=w _ _ e14
      have kT:=keepT_upd (zs:=us++[.ref tt]) ec
      have hul:=d13.len
      have hxl:X.length=min j Q0.length:=by
        have:=congrArg List.length hXn
        rwa [List.length_map,List.length_map,List.length_take] at this
      rw [List.length_map] at hul
      refine ⟨sx,us,_,rfl,rfl,ec,small1000 (by omega),_,us++[.ref tt],X++[(r14 % ((g:Int)+2),Q0[j].1)],rfl,(p14.same w).upd nxb nxn,?_,upd_same,?_,?_,fun q hq=>?_⟩
      · intro c o z h1 h2
        rw [upd_ne h2]
        exact w _ _ (o14 c o (o13 c o z h1 h2) h1)
      · rw [List.map_append]
        exact DenL.snoc (Den.keepT kT (show Den _ (.ref tt) (prD (r14 % ((g:Int)+2),Q0[j].1)) from ⟨tt,_,rfl,upd_same,rfl,rfl,trivial⟩)) (((d13.keepT (oldB_keep p13 o14)).same w).keepT kT)
      · rw [List.map_append,hXn,List.take_add_one,List.getElem?_eq_getElem hnj,Option.toList_some,List.map_append]
        rfl
      · rcases List.mem_append.mp hq with z | z
        · exact hXp q z
        · rw [List.mem_singleton.mp z]
          exact Int.emod_nonneg _ (by omega)
    · rintro σ H13 ⟨v8,us,X,rfl,p13,o13,e13,d13,hXn,hXp⟩
      rw [hqv,List.take_length] at hXn
      have k13:=oldB2_keep bk12.box hsx o13
      have old13:OldB b H H13:=fun c o z h1=>o13 c o (bk12.old c o z h1) h1 (ne_of_none z hxH)
      have e13s:=o13 _ _ bk12.els nsb nxs.symm
      have e13e:=o13 _ _ e12 neb nxe.symm
      match i,hi2,hcase,hA,hB with
      | 0,_,hcase,hA,hB =>
        obtain ⟨rfl,rfl⟩:=hcase.1 rfl
        obtain ⟨vs,u1,u2⟩:=bk12.e1
        have hB0:B=[]:=List.map_eq_nil_iff.mp hB
        subst hB0
        exact ⟨_,_,_,X,[],rfl,⟨p13,old13,Den.keepT k13 bk12.dL,Den.keepT k13 bk12.dR,e13s,⟨us,e13,d13⟩,⟨vs,o13 _ _ u1 n1b n01,u2.keepT k13⟩⟩,e13e,hXn,rfl,fun q hq=>hXp q (by simpa using hq)⟩
      | 1,_,hcase,hA,hB =>
        obtain ⟨rfl,rfl⟩:=hcase.2 rfl
        obtain ⟨vs,u1,u2⟩:=bk12.e0
        refine ⟨_,_,_,A,X,rfl,⟨p13,old13,Den.keepT k13 bk12.dL,Den.keepT k13 bk12.dR,e13s,⟨vs,o13 _ _ u1 n0b n01.symm,u2.keepT k13⟩,⟨us,e13,d13⟩⟩,e13e,hA,hXn,fun q hq=>?_⟩
        rcases List.mem_append.mp hq with z | z
        · exact hpos q (List.mem_append_left _ z)
        · exact hXp q z
  · rintro σ H11 ⟨v6,v7,v8,A,B,rfl,bk11,e11,hA,hB,hpos⟩
    have hA':A.map (·.2)=L.map (·.1):=hA
    have hB':B.map (·.2)=R.map (·.1):=hB
    have lA:A.length=L.length:=by
      have:=congrArg List.length hA'
      rwa [List.length_map,List.length_map] at this
    have lB:B.length=R.length:=by
      have:=congrArg List.length hB'
      rwa [List.length_map,List.length_map] at this
    clear e11 hA hB
    refine hb _ _ <| seqN fun N hb => ⟨smn 0,fun lk hlk=>?_⟩
    have wk:=same_new hlk (.lst [])
    obtain ⟨nkb,nkn⟩:=bk11.box.ne hlk
    have nks:lk≠ls:=(ne_of_none bk11.els hlk).symm
    have nk0:lk≠s0:=(ne_of_none bk11.e0.choose_spec.1 hlk).symm
    have nk1:lk≠s1:=(ne_of_none bk11.e1.choose_spec.1 hlk).symm
    have hlkH:H lk=none:=bk11.old.none bk11.box hlk
    have bk12:=bk11.same wk
    have e12:(upd H11 lk (.lst [])) lk=some (.lst []):=upd_same
    generalize upd H11 lk (.lst [])=H12 at bk12 e12
    clear wk hlk
    refine gN <| hb _ _ <| seqN fun N hb => ⟨_,rfl,_,rfl,by omega,by omega,?_⟩
    refine for_range (lo:=0) (n:=g) (fun j σ H13=>∃ (v10 v11 v12 v13:Option V) (vs:List V) (ks:List Lnk) (ra rb:Nms),σ=[some (.ref b),some (.ref l),some (.ref qL),some (.ref qR),some (.int (g:Nat)),some (.ref ls),v6,v7,v8,some (.ref lk),v10,v11,v12,v13,none]∧Bk b ln ls s0 s1 qL qR L R A B H H13∧H13 lk=some (.lst vs)∧DenL H13 vs (ks.map linkD)∧ks.length≤j∧(∀ k∈ks,k.2.2.2.1.length≤4∧k.2.2.2.2.length≤4)∧(∀ k∈ks,∀ m∈k.2.2.2.1++k.2.2.2.2,m≤1000000000000)∧(∀ k∈ks,k.1≠[]∧k.2.1≠[])∧(low (j:Int) A).Perm (linkedN 0 ks++ra)∧(low (j:Int) B).Perm (linkedN 1 ks++rb)) ⟨_,_,_,_,[],[],[],[],rfl,bk12,e12,trivial,Nat.le_refl _,(fun k hk=>by cases hk),(fun k hk=>by cases hk),(fun k hk=>by cases hk),by rw [show low ((0:Nat):Int) A=[] from low_zero fun q hq=>hpos q (List.mem_append_left _ hq)]; exact .nil,by rw [show low ((0:Nat):Int) B=[] from low_zero fun q hq=>hpos q (List.mem_append_right _ hq)]; exact .nil⟩ ?_ ?_
    · rintro j σ H13 hj ⟨v10,v11,v12,v13,vs,ks,ra,rb,rfl,bk13,e13,dn13,hkl,hlo,hlb,hne,pA,pB⟩
      obtain ⟨us0,u0,du0⟩:=bk13.e0
      obtain ⟨us1,u1,du1⟩:=bk13.e1
      refine gN <| seqN fun N hb => ⟨_,rfl,ls,rfl,⟨_,SqL.of bk13.els⟩,fun la hla=>?_⟩
      refine comp_by (J:=Itl K0 ls) (l:=la) 2 (fun i σ' H'=>∃ (v:Option V) (ts:List V) (Ns:List Nms),σ'=[some (.int (0+(j:Int))),v]∧Same H13 H'∧H' la=some (.lst ts)∧DenL H' ts (Ns.map namesD)∧Ns.length=i∧∀ (m:Nat) (N:Nms) (X:List SN),Ns[m]?=some N→[A,B][m]?=some X→N.Perm (sel (j:Int) X)) ⟨none,[],[],rfl,same_new hla _,upd_same,trivial,rfl,fun m N X h=>by simp at h⟩ ?_ ?_
      · rintro σ' H14 ⟨v,ts,Ns,rfl,s14,e14,dn14,hNl,hNp⟩
        obtain ⟨N0,N1,rfl⟩:∃ N0 N1,Ns=[N0,N1]:=by
          match Ns,hNl with
          | [N0,N1],_=>exact ⟨N0,N1,rfl⟩
        have pN0:=hNp 0 N0 A rfl rfl
        have pN1:=hNp 1 N1 B rfl rfl
        obtain ⟨t0,t1,rfl⟩:∃ t0 t1,ts=[t0,t1]:=by
          match ts,dn14 with
          | [t0,t1],_=>exact ⟨t0,t1,rfl⟩
          | [],h=>exact h.elim
          | [_],h=>exact h.2.elim
          | _ :: _ :: _ :: _,h=>exact h.2.2.elim
        obtain ⟨q0,x0,rfl,hq0,hx0⟩:=den_tup dn14.1
        obtain ⟨q1,x1,rfl,hq1,hx1⟩:=den_tup dn14.2.1
        rw [denS hx0] at hq0
        rw [denS hx1] at hq1
        refine ⟨⟨_,SqL.of (s14 _ _ bk13.els),Nat.le_refl _⟩,?_⟩
        have bk14:=bk13.same s14
        have e14k:=s14 _ _ e13
        have dn14k:=dn13.same s14
        obtain ⟨nab,nan⟩:=bk13.box.ne hla
        have nak:la≠lk:=(ne_of_none e13 hla).symm
        refine gN <| hb _ _ <| seqN fun N hb => ⟨_,rfl,b,ln,rfl,bk14.box,fun told H15 _ p15 o15=>?_⟩
        refine gN <| hb _ _ <| seqN fun N hb => ⟨_,rfl,b,ln,0,rfl,p15,by decide,fun q16 ms16 H16 e16q h16 _ hb16 p16 o16=>?_⟩
        refine ⟨_,rfl,b,ln,0,rfl,p16,by decide,fun q17 ms17 H17 e17q h17 _ hb17 p17 o17=>?_⟩
        refine ⟨smn 2,fun tl htl=>?_⟩
        have w17:=same_new htl (.tup [.ref q16,.ref q17])
        have oA:OldB b H14 (upd H17 tl (.tup [.ref q16,.ref q17])):=((o15.trans o16).trans o17).trans (OldB.of w17)
        have bk18:=bk14.step (p17.same w17) oA nsb n0b n1b
        have kA:=oldB_keep bk14.box oA
        have e18k:=oA lk _ e14k nkb
        have e18a:=oA la _ e14 nab
        have dn18:=dn14k.keepT kA
        have hq0':=kA _ _ hq0
        have hq1':=kA _ _ hq1
        have e18l:(upd H17 tl (.tup [.ref q16,.ref q17])) tl=some (.tup [.ref q16,.ref q17]):=upd_same
        have e18q:(upd H17 tl (.tup [.ref q16,.ref q17])) q16=some (.tup (ms16.map V.int)):=w17 _ _ (oldB_keep p16 o17 _ _ e16q)
        have e18r:(upd H17 tl (.tup [.ref q16,.ref q17])) q17=some (.tup (ms17.map V.int)):=w17 _ _ e17q
        generalize upd H17 tl (.tup [.ref q16,.ref q17])=H18 at bk18 e18k e18a dn18 hq0' hq1' e18l e18q e18r
        clear w17 oA kA
        have oth:∀ {H19:Hp},Same H18 H19→∃ (v10 v11 v12 v13:Option V) (vs:List V) (ks:List Lnk) (ra rb:Nms),[some (V.ref b),some (.ref l),some (.ref qL),some (.ref qR),some (.int (g:Nat)),some (.ref ls),v6,v7,v8,some (.ref lk),some (.int (0+(j:Int))),some (.ref la),some (.int told),some (.ref tl),none]=[some (.ref b),some (.ref l),some (.ref qL),some (.ref qR),some (.int (g:Nat)),some (.ref ls),v6,v7,v8,some (.ref lk),v10,v11,v12,v13,none]∧Bk b ln ls s0 s1 qL qR L R A B H H19∧H19 lk=some (.lst vs)∧DenL H19 vs (ks.map linkD)∧ks.length≤j+1∧(∀ k∈ks,k.2.2.2.1.length≤4∧k.2.2.2.2.length≤4)∧(∀ k∈ks,∀ m∈k.2.2.2.1++k.2.2.2.2,m≤1000000000000)∧(∀ k∈ks,k.1≠[]∧k.2.1≠[])∧(low ((j+1:Nat):Int) A).Perm (linkedN 0 ks++ra)∧(low ((j+1:Nat):Int) B).Perm (linkedN 1 ks++rb):=fun {H19} s =>
          ⟨_,_,_,_,vs,ks,ra++sel (j:Int) A,rb++sel (j:Int) B,rfl,bk18.same s,s _ _ e18k,dn18.same s,by omega,hlo,hlb,hne,by rw [← List.append_assoc]; exact (low_succ (j:Int) A).trans (pA.append_right _),by rw [← List.append_assoc]; exact (low_succ (j:Int) B).trans (pB.append_right _)⟩
        refine gN <| hb _ _ ⟨_,rfl, ixL (p := la) rfl rfl (SqL.of e18a) (atI_zero _ _) (⟨smn 0,fun z0 hz0=>?_⟩)⟩
        have y0:=same_new hz0 (.tup [])
        refine ⟨q0,z0,_,rfl,rfl,SqT.of (y0 _ _ hq0'),SqT.of upd_same,_,rfl,?_⟩
        by_cases hn0:N0=[]
        · subst hn0
          exact iteF (oth y0)
        refine ite_go (by cases N0 with | nil=>exact absurd rfl hn0 | cons=>rfl) ?_
        refine ⟨_,rfl, ixL (p := la) rfl rfl (SqL.of (y0 _ _ e18a)) (atI_nat (xs:=[V.ref q0,V.ref q1]) (j:=1) rfl) (⟨smn 0,fun z1 hz1=>?_⟩)⟩
        have y1:=y0.trans (same_new hz1 (.tup []))
        refine ⟨q1,z1,_,rfl,rfl,SqT.of (y1 _ _ hq1'),SqT.of upd_same,_,rfl,?_⟩
        by_cases hn1:N1=[]
        · subst hn1
          exact iteF (oth y1)
        refine ite_go (by cases N1 with | nil=>exact absurd rfl hn1 | cons=>rfl) ?_
        have bk19:=bk18.same y1
        have e19k:=y1 _ _ e18k
        have e19a:=y1 _ _ e18a
        have dn19:=dn18.same y1
        have hq0'':=y1 _ _ hq0'
        have hq1'':=y1 _ _ hq1'
        have e19l:=y1 _ _ e18l
        have e19q:=y1 _ _ e18q
        have e19r:=y1 _ _ e18r
        generalize upd (upd H18 z0 (.tup [])) z1 (.tup [])=H19 at bk19 e19k e19a dn19 hq0'' hq1'' e19l e19q e19r
        refine ⟨_,rfl,.inl ⟨rfl,_,SqL.of e19k⟩,_,rfl, ixL (p := la) rfl rfl (SqL.of e19a) (atI_zero _ _) (⟨_,rfl, ixL (p := la) rfl rfl (SqL.of e19a) (atI_nat (xs:=[V.ref q0,V.ref q1]) (j:=1) rfl) (⟨_,rfl,_,rfl,smn 4,fun tq htq=>?_⟩)⟩)⟩
        have wq:=same_new htq (.tup [.ref q0,.ref q1,.int told,.ref tl])
        have ec:=wq _ _ e19k
        have kT:=keepT_upd (zs:=vs++[.ref tq]) ec
        have hvl:=dn13.len
        rw [List.length_map] at hvl
        refine ⟨lk,vs,_,rfl,rfl,ec,small1000 (by omega),_,_,_,_,vs++[.ref tq],ks++[(N0,N1,told,ms16,ms17)],ra,rb,rfl,(bk19.same wq).updL ec hlkH nkb nkn nks nk0 nk1,upd_same,?_,by rw [List.length_append,List.length_singleton]; omega,fun k hk=>?_,fun k hk=>?_,fun k hk=>?_,?_,?_⟩
        · rw [List.map_append]
          refine DenL.snoc (Den.keepT kT (show Den _ (.ref tq) (linkD (N0,N1,told,ms16,ms17)) from ⟨tq,_,rfl,upd_same,⟨q0,_,rfl,wq _ _ hq0'',denS_of _ _⟩,⟨q1,_,rfl,wq _ _ hq1'',denS_of _ _⟩,rfl,⟨tl,_,rfl,wq _ _ e19l,⟨q16,_,rfl,wq _ _ e19q,denI_of _ _⟩,⟨q17,_,rfl,wq _ _ e19r,denI_of _ _⟩,trivial⟩,trivial⟩)) ((dn19.same wq).keepT kT)
        · rcases List.mem_append.mp hk with z | z
          · exact hlo k z
          · rw [List.mem_singleton.mp z]
            exact ⟨h16,h17⟩
        · rcases List.mem_append.mp hk with z | z
          · exact hlb k z
          · rw [List.mem_singleton.mp z]
            intro m hm
            rcases List.mem_append.mp hm with y | y
            · exact hb16 m y
            · exact hb17 m y
        · rcases List.mem_append.mp hk with z | z
          · exact hne k z
          · rw [List.mem_singleton.mp z]
            exact ⟨hn0,hn1⟩
        · rw [linked_snoc]
          refine (low_succ (j:Int) A).trans (List.perm_iff_count.mpr fun a=>?_)
          have c1:=pA.count_eq a
          have c2:=pN0.count_eq a
          have c3:(sideOf 0 ((N0,N1,told,ms16,ms17):Lnk)).count a=N0.count a:=rfl
          simp only [List.count_append] at *
          omega
        · rw [linked_snoc]
          refine (low_succ (j:Int) B).trans (List.perm_iff_count.mpr fun a=>?_)
          have c1:=pB.count_eq a
          have c2:=pN1.count_eq a
          have c3:(sideOf 1 ((N0,N1,told,ms16,ms17):Lnk)).count a=N1.count a:=rfl
          simp only [List.count_append] at *
          omega
      · rintro i σ' H14 hi ⟨v,ts,Ns,rfl,s14,e14,dn14,hNl,hNp⟩
        obtain ⟨sx,X,us,hyi,hX,hsx,hdx,hXl⟩:∃ (sx:Addr) (X:List SN) (us:List V),([V.ref s0,V.ref s1]:List V)[i]?=some (.ref sx)∧[A,B][i]?=some X∧H13 sx=some (.lst us)∧DenL H13 us (X.map prD)∧X.length≤9:=by
          match i,hi with
          | 0,_=>exact ⟨s0,A,us0,rfl,rfl,u0,du0,by omega⟩
          | 1,_=>exact ⟨s1,B,us1,rfl,rfl,u1,du1,by omega⟩
        refine ⟨⟨_,_,SqL.of (s14 _ _ bk13.els),hyi⟩,?_⟩
        rintro y H15 ⟨rfl,hy⟩
        have ey:y=.ref sx:=Option.some.inj ((hy _ (SqL.of (s14 _ _ bk13.els))).symm.trans hyi)
        subst ey
        refine gN (yesT (iteT ?_))
        refine ⟨_,rfl,sx,rfl,⟨_,SqL.of (s14 _ _ hsx)⟩,fun lc hlc=>?_⟩
        refine take_group (g:=0+(j:Int)) (A:=X) (s14 _ _ hsx) (hdx.same s14) (by omega) hlc fun H16 s16 e16=>?_
        have hsl:=sel_sub (0+(j:Int)) X
        refine ⟨lc,_,_,rfl,.inl (SqL.of e16),denS_of _ _,hom_names _,by rw [List.length_map]; omega,fun x hx=>?_,fun l17 us17 ds17 hl17 pm17 up17 dn17=>?_⟩
        · obtain ⟨y,_,rfl⟩:=List.mem_map.mp hx
          exact show Shal 50 _ from shal_ups (n:=0) (shal_str _) 50
        obtain ⟨N,pN,rfl⟩:=perm_map_inv pm17 rfl
        have w17:=same_new hl17 (.lst us17)
        refine ⟨l17,_,rfl,.inl ⟨SqL.of upd_same,fun q hq=>?_⟩⟩
        have w18:=w17.trans (same_new hq (.tup us17))
        have sA:=s16.trans w18
        have ea:=sA _ _ e14
        have kT:=keepT_upd (zs:=ts++[.ref q]) ea
        have tl:=dn14.len
        rw [List.length_map] at tl
        refine ⟨ts,ea,small1000 (by omega),_,ts++[.ref q],Ns++[N],rfl,?_,upd_same,?_,by rw [List.length_append,hNl]; rfl,fun m N' X' hm hX'=>?_⟩
        · intro c o z
          rw [upd_ne (ne_of_none z hla)]
          exact sA _ _ (s14 c o z)
        · rw [List.map_append]
          exact DenL.snoc (Den.keepT kT (show Den _ (.ref q) (namesD N) from ⟨q,us17,rfl,upd_same,dn17.same w18⟩)) ((dn14.same sA).keepT kT)
        · rcases Nat.lt_or_ge m Ns.length with hlt | hge
          · rw [List.getElem?_append_left hlt] at hm
            exact hNp m N' X' hm hX'
          · rw [List.getElem?_append_right hge] at hm
            have hm0:m=Ns.length:=by
              have:=(List.getElem?_eq_some_iff.mp hm).1
              simp at this
              omega
            subst hm0
            simp at hm
            subst hm
            rw [hNl,hX] at hX'
            cases hX'
            rw [show (0:Int)+(j:Int)=(j:Int) by omega] at pN
            exact pN
    · rintro σ H13 ⟨v10,v11,v12,v13,vs,ks,ra,rb,rfl,bk13,e13,dn13,hkl,hlo,hlb,hne,pA,pB⟩
      obtain ⟨us0,u0,du0⟩:=bk13.e0
      obtain ⟨us1,u1,du1⟩:=bk13.e1
      have l0:=du0.len
      have l1:=du1.len
      rw [List.length_map] at l0 l1
      refine hb _ _ <| seqN fun N hb => ⟨_,rfl, ixL (p := ls) rfl rfl (SqL.of bk13.els) (atI_zero _ _) (⟨_,rfl, ixL (p := ls) rfl rfl (SqL.of bk13.els) (atI_nat (xs:=[V.ref s0,V.ref s1]) (j:=1) rfl) (⟨s0,s1,_,_,rfl,rfl,u0,u1,small (by omega),fun lq hlq=>?_⟩)⟩)⟩
      have wq:=same_new hlq (.lst (us0++us1))
      have eq:(upd H13 lq (.lst (us0++us1))) lq=some (.lst (us0++us1)):=upd_same
      have dnq:DenL (upd H13 lq (.lst (us0++us1))) (us0++us1) ((A++B).map prD):=by
        rw [List.map_append]
        exact denl_app (du0.same wq) (du1.same wq)
      have bkq:=bk13.same wq
      have ek:=wq _ _ e13
      have dnk:=dn13.same wq
      generalize upd H13 lq (.lst (us0++us1))=H14 at eq dnq bkq ek dnk
      refine ⟨lq,rfl,⟨_,SqL.of eq⟩,fun lc hlc=>?_⟩
      refine take_group (g:=(g:Int)) (A:=A++B) eq dnq (by rw [List.length_append]; omega) hlc fun H15 s15 e15=>?_
      have bk15:=bkq.same s15
      have hnk:∀ k∈ks,k.1.length≤9∧k.2.1.length≤9:=fun k hk=>by
        have a0:=side_len (n:=0) hk
        have a1:=side_len (n:=1) hk
        have b0:(sideOf 0 k).length=k.1.length:=rfl
        have b1:(sideOf 1 k).length=k.2.1.length:=rfl
        have c0:=pA.length_eq
        have c1:=pB.length_eq
        have d0:(low (g:Int) A).length≤A.length:=by unfold low; rw [List.length_map]; exact List.length_filter_le _ _
        have d1:(low (g:Int) B).length≤B.length:=by unfold low; rw [List.length_map]; exact List.length_filter_le _ _
        rw [List.length_append] at c0 c1
        omega
      refine gN <| hb _ _ ⟨_,rfl,_,rfl,_,rfl,lk,vs,_,rfl,.inl (SqL.of (s15 _ _ ek)),dnk.same s15,hom_links ks,by rw [List.length_map]; omega,fun x hx=>?_,fun l16 us16 ds16 hl16 pm16 up16 dn16=>?_⟩
      · obtain ⟨y,hy,rfl⟩:=List.mem_map.mp hx
        have a:=hnk y hy
        have b:=hlo y hy
        exact show Shal 50 _ from shal_ups (n:=3) (shal_lnk (by omega) (by omega) (by omega) (by omega)) 47
      obtain ⟨ks16,pk16,rfl⟩:=perm_map_inv pm16 rfl
      have w16:=same_new hl16 (.lst us16)
      refine ⟨l16,_,rfl,.inl ⟨SqL.of upd_same,fun q17 hq17=>?_⟩⟩
      have w17:=w16.trans (same_new hq17 (.tup us16))
      have e17:(upd (upd H15 l16 (.lst us16)) q17 (.tup us16)) q17=some (.tup us16):=upd_same
      have bk17:=bk15.same w17
      have e17c:=w17 _ _ e15
      have dn17:=dn16.same w17
      generalize upd (upd H15 l16 (.lst us16)) q17 (.tup us16)=H17 at e17 bk17 e17c dn17
      have hsl:=sel_sub (g:Int) (A++B)
      rw [List.length_append] at hsl
      refine ⟨_,rfl,lc,_,_,rfl,.inl (SqL.of e17c),denS_of _ _,hom_names _,by rw [List.length_map]; omega,fun x hx=>?_,fun l18 us18 ds18 hl18 pm18 up18 dn18=>?_⟩
      · obtain ⟨y,_,rfl⟩:=List.mem_map.mp hx
        exact show Shal 50 _ from shal_ups (n:=0) (shal_str _) 50
      obtain ⟨al,pal,rfl⟩:=perm_map_inv pm18 rfl
      have w18:=same_new hl18 (.lst us18)
      refine ⟨l18,_,rfl,.inl ⟨SqL.of upd_same,fun q19 hq19=>?_⟩⟩
      have w19:=w18.trans (same_new hq19 (.tup us18))
      have e19:(upd (upd H17 l18 (.lst us18)) q19 (.tup us18)) q19=some (.tup us18):=upd_same
      have bk19:=bk17.same w19
      have e19q:=w19 _ _ e17
      have dn19:=dn17.same w19
      have da19:=dn18.same w19
      generalize upd (upd H17 l18 (.lst us18)) q19 (.tup us18)=H19 at e19 bk19 e19q dn19 da19
      refine ⟨smn 4,fun tb htb=>?_⟩
      have w20:=same_new htb (.tup [.ref qL,.ref qR,.ref q17,.ref q19])
      have bk20:=bk19.same w20
      refine kk (.ref tb) L R ks16 al _ ?_ (vb_of hnd (by omega) (by omega) htx hmo hmb hA' hB' (by omega) hlo hlb hne pA pB pk16 pal) bk20.box bk20.old
      exact ⟨tb,_,rfl,upd_same,bk20.dL,bk20.dR,⟨q17,_,rfl,w20 _ _ e19q,dn19.same w20⟩,⟨q19,_,rfl,w20 _ _ e19,da19.same w20⟩,trivial⟩
end
noncomputable def Pl:Nat→D→Prop
  | _,.int _=>True
  | _,.str _=>True
  | n+1,.tup ds=>ds.length≤1000∧∀ d∈ds,Pl n d
  | _,_=>False
noncomputable def spSameP:Nat→Sp
  | 0=>fun _ _ _ _=>False
  | n+1=>fun vs H Q _=>∃ (v u:V) (d:D),vs=[v,u]∧Den H v d∧Den H u d∧Pl n d∧∀ H',Same H H'→Q (.bl true) H'
section
variable {P:Program} {w:World} {K:PySem.W.Frag} {mg:Str→Option Value} {base:Heap}
theorem scSame:FnScope ["_law_found", "_law_due"] ["_law_found", "_law_due"] (defScope sSame):=⟨rfl,rfl,rfl,by decide +kernel,rfl,by decide +kernel,by decide +kernel⟩
theorem c_same (h:Has K mg "_law_same" sSame ["_law_found", "_law_due"]) (m_isinstance:mg "isinstance" = none) (m_tuple:mg "tuple" = none) (m_len:mg "len" = none) (m_all:mg "all" = none) (m_zip:mg "zip" = none) (m_str:mg "str" = none) (m_bool:mg "bool" = none) (m_int:mg "int" = none) :
    ∀ n:Nat,Cal P w K mg base "_law_same" n ["_law_found", "_law_due"] (spSameP n)
  | 0=>h.never fun _ _ _ _ z=>z
  | n+1=>by
    have C_same:=c_same h m_isinstance m_tuple m_len m_all m_zip m_str m_bool m_int n
    refine h.mk' scSame (fun vs H Q E hs=>?_) (fun f cdv A outer s H vs Q E hr hs=>?_)
    · obtain ⟨v,u,d,rfl,_⟩:=hs
      rfl
    obtain ⟨v,u,d,rfl,hv,hu,hsh,k⟩:=hs
    refine ⟨_,(pss_cons (ps_if (pt_val (pe_callB call_isinst rfl m_isinstance boot_isinstance (pa_cons (pv 1) (pa_cons (pe_bltn (v:=.ty "tuple") rfl m_tuple boot_tuple rfl) pa_nil))))
      (pss_cons (ps_if (PW.pt (pw_or (pt_not (pt_val (pe_callB call_isinst rfl m_isinstance boot_isinstance (pa_cons (pv 0) (pa_cons (pe_bltn (v:=.ty "tuple") rfl m_tuple boot_tuple rfl) pa_nil))))) (pw_or1 (pt_cmpR op_ne (pe_callB call_len_seq rfl m_len PySem.boot_len (pa_cons (pv 0) pa_nil)) (pe_callB call_len_seq rfl m_len PySem.boot_len (pa_cons (pv 1) pa_nil)) (nomark _)))))
      (pss_one (ps_ret pe_bl))
      pss_nil)
    (pss_one (ps_ret (pe_callB (call_allB rfl) rfl m_all boot_all (pa_cons (pe_compL ["_law_found", "_law_due"] (defScope sSame) ["_law_one", "_law_other"] [none,none] rfl rfl rfl (pi_zip rfl m_zip (pa_cons (pv 0) (pa_cons (pv 1) pa_nil))) rfl (by decide +kernel) (by decide +kernel) (by decide +kernel) (by decide +kernel) (g:=gTup K0 2 (gCons (gName 0) (gCons (gName 1) gNil))) (hg:=fun cl C s H ex pn E=>pg_tup0 (n := 2) rfl (pgs_cons (pg_name (i:=0) (by decide +kernel:(["_law_one", "_law_other"]:List Str).Nodup) rfl (Or.inl rfl) (Or.inr rfl)) (pgs_cons (pg_name (i:=1) (by decide +kernel:(["_law_one", "_law_other"]:List Str).Nodup) rfl (Or.inl rfl) (Or.inr rfl)) pgs_nil))) (ht:=fun cl C s H ex pn E=>pifs_nil) (he:=fun cl C s H ex pn E=>(pe_cal C_same hr (Nat.le_refl _) rfl (pa_cons (pv 0) (pa_cons (pv 1) pa_nil))))) pa_nil)))))
      pss_nil)
    (pss_cons (ps_if (pt_cmpR op_isN (pv 1) pe_non (nomark _))
      (pss_one (ps_ret (pe_cmpR op_isN (pv 0) pe_non (nomark _))))
      pss_nil)
    (pss_cons (ps_if (pt_val (pe_callB call_isinst rfl m_isinstance boot_isinstance (pa_cons (pv 1) (pa_cons (pe_bltn (v:=.ty "str") rfl m_str boot_str rfl) pa_nil))))
      (pss_one (ps_ret (pe_and (pe_callB call_isinst rfl m_isinstance boot_isinstance (pa_cons (pv 0) (pa_cons (pe_bltn (v:=.ty "str") rfl m_str boot_str rfl) pa_nil))) (pe_one (pe_cmpR op_eq (pv 0) (pv 1) (nomark _))))))
      pss_nil)
    (pss_one (ps_ret (pe_and (pe_callB call_isinst rfl m_isinstance boot_isinstance (pa_cons (pv 0) (pa_cons (pe_bltn (v:=.ty "int") rfl m_int boot_int rfl) pa_nil))) (pe_and (pe_not (pe_callB call_isinst rfl m_isinstance boot_isinstance (pa_cons (pv 0) (pa_cons (pe_bltn (v:=.ty "bool") rfl m_bool boot_bool rfl) pa_nil)))) (pe_one (pe_cmpR op_eq (pv 0) (pv 1) (nomark _)))))))))),?_⟩
    cases d with
    | non=>cases n <;> exact hsh.elim
    | bl b=>cases n <;> exact hsh.elim
    | int i =>
      have e1:v=.int i:=hv
      have e2:u=.int i:=hu
      subst e1
      subst e2
      refine ⟨_,rfl,_,_,_,false,rfl,.int _,kit_int_tuple K,_,rfl,iteF ?_⟩
      refine ⟨_,rfl,rfl,_,rfl,iteF ?_⟩
      refine ⟨_,rfl,_,_,_,false,rfl,.int _,kit_int_str K,_,rfl,iteF ?_⟩
      refine ⟨_,rfl,_,_,_,true,rfl,.int _,kit_int_int K,_,rfl,iteT ?_⟩
      refine ⟨_,rfl,_,_,_,false,rfl,.int _,kit_int_bool K,_,rfl,_,rfl,iteT ?_⟩
      refine ⟨_,rfl,_,rfl,rfl,?_⟩
      rw [decide_eq_true rfl]
      exact k H (Same.refl H)
    | str x =>
      have e1:v=.str x:=hv
      have e2:u=.str x:=hu
      subst e1
      subst e2
      refine ⟨_,rfl,_,_,_,false,rfl,.str _,kit_str_tuple K,_,rfl,iteF ?_⟩
      refine ⟨_,rfl,rfl,_,rfl,iteF ?_⟩
      refine ⟨_,rfl,_,_,_,true,rfl,.str _,kit_str_str K,_,rfl,iteT ?_⟩
      refine ⟨_,rfl,_,_,_,true,rfl,.str _,kit_str_str K,_,rfl,iteT ?_⟩
      refine ⟨_,rfl,_,rfl,rfl,?_⟩
      rw [decide_eq_true rfl]
      exact k H (Same.refl H)
    | tup ds =>
      obtain ⟨p,vs,rfl,hp,hd1⟩:=den_tup hv
      obtain ⟨q,us,rfl,hq,hd2⟩:=den_tup hu
      cases n with
      | zero=>exact hsh.elim
      | succ m =>
      obtain ⟨hlen,hin⟩:=hsh
      have l1:=hd1.len
      have l2:=hd2.len
      refine ⟨_,rfl,_,_,_,true,rfl,.tup hq,kit_tuple_tuple K,_,rfl,iteT ?_⟩
      refine ⟨_,rfl,_,_,_,true,rfl,.tup hp,kit_tuple_tuple K,_,rfl,iteF ?_⟩
      refine ⟨_,rfl,p,_,rfl,.inr (SqT.of hp),_,rfl,q,_,rfl,.inr (SqT.of hq),rfl,_,rfl,?_⟩
      rw [l1,l2,decide_eq_true rfl]
      refine iteF ?_
      refine ⟨_,rfl,_,rfl,p,q,rfl,⟨_,SqT.of hp⟩,⟨_,SqT.of hq⟩,fun l hl=>?_⟩
      refine comp_by (J:=Itz K p q) (l:=l) ds.length (fun i σ' H'=>∃ v0 v1:Option V,σ'=[v0,v1]∧Same H H'∧H' l=some (.lst ((List.replicate i true).map V.bl))) ⟨none,none,rfl,same_new hl _,upd_same⟩ ?_ ?_
      · rintro σ' H' ⟨v0,v1,rfl,hs,hl'⟩
        refine ⟨⟨_,SqT.of (hs _ _ hp),by rw [l1]; exact Nat.le_refl _⟩,l,List.replicate ds.length true,rfl,SqL.of hl',?_⟩
        rw [all_rep]
        exact k H' hs
      · rintro i σ' H' hi ⟨v0,v1,rfl,hs,hl'⟩
        have hx1:vs[i]?=some vs[i]:=List.getElem?_eq_getElem (by omega)
        have hx2:us[i]?=some us[i]:=List.getElem?_eq_getElem (by omega)
        refine ⟨⟨_,_,_,_,SqT.of (hs _ _ hp),SqT.of (hs _ _ hq),hx1,hx2⟩,?_⟩
        rintro y H'' ⟨t,x,z,rfl,ht,rfl,h1,h2⟩
        have e1:x=vs[i]:=Option.some.inj ((h1 _ (SqT.of (hs _ _ hp))).symm.trans hx1)
        have e2:z=us[i]:=Option.some.inj ((h2 _ (SqT.of (hs _ _ hq))).symm.trans hx2)
        obtain ⟨d1,g1,b1⟩:=hd1.at_ hx1
        obtain ⟨d2,g2,b2⟩:=hd2.at_ hx2
        rw [g1] at g2
        cases g2
        rw [← e1] at b1
        rw [← e2] at b2
        have hs2:Same H (upd H' t (.tup [x,z])):=hs.trans (same_new ht _)
        refine ⟨t,_,rfl,SqT.of upd_same,rfl,_,_,rfl,_,_,rfl,rfl,yesT (iteT ?_)⟩
        refine ⟨_,rfl,_,rfl,_,_,d1,rfl,b1.same hs2,b2.same hs2,hin d1 (List.mem_of_getElem? g1),fun H3 s3=>?_⟩
        have ntl:l≠t:=ne_of_none hl' ht
        have hl3:H3 l=some (.lst ((List.replicate i true).map V.bl)):=s3 _ _ ((upd_ne ntl).trans hl')
        refine ⟨_,hl3,?_,_,_,rfl,?_,?_⟩
        · rw [List.length_map,List.length_replicate]
          exact small1000 (by omega)
        · intro c o e
          have hlH:H l=none:=hl
          rw [upd_ne (ne_of_none e hlH)]
          exact s3 _ _ (hs2 c o e)
        · rw [upd_same,List.replicate_succ',List.map_append]
          rfl
end
noncomputable def VBs (H:Hp) (us:List V):Prop:=∀ v∈us,∃ (L R:List Prt) (ks:List Lnk) (al:Nms),Den H v (bookD L R ks al)∧VB L R ks al
theorem VBs.keepT {H H':Hp} {us:List V} (e:∀ (b:Addr) (vs:List V),H b=some (.tup vs)→H' b=some (.tup vs)) (h:VBs H us):VBs H' us:=fun v hv=>by
  obtain ⟨L,R,ks,al,d,x⟩:=h v hv
  exact ⟨L,R,ks,al,Den.keepT e d,x⟩
theorem VBs.same {H H':Hp} {us:List V} (s:Same H H') (h:VBs H us):VBs H' us:=h.keepT fun b vs e=>s b _ e
theorem vb_empty:VB [] [] [] []:=⟨.nil,by decide,by decide,(fun _ h=>by cases h),(fun _ h=>by cases h),by decide,(fun _ h=>by cases h),(fun _ h=>by cases h),(fun _ h=>by cases h),(fun _ h=>by cases h),(fun _ h=>by cases h),.nil,by decide,(fun _ h=>by cases h),(fun _ h=>by cases h),(fun _ h=>by cases h)⟩
theorem st_form (s:Stt):∃ (x:Str) (r:List D),stD s=.tup (.str x :: r)∧(∀ d∈r,∃ i,d=.int i)∧r.length≤1:=by
  cases s with
  | lack=>exact ⟨_,[],rfl,(fun d h=>by cases h),by decide⟩
  | alone=>exact ⟨_,[],rfl,(fun d h=>by cases h),by decide⟩
  | step=>exact ⟨_,[],rfl,(fun d h=>by cases h),by decide⟩
  | stale m=>exact ⟨_,[.int m],rfl,(fun d h=>⟨m,List.mem_singleton.mp h⟩),by simp⟩
noncomputable def spStates:Sp:=fun vs H Q _=>∃ (v:V) (L R:List Prt) (ks:List Lnk) (al:Nms),vs=[v]∧Den H v (bookD L R ks al)∧VB L R ks al∧∀ (u:V) (H':Hp),Same H H'→Den H' u (.tup [.tup (L.map (stp (final (L++R) ks al))),.tup (R.map (stp (final (L++R) ks al)))])→Q u H'
section
variable {P:Program} {w:World} {K:PySem.W.Frag} {mg:Str→Option Value} {base:Heap}
theorem scStates:FnScope ["book", "found", "left", "right"] ["book"] (defScope sStates):=⟨rfl,rfl,rfl,by decide +kernel,rfl,by decide +kernel,by decide +kernel⟩
theorem c_states (h:Has K mg "states" sStates ["book"]) (C_states_by_name:Cal P w K mg base "states_by_name" 2 ["book"] spSBN) (m_tuple:mg "tuple" = none):Cal P w K mg base "states" 3 ["book"] spStates:=by
  refine h.mk' scStates (fun vs H Q E hs=>?_) (fun f cdv A outer s H vs Q E hr hs=>?_)
  · refine hid fun G bk_ => ?_
    obtain ⟨v,L,R,ks,al,rfl,_⟩ := hs
    refine bk_ ?_
    rfl
  refine hid fun G bk_ => ?_
  obtain ⟨v,L,R,ks,al,rfl,hv,vb,kk⟩ := hs
  refine bk_ ?_
  refine ⟨_,(pss_cons (ps_set (i:=1) scStates.nd rfl (Or.inr rfl) (pe_cal C_states_by_name hr (by decide) rfl (pa_cons (pv 0) pa_nil)))
    (pss_cons (ps_set (i:=2) scStates.nd rfl (Or.inl rfl) (pe_callTy call_tuple_of0 rfl m_tuple boot_tuple (pa_cons (pe_compL ["book", "found", "left", "right"] (defScope sStates) ["found", "part"] [some 1,none] rfl rfl rfl (pi_tup0 (pe_ix ix_tup0 (pv 0) pe_int (fun _ _=>rfl))) rfl (by decide +kernel) (by decide +kernel) (by decide +kernel) (by decide +kernel) (hg:=fun cl C s H ex pn E=>(pg_name (i:=1) (by decide +kernel:(["found", "part"]:List Str).Nodup) rfl (Or.inl rfl))) (ht:=fun cl C s H ex pn E=>pifs_nil) (he:=fun cl C s H ex pn E=>(pe_tup (pa_cons (pe_ix (ix_tup0) (pv 1) pe_int (fun _ _=>rfl)) (pa_cons (pe_dget (hu_of hr) (pv 0) (pe_ix (ix_tup0) (pv 1) pe_int (fun _ _=>rfl)) (fun _ _=>rfl)) pa_nil))))) pa_nil)))
    (pss_cons (ps_set (i:=3) scStates.nd rfl (Or.inl rfl) (pe_callTy call_tuple_of0 rfl m_tuple boot_tuple (pa_cons (pe_compL ["book", "found", "left", "right"] (defScope sStates) ["found", "part"] [some 1,none] rfl rfl rfl (pi_tup0 (pe_ix ix_tup0 (pv 0) pe_int (fun _ _=>rfl))) rfl (by decide +kernel) (by decide +kernel) (by decide +kernel) (by decide +kernel) (hg:=fun cl C s H ex pn E=>(pg_name (i:=1) (by decide +kernel:(["found", "part"]:List Str).Nodup) rfl (Or.inl rfl))) (ht:=fun cl C s H ex pn E=>pifs_nil) (he:=fun cl C s H ex pn E=>(pe_tup (pa_cons (pe_ix (ix_tup0) (pv 1) pe_int (fun _ _=>rfl)) (pa_cons (pe_dget (hu_of hr) (pv 0) (pe_ix (ix_tup0) (pv 1) pe_int (fun _ _=>rfl)) (fun _ _=>rfl)) pa_nil))))) pa_nil)))
    (pss_one (ps_ret (pe_tup (pa_cons (pv 2) (pa_cons (pv 3) pa_nil)))))))),?_⟩
  refine ⟨_,rfl,v,L,R,ks,al,rfl,hv,vb,fun d kvs H1 hdH s1 e1 fd1=>?_⟩
  refine hid fun G bk_ => ?_
  obtain ⟨p,pl,pr,pk,pa,ls,rs,ws,rfl,hp,hpl,hdl,hpr,hdr,hpk,hdk,hpa⟩ := den_book hv
  refine bk_ ?_
  have at0:atI [V.ref pl,V.ref pr,V.ref pk,V.ref pa] 0=some (.ref pl):=atI_zero _ _
  have at1:atI [V.ref pl,V.ref pr,V.ref pk,V.ref pa] 1=some (.ref pr):=atI_nat (xs:=[V.ref pl,V.ref pr,V.ref pk,V.ref pa]) (j:=1) rfl
  have hnd:=vb.nd
  generalize hf:final (L++R) ks al=f at fd1 kk
  have look:∀ (q:Prt),q∈L++R→∃ u,valV kvs (nkey q.1)=some u∧Den H1 u (stD (f q.1)):=fun q hq=>by
    refine hid fun G bk_ => ?_
    obtain ⟨u,q',a1,a2,a3,a4,a5⟩ := fd1.val (List.mem_map_of_mem hq)
    refine bk_ ?_
    rw [a3] at a5
    exact ⟨u,a1,a5⟩
  refine gN ⟨_,rfl, ixT (p := p) rfl rfl (SqT.of (s1 _ _ hp)) (at0) (⟨pl,rfl,⟨_,SqT.of (s1 _ _ hpl)⟩,fun lc hlc=>?_⟩)⟩
  have hl1:=hdl.len
  have hr1:=hdr.len
  rw [List.length_map] at hl1 hr1
  have lL:=vb.lL
  have lR:=vb.lR
  refine comp_by (J:=Itt K0 pl) (l:=lc) ls.length (fun i σ' H'=>∃ (v:Option V) (ws:List V),σ'=[some (.ref d),v]∧Same H1 H'∧H' lc=some (.lst ws)∧DenL H' ws ((L.take i).map (stp f))) ⟨none,[],rfl,same_new hlc _,upd_same,trivial⟩ ?_ ?_
  · intro σ' H2 q_ 
    refine hid fun G bk_ => ?_
    obtain ⟨v,ws2,rfl,s2,e2,dn2⟩ := q_
    refine bk_ ?_
    rw [hl1,List.take_length] at dn2
    have s02:=s1.trans s2
    refine ⟨⟨_,SqT.of (s02 _ _ hpl),Nat.le_refl _⟩,lc,ws2,rfl,.inl ⟨SqL.of e2,fun q3 hq3=>?_⟩⟩
    have w3:=same_new hq3 (.tup ws2)
    have e3:(upd H2 q3 (.tup ws2)) q3=some (.tup ws2):=upd_same
    have dn3:=dn2.same w3
    have s13:=s2.trans w3
    generalize upd H2 q3 (.tup ws2)=H3 at e3 dn3 s13
    have s03:=s1.trans s13
    refine gN ⟨_,rfl, ixT (p := p) rfl rfl (SqT.of (s03 _ _ hp)) (at1) (⟨pr,rfl,⟨_,SqT.of (s03 _ _ hpr)⟩,fun ld hld=>?_⟩)⟩
    refine comp_by (J:=Itt K0 pr) (l:=ld) rs.length (fun i σ' H'=>∃ (v:Option V) (ws:List V),σ'=[some (.ref d),v]∧Same H3 H'∧H' ld=some (.lst ws)∧DenL H' ws ((R.take i).map (stp f))) ⟨none,[],rfl,same_new hld _,upd_same,trivial⟩ ?_ ?_
    · intro σ' H4 q_ 
      refine hid fun G bk_ => ?_
      obtain ⟨v,ws4,rfl,s4,e4,dn4⟩ := q_
      refine bk_ ?_
      rw [hr1,List.take_length] at dn4
      have s04:=s03.trans s4
      refine ⟨⟨_,SqT.of (s04 _ _ hpr),Nat.le_refl _⟩,ld,ws4,rfl,.inl ⟨SqL.of e4,fun q5 hq5=>?_⟩⟩
      have w5:=same_new hq5 (.tup ws4)
      have s35:=s4.trans w5
      refine gN ⟨_,rfl,_,rfl,smn 2,fun q6 hq6=>?_⟩
      have w6:=same_new hq6 (.tup [.ref q3,.ref q5])
      exact kk (.ref q6) _ ((s04.trans w5).trans w6) ⟨q6,_,rfl,upd_same,⟨q3,_,rfl,w6 _ _ (s35 _ _ e3),(dn3.same s35).same w6⟩,⟨q5,_,rfl,w6 _ _ upd_same,(dn4.same w5).same w6⟩,trivial⟩
    · intro i σ' H4 hi q_ 
      refine hid fun G bk_ => ?_
      obtain ⟨v,ws4,rfl,s4,e4,dn4⟩ := q_
      refine bk_ ?_
      have s04:=s03.trans s4
      have s14:=s13.trans s4
      have hni:i < R.length:=by omega
      have hat:rs[i]?=some rs[i]:=List.getElem?_eq_getElem hi
      refine ⟨⟨_,_,SqT.of (s04 _ _ hpr),hat⟩,?_⟩
      rintro y H5 ⟨rfl,hy⟩
      have ey:y=rs[i]:=Option.some.inj ((hy _ (SqT.of (s04 _ _ hpr))).symm.trans hat)
      obtain ⟨dd,hdd,dy⟩:=hdr.at_ hat
      rw [← ey] at dy
      rw [List.getElem?_map,List.getElem?_eq_getElem hni] at hdd
      have edd:partD R[i]=dd:=Option.some.inj hdd
      subst edd
      obtain ⟨b,pm,rfl,hb,hpm⟩:=den_part (dy.same s04)
      obtain ⟨u,hu1,hu2⟩:=look R[i] (List.mem_append_right _ (List.getElem_mem hni))
      have hg:=DGet.k (k:=nkey R[i].1) (s14 _ _ e1)
      rw [hu1] at hg
      refine gN (yesT (iteT ?_))
      refine ⟨_,rfl, ixT (p := b) rfl rfl (SqT.of hb) (atI_zero _ _) (⟨_,rfl,_,rfl, ixT (p := b) rfl rfl (SqT.of hb) (atI_zero _ _) (⟨d,u,rfl,hg,smn 2,fun t ht=>?_⟩)⟩)⟩
      have w:=same_new ht (.tup [mkT R[i].1,u])
      have ec:=w _ _ e4
      have kT:=keepT_upd (zs:=ws4++[.ref t]) ec
      have wl:=dn4.len
      rw [List.length_map,List.length_take] at wl
      refine ⟨ws4,ec,small1000 (by omega),_,ws4++[.ref t],rfl,?_,upd_same,?_⟩
      · intro c o z
        rw [upd_ne (ne_of_none z hld)]
        exact w _ _ (s4 c o z)
      · rw [List.take_add_one,List.getElem?_eq_getElem hni,List.map_append]
        exact DenL.snoc (Den.keepT kT (show Den _ (.ref t) (stp f R[i]) from ⟨t,_,rfl,upd_same,rfl,(hu2.same s14).same w,trivial⟩)) ((dn4.same w).keepT kT)
  · intro i σ' H4 hi q_ 
    refine hid fun G bk_ => ?_
    obtain ⟨v,ws4,rfl,s14,e4,dn4⟩ := q_
    refine bk_ ?_
    have s04:=s1.trans s14
    have hni:i < L.length:=by omega
    have hat:ls[i]?=some ls[i]:=List.getElem?_eq_getElem hi
    refine ⟨⟨_,_,SqT.of (s04 _ _ hpl),hat⟩,?_⟩
    rintro y H5 ⟨rfl,hy⟩
    have ey:y=ls[i]:=Option.some.inj ((hy _ (SqT.of (s04 _ _ hpl))).symm.trans hat)
    obtain ⟨dd,hdd,dy⟩:=hdl.at_ hat
    rw [← ey] at dy
    rw [List.getElem?_map,List.getElem?_eq_getElem hni] at hdd
    have edd:partD L[i]=dd:=Option.some.inj hdd
    subst edd
    obtain ⟨b,pm,rfl,hb,hpm⟩:=den_part (dy.same s04)
    obtain ⟨u,hu1,hu2⟩:=look L[i] (List.mem_append_left _ (List.getElem_mem hni))
    have hg:=DGet.k (k:=nkey L[i].1) (s14 _ _ e1)
    rw [hu1] at hg
    refine gN (yesT (iteT ?_))
    refine ⟨_,rfl, ixT (p := b) rfl rfl (SqT.of hb) (atI_zero _ _) (⟨_,rfl,_,rfl, ixT (p := b) rfl rfl (SqT.of hb) (atI_zero _ _) (⟨d,u,rfl,hg,smn 2,fun t ht=>?_⟩)⟩)⟩
    have w:=same_new ht (.tup [mkT L[i].1,u])
    have ec:=w _ _ e4
    have kT:=keepT_upd (zs:=ws4++[.ref t]) ec
    have wl:=dn4.len
    rw [List.length_map,List.length_take] at wl
    refine ⟨ws4,ec,small1000 (by omega),_,ws4++[.ref t],rfl,?_,upd_same,?_⟩
    · intro c o z
      rw [upd_ne (ne_of_none z hlc)]
      exact w _ _ (s14 c o z)
    · rw [List.take_add_one,List.getElem?_eq_getElem hni,List.map_append]
      exact DenL.snoc (Den.keepT kT (show Den _ (.ref t) (stp f L[i]) from ⟨t,_,rfl,upd_same,rfl,(hu2.same s14).same w,trivial⟩)) ((dn4.same w).keepT kT)
end
theorem mkT_inj {a b:List Nat} (h:mkT a=mkT b):a=b:=by
  injection h with h
  injection h with h
  exact Array.mk.inj h
theorem ez_txt (a b:List Nat):decide (mkT a=mkT b)=decide (a=b):=by
  by_cases h:a=b
  · subst h; simp
  · rw [decide_eq_false h]
    exact decide_eq_false fun z=>h (mkT_inj z)
noncomputable def partN (ps:List Prt) (x:List Nat):Option Prt:=ps.find? fun p=>decide (p.1=x)
noncomputable def spPartOf (C:Addr):Sp:=fun vs H Q E=>∃ (v:V) (L R:List Prt) (ks:List Lnk) (al:Nms) (x:List Nat),vs=[v,mkT x]∧Den H v (bookD L R ks al)∧VB L R ks al∧x.length≤1000 ∧
  (∀ p,partN (L++R) x=some p→∀ (u:V) (H':Hp),Same H H'→Den H' u (partD p)→Q u H')∧(partN (L++R) x=none→Thrown C H E)
noncomputable def spStateOf (C:Addr):Sp:=fun vs H Q E=>∃ (v:V) (L R:List Prt) (ks:List Lnk) (al:Nms) (x:List Nat),vs=[v,mkT x]∧Den H v (bookD L R ks al)∧VB L R ks al∧x.length≤1000 ∧
  (∀ p,partN (L++R) x=some p→∀ (u:V) (H':Hp),Same H H'→Den H' u (stD (final (L++R) ks al x))→Q u H')∧(partN (L++R) x=none→Thrown C H E)
section
variable {P:Program} {w:World} {K:PySem.W.Frag} {mg:Str→Option Value} {base:Heap} {a_NoPart:Addr}
theorem scPartOf:FnScope ["book", "name", "part"] ["book", "name"] (defScope sPartOf):=⟨rfl,rfl,rfl,by decide +kernel,rfl,by decide +kernel,by decide +kernel⟩
theorem c_part_of (h:Has K mg "part_of" sPartOf ["book", "name"]) (q_NoPart:mg "NoPart" = some (.ref a_NoPart)) (x_NoPart:PySem.W.excIn K a_NoPart vBm "ValueError.__new__" = true):Cal1 P w K mg base "part_of" 1 ["book", "name"] (spPartOf a_NoPart):=by
  refine h.mk1 scPartOf (fun vs H Q E hs=>?_) (fun f cdv A outer s H vs Q E hr hs=>?_)
  · refine hid fun G bk_ => ?_
    obtain ⟨v,L,R,ks,al,x,rfl,_⟩ := hs
    refine bk_ ?_
    rfl
  refine hid fun G bk_ => ?_
  obtain ⟨v,L,R,ks,al,x,rfl,hv,vb,hlx,k1,k2⟩ := hs
  refine bk_ ?_
  refine ⟨_,(pss_cons (ps_for PassesOwn.leaving rfl (pi_tup0 (pe_op op_catT2 (pe_ix ix_tup0 (pv 0) pe_int (fun _ _=>rfl)) (pe_ix ix_tup0 (pv 0) pe_int (fun _ _=>rfl)))) (pg_name (i:=2) scPartOf.nd rfl (Or.inl rfl))
      (pss_one (ps_if (pt_cmpR op_eq (pe_ix ix_tup0 (pv 2) pe_int (fun _ _=>rfl)) (pv 1) (nomark _))
      (pss_one (ps_ret (pv 2)))
      pss_nil)))
    (pss_one (ps_raise rfl throws1 rfl q_NoPart x_NoPart (pa_cons (pe_fstr (pj_cons pe_str (pj_cons (pe_fmt (pv 1)) pj_nil))) pa_nil)))),?_⟩
  refine hid fun G bk_ => ?_
  obtain ⟨p,pl,pr,pk,pa,ls,rs,ws,rfl,hp,hpl,hdl,hpr,hdr,hpk,hdk,hpa⟩ := den_book hv
  refine bk_ ?_
  have at0:atI [V.ref pl,V.ref pr,V.ref pk,V.ref pa] 0=some (.ref pl):=atI_zero _ _
  have at1:atI [V.ref pl,V.ref pr,V.ref pk,V.ref pa] 1=some (.ref pr):=atI_nat (xs:=[V.ref pl,V.ref pr,V.ref pk,V.ref pa]) (j:=1) rfl
  have hl1:=hdl.len
  have hl2:=hdr.len
  rw [List.length_map] at hl1 hl2
  have lL:=vb.lL
  have lR:=vb.lR
  refine ⟨_,rfl, ixT (p := p) rfl rfl (SqT.of hp) (at0) (⟨_,rfl, ixT (p := p) rfl rfl (SqT.of hp) (at1) (⟨pl,pr,_,_,rfl,rfl,hpl,hpr,small (by omega),fun q3 H3 s3 e3=>?_⟩)⟩)⟩
  have dA:DenL H (ls++rs) ((L++R).map partD):=by
    rw [List.map_append]
    exact denl_app hdl hdr
  refine ⟨q3,rfl,⟨_,SqT.of e3⟩,?_⟩
  refine for_tup (K := K0) (a:=q3) (xs:=ls++rs) (fun j σ H4=>∃ v2:Option V,σ=[some (.ref p),some (mkT x),v2]∧Same H H4∧H4 q3=some (.tup (ls++rs))∧∀ q∈(L++R).take j,decide (q.1=x)=false) ⟨_,rfl,s3,e3,fun q hq=>by rw [List.take_zero] at hq; cases hq⟩ ?_ ?_ ?_
  · rintro j σ H4 _ ⟨_,_,_,e4,_⟩
    exact SqT.of e4
  · rintro j y σ H4 hj ⟨v2,rfl,s4,e4,hno⟩
    obtain ⟨dd,hdd,dyp⟩:=dA.at_ hj
    have hnj:j < (L++R).length:=by
      have:=(List.getElem?_eq_some_iff.mp hdd).1
      rwa [List.length_map] at this
    rw [List.getElem?_map,List.getElem?_eq_getElem hnj] at hdd
    have edd:partD (L++R)[j]=dd:=Option.some.inj hdd
    subst edd
    have htk:(L++R).take (j+1)=(L++R).take j++[(L++R)[j]]:=by
      rw [List.take_add_one,List.getElem?_eq_getElem hnj]
      rfl
    have hfirst:decide ((L++R)[j].1=x)=true→partN (L++R) x=some (L++R)[j]:=fun h=>find_first hnj hno h
    generalize (L++R)[j]=q at dyp htk hfirst
    obtain ⟨bq,pm,rfl,hbq,hpm⟩:=den_part (dyp.same s4)
    refine gN ⟨_,rfl, ixT (p := bq) rfl rfl (SqT.of hbq) (atI_zero _ _) (⟨_,rfl,rfl,_,rfl,?_⟩)⟩
    refine ite2 (fun z=>?_) (fun z=>?_)
    · have z':decide (q.1=x)=true:=by rw [← ez_txt]; exact z
      exact ⟨_,rfl,k1 q (hfirst z') _ _ s4 (dyp.same s4)⟩
    · have z':decide (q.1=x)=false:=by rw [← ez_txt]; exact Bool.eq_false_iff.mpr z
      refine ⟨_,rfl,s4,e4,fun q' hq'=>?_⟩
      rw [htk] at hq'
      rcases List.mem_append.mp hq' with h | h
      · exact hno q' h
      · rw [List.mem_singleton.mp h]; exact z'
  · rintro σ H4 ⟨v2,rfl,s4,e4,hno⟩
    have hn:partN (L++R) x=none:=List.find?_eq_none.mpr fun q hq=>by
      have hlen:(ls++rs).length=(L++R).length:=by rw [List.length_append,List.length_append,hl1,hl2]
      have:=hno q (by rw [hlen,List.take_length]; exact hq)
      rw [this]; decide
    have th:=(k2 hn).up s4
    have hx1:(⟨x.toArray⟩:Str).length≤sizeLine:=by
      show x.toArray.size≤sizeLine
      rw [List.size_toArray]; exact Nat.le_of_lt (small1000 hlx)
    have hx2:((Str.empty++Str.ofString "there is no part ")++(⟨x.toArray⟩:Str)).length≤sizeLine:=by
      rw [strLen_append]
      have e1:(Str.empty++Str.ofString "there is no part ").length=17:=by decide +kernel
      rw [e1]
      show 17+x.toArray.size≤sizeLine
      rw [List.size_toArray]
      exact Nat.le_trans (Nat.add_le_add_left hlx 17) (by decide)
    refine ⟨_,rfl,by decide +kernel,_,rfl,.inl ⟨_,rfl,hx1,_,rfl,hx2,hx2,?_⟩⟩
    exact ⟨smn 1,fun e T he hT=>th.made he hT⟩
theorem scStateOf:FnScope ["book", "name"] ["book", "name"] (defScope sStateOf):=⟨rfl,rfl,rfl,by decide +kernel,rfl,by decide +kernel,by decide +kernel⟩
theorem c_state_of (h:Has K mg "state_of" sStateOf ["book", "name"]) (C_part_of:Cal1 P w K mg base "part_of" 1 ["book", "name"] (spPartOf a_NoPart)) (C_states_by_name:Cal P w K mg base "states_by_name" 2 ["book"] spSBN):Cal1 P w K mg base "state_of" 3 ["book", "name"] (spStateOf a_NoPart):=by
  refine h.mk1 scStateOf (fun vs H Q E hs=>?_) (fun f cdv A outer s H vs Q E hr hs=>?_)
  · refine hid fun G bk_ => ?_
    obtain ⟨v,L,R,ks,al,x,rfl,_⟩ := hs
    refine bk_ ?_
    rfl
  refine hid fun G bk_ => ?_
  obtain ⟨v,L,R,ks,al,x,rfl,hv,vb,hlx,k1,k2⟩ := hs
  refine bk_ ?_
  refine ⟨_,(pss_cons (ps_expr (pe_cal1 C_part_of hr (by decide) rfl passesO (pa_cons (pv 0) (pa_cons (pv 1) pa_nil))))
    (pss_one (ps_ret (pe_dget (hu_of hr) (pe_cal C_states_by_name hr (by decide) rfl (pa_cons (pv 0) pa_nil)) (pv 1) (fun _ _=>rfl))))),?_⟩
  refine ⟨_,rfl,_,rfl,v,L,R,ks,al,x,rfl,hv,vb,hlx,fun p hp u H1 s1 d=>?_,fun z=>(k2 z).out⟩
  refine ⟨_,rfl,v,L,R,ks,al,rfl,hv.same s1,vb,fun d kvs H2 hdH s2 e2 fd2=>?_⟩
  have hx:x∈(L++R).map (·.1):=List.mem_map.mpr ⟨p,List.mem_of_find?_eq_some hp,of_decide_eq_true (List.find?_some (p:=fun p:Prt=>decide (p.1=x)) hp)⟩
  refine hid fun G bk_ => ?_
  obtain ⟨u2,q',a1,a2,a3,a4,a5⟩ := fd2.val hx
  refine bk_ ?_
  have hg:=DGet.k (k:=nkey x) e2
  rw [a1] at hg
  rw [a3] at a5
  exact ⟨_,rfl,d,_,rfl,hg,k1 p hp u2 H2 (s1.trans s2) a5⟩
end
theorem boot_ValueError:bootBuiltins "ValueError" = some (.type "ValueError"):=by decide +kernel
structure NoPartK (K:PySem.W.Frag) (np te pl tw li ap nd nt:Addr):Prop where
  ek:ExcK K np
  un:PySem.W.subIn K (.ref np) (.ref te)=some true
  ii:PySem.W.isIn K (.ref np) np=true
  iv:PySem.W.subIn K (.ref np) (.type "ValueError")=some true
  n1:PySem.W.kin_not K np pl=true
  n2:PySem.W.kin_not K np tw=true
  n3:PySem.W.kin_not K np li=true
  n4:PySem.W.kin_not K np ap=true
  n5:PySem.W.kin_not K np nd=true
  n6:PySem.W.kin_not K np nt=true
noncomputable def spRefusal (K:PySem.W.Frag) (C te pl tw li ap nd nt:Addr):Sp:=fun vs H Q _=>NoPartK K C te pl tw li ap nd nt∧∃ (e T:Addr),vs=[.ref e]∧H e=some (ExcO (.ref C) T e)∧∀ H',Same H H'→Q (.str "NoPart") H'
section
variable {P:Program} {w:World} {K:PySem.W.Frag} {mg:Str→Option Value} {base:Heap} {a_NoPart a_TwainError a_NoPlace a_Twice a_Linked a_Apart a_NoDeed a_NoText:Addr}
theorem scRefusal:FnScope ["_law_e", "_law_words", "_law_fits"] ["_law_e"] (defScope sRefusal):=⟨rfl,rfl,rfl,by decide +kernel,rfl,by decide +kernel,by decide +kernel⟩
theorem c_refusal (h:Has K mg "_law_refusal" sRefusal ["_law_e"]) (q_Linked:mg "Linked" = some (.ref a_Linked)) (q_Twice:mg "Twice" = some (.ref a_Twice)) (q_NoPlace:mg "NoPlace" = some (.ref a_NoPlace)) (q_NoPart:mg "NoPart" = some (.ref a_NoPart)) (q_NoText:mg "NoText" = some (.ref a_NoText)) (q_NoDeed:mg "NoDeed" = some (.ref a_NoDeed)) (q_Apart:mg "Apart" = some (.ref a_Apart)) (m_isinstance:mg "isinstance" = none) (m_ValueError:mg "ValueError" = none):CalQ P w K mg base "_law_refusal" 1 ["_law_e"] (spRefusal K a_NoPart a_TwainError a_NoPlace a_Twice a_Linked a_Apart a_NoDeed a_NoText):=by
  refine h.mkQ scRefusal (fun vs H Q E hs=>?_) (fun f cdv A outer s H vs Q hr hs=>?_)
  · obtain ⟨_,e,T,rfl,_⟩:=hs
    rfl
  obtain ⟨kx,e,T,rfl,ex,kk⟩:=hs
  refine ⟨_,(pss_cons (ps_set (i:=1) scRefusal.nd rfl (Or.inl rfl) (pe_lst (pa_cons pe_str (pa_cons pe_str (pa_cons pe_str (pa_cons pe_str (pa_cons pe_str (pa_cons pe_str (pa_cons pe_str pa_nil)))))))))
    (pss_cons (ps_set (i:=2) scRefusal.nd rfl (Or.inl rfl) (pe_lst (pa_cons (pe_callB call_isinstX rfl m_isinstance boot_isinstance (pa_cons (pv 0) (pa_cons (pe_glob (v:=.ref a_NoPart) rfl q_NoPart rfl) pa_nil))) (pa_cons (pe_callB call_isinstX rfl m_isinstance boot_isinstance (pa_cons (pv 0) (pa_cons (pe_glob (v:=.ref a_NoPlace) rfl q_NoPlace rfl) pa_nil))) (pa_cons (pe_callB call_isinstX rfl m_isinstance boot_isinstance (pa_cons (pv 0) (pa_cons (pe_glob (v:=.ref a_Twice) rfl q_Twice rfl) pa_nil))) (pa_cons (pe_callB call_isinstX rfl m_isinstance boot_isinstance (pa_cons (pv 0) (pa_cons (pe_glob (v:=.ref a_Linked) rfl q_Linked rfl) pa_nil))) pa_nil))))))
    (pss_cons (ps_set (i:=2) scRefusal.nd rfl (Or.inl rfl) (pe_op op_cat (pv 2) (pe_lst (pa_cons (pe_callB call_isinstX rfl m_isinstance boot_isinstance (pa_cons (pv 0) (pa_cons (pe_glob (v:=.ref a_Apart) rfl q_Apart rfl) pa_nil))) (pa_cons (pe_callB call_isinstX rfl m_isinstance boot_isinstance (pa_cons (pv 0) (pa_cons (pe_glob (v:=.ref a_NoDeed) rfl q_NoDeed rfl) pa_nil))) (pa_cons (pe_callB call_isinstX rfl m_isinstance boot_isinstance (pa_cons (pv 0) (pa_cons (pe_glob (v:=.ref a_NoText) rfl q_NoText rfl) pa_nil))) pa_nil))))))
    (pss_cons (ps_if (PW.pt (pw_or (pt_cmpR op_ne (pe_bmZ PySem.F.plainAttrs_list PySem.F.slot_list_count PySem.F.type_list_count mt_countL (pv 2) (pa_cons pe_bl pa_nil)) pe_int (nomark _)) (pw_or1 (pt_not (pt_val (pe_callB call_isinstX rfl m_isinstance boot_isinstance (pa_cons (pv 0) (pa_cons (pe_bltn (v:=.ty "ValueError") rfl m_ValueError boot_ValueError rfl) pa_nil))))))))
      (pss_one (ps_ret pe_str))
      pss_nil)
    (pss_one (ps_ret (pe_ix ix_list0 (pv 1) (pe_bmZ PySem.F.plainAttrs_list PySem.F.slot_list_index PySem.F.type_list_index mt_indexL (pv 2) (pa_cons pe_bl pa_nil)) (fun _ _=>rfl)))))))),?_⟩
  have i1:IsX K a_NoPart (.ref a_NoPlace) false:=.inl ⟨_,rfl,.inr ⟨rfl,kx.ek,kx.n1⟩⟩
  have i2:IsX K a_NoPart (.ref a_Twice) false:=.inl ⟨_,rfl,.inr ⟨rfl,kx.ek,kx.n2⟩⟩
  have i3:IsX K a_NoPart (.ref a_Linked) false:=.inl ⟨_,rfl,.inr ⟨rfl,kx.ek,kx.n3⟩⟩
  have i4:IsX K a_NoPart (.ref a_Apart) false:=.inl ⟨_,rfl,.inr ⟨rfl,kx.ek,kx.n4⟩⟩
  have i5:IsX K a_NoPart (.ref a_NoDeed) false:=.inl ⟨_,rfl,.inr ⟨rfl,kx.ek,kx.n5⟩⟩
  have i6:IsX K a_NoPart (.ref a_NoText) false:=.inl ⟨_,rfl,.inr ⟨rfl,kx.ek,kx.n6⟩⟩
  have i7:IsX K a_NoPart (.ref a_NoPart) true:=.inl ⟨_,rfl,.inl ⟨rfl,kx.ii⟩⟩
  have i8:IsX K a_NoPart (.ty "ValueError") true:=.inr ⟨_,rfl,rfl,by kernel_rfl,kx.iv⟩
  refine ⟨smn 7,fun lw hlw=>?_⟩
  have w0:=same_new hlw (.lst [.str "NoPart",.str "NoPlace",.str "Twice",.str "Linked",.str "Apart",.str "NoDeed",.str "NoText"])
  have ew:(upd H lw (.lst [.str "NoPart",.str "NoPlace",.str "Twice",.str "Linked",.str "Apart",.str "NoDeed",.str "NoText"])) lw=some (.lst [.str "NoPart",.str "NoPlace",.str "Twice",.str "Linked",.str "Apart",.str "NoDeed",.str "NoText"]):=upd_same
  have ex0:=w0 _ _ ex
  generalize upd H lw (.lst [V.str "NoPart",V.str "NoPlace",V.str "Twice",V.str "Linked",V.str "Apart",V.str "NoDeed",V.str "NoText"])=H0 at w0 ew ex0
  refine gN ⟨_,rfl,e,T,a_NoPart,_,_,rfl,ex0,i7,_,rfl,e,T,a_NoPart,_,_,rfl,ex0,i1,_,rfl,e,T,a_NoPart,_,_,rfl,ex0,i2,_,rfl,e,T,a_NoPart,_,_,rfl,ex0,i3,smn 4,fun l1 hl1=>?_⟩
  have w1:=same_new hl1 (.lst [.bl true,.bl false,.bl false,.bl false])
  have e1:(upd H0 l1 (.lst [.bl true,.bl false,.bl false,.bl false])) l1=some (.lst [.bl true,.bl false,.bl false,.bl false]):=upd_same
  have ex1:=w1 _ _ ex0
  have ew1:=w1 _ _ ew
  generalize upd H0 l1 (.lst [V.bl true,V.bl false,V.bl false,V.bl false])=H1 at w1 e1 ex1 ew1
  refine gN ⟨_,rfl,_,rfl,e,T,a_NoPart,_,_,rfl,ex1,i4,_,rfl,e,T,a_NoPart,_,_,rfl,ex1,i5,_,rfl,e,T,a_NoPart,_,_,rfl,ex1,i6,smn 3,fun l2 hl2=>?_⟩
  have n12:l1≠l2:=ne_of_none e1 hl2
  have w2:=same_new hl2 (.lst [.bl false,.bl false,.bl false])
  refine ⟨l1,l2,[.bl true,.bl false,.bl false,.bl false],[.bl false,.bl false,.bl false],rfl,rfl,Eq.trans (upd_ne n12) e1,upd_same,smn 7,fun l3 hl3=>?_⟩
  have w3:=same_new hl3 (.lst ([.bl true,.bl false,.bl false,.bl false]++[.bl false,.bl false,.bl false]))
  have e3:(upd (upd H1 l2 (.lst [.bl false,.bl false,.bl false])) l3 (.lst ([.bl true,.bl false,.bl false,.bl false]++[.bl false,.bl false,.bl false]))) l3=some (.lst [.bl true,.bl false,.bl false,.bl false,.bl false,.bl false,.bl false]):=upd_same
  have ex3:=w3 _ _ (w2 _ _ ex1)
  have ew3:=w3 _ _ (w2 _ _ ew1)
  have sA:=((w0.trans w1).trans w2).trans w3
  generalize upd (upd H1 l2 (.lst [V.bl false,V.bl false,V.bl false])) l3 (.lst ([V.bl true,V.bl false,V.bl false,V.bl false]++[V.bl false,V.bl false,V.bl false]))=H3 at e3 ex3 ew3 sA
  refine gN ⟨_,rfl,.inl ⟨rfl,_,SqL.of e3⟩,l3,_,_,rfl,rfl,e3,rfl,rfl,rfl,_,rfl,?_⟩
  refine iteF ⟨_,rfl,e,T,a_NoPart,_,_,rfl,ex3,i8,_,rfl,iteF ?_⟩
  refine ⟨_,rfl,_,rfl,.inl ⟨rfl,_,SqL.of e3⟩,l3,_,_,_,0,rfl,rfl,e3,rfl,rfl,rfl,rfl,(fun i z h=>absurd h (Nat.not_lt_zero _)), ixL (p := lw) rfl rfl (SqL.of ew3) (atI_zero _ _) (kk H3 sA)⟩
end
noncomputable def spRefused (P:Program) (w:World) (K:PySem.W.Frag) (mg:Str→Option Value) (base:Heap) (C te pl tw li ap nd nt:Addr):Sp:=fun vs H Q _=>NoPartK K C te pl tw li ap nd nt∧∃ (f:Addr) (k:Nat) (ps:List Str) (sp:Sp) (fd:FuncData) (v:V),vs=[.ref f,v]∧FnOk P w K mg base (CX1 P w) k f fd ps sp∧Binds K fd ps []∧k≤4∧H f=some (FunO f fd) ∧
  (∀ Q' E',Thrown C H E'→sp [v] H Q' E')∧∀ H',Same H H'→Q (.str "NoPart") H'
section
variable {P:Program} {w:World} {K:PySem.W.Frag} {mg:Str→Option Value} {base:Heap} {a_NoPart a_TwainError a_NoPlace a_Twice a_Linked a_Apart a_NoDeed a_NoText:Addr}
theorem scRefused:FnScope ["_law_told_by", "_law_handed", "_law_word", "_law_e"] ["_law_told_by", "_law_handed"] (defScope sRefused):=⟨rfl,rfl,rfl,by decide +kernel,rfl,by decide +kernel,by decide +kernel⟩
theorem c_refused (h:Has K mg "_law_refused" sRefused ["_law_told_by", "_law_handed"]) (q_TwainError:mg "TwainError" = some (.ref a_TwainError)) (x_TwainError:PySem.W.excIn K a_TwainError vBm "ValueError.__new__" = true) (C_refusal:CalQ P w K mg base "_law_refusal" 1 ["_law_e"] (spRefusal K a_NoPart a_TwainError a_NoPlace a_Twice a_Linked a_Apart a_NoDeed a_NoText)):Cal P w K mg base "_law_refused" 5 ["_law_told_by", "_law_handed"] (spRefused P w K mg base a_NoPart a_TwainError a_NoPlace a_Twice a_Linked a_Apart a_NoDeed a_NoText):=by
  refine h.mk' scRefused (fun vs H Q E hs=>?_) (fun f cdv A outer s H vs Q E hr hs=>?_)
  · refine hid fun G bk_ => ?_
    obtain ⟨_,f,k,ps,sp,fd,v,rfl,_⟩ := hs
    refine bk_ ?_
    rfl
  refine hid fun G bk_ => ?_
  obtain ⟨kx,f',k,ps,sp,fd,v,rfl,hF,hB,hk,hf,hsp,kk⟩ := hs
  refine bk_ ?_
  refine ⟨_,(pss_cons (ps_set (i:=2) scRefused.nd rfl (Or.inl rfl) pe_str)
    (pss_cons (ps_try_as (i:=3) (fun pins R=>(pss_one (ps_expr (pe_calLT hr (pv 0) (pa_cons (pv 1) pa_nil))))) (fun e=>(pss_one (ps_set (i:=2) scRefused.nd rfl (Or.inl rfl) (pe_calQ C_refusal (hr.q _) (by decide) rfl (pa_cons (pv 3) pa_nil))))) rfl q_TwainError x_TwainError scRefused.nd rfl rfl rfl rfl)
    (pss_one (ps_ret (pv 2))))),?_⟩
  refine gN ⟨f',k,ps,sp,fd,rfl,hF,hB,by omega,hf,_,rfl,hf,hsp _ _ (thrown_try fun e T H' s' he hx=>?_)⟩
  refine ⟨⟨a_NoPart,rfl,kx.un⟩,fun T' hT' hn=>?_⟩
  have sx:Same H (xH H' T' e (.ref a_NoPart)):=same_xH s' he hn
  have ex:xH H' T' e (.ref a_NoPart) e=some (ExcO (.ref a_NoPart) T' e):=upd_same
  generalize xH H' T' e (.ref a_NoPart)=H2 at sx ex
  exact ⟨_,rfl,kx,e,T',rfl,ex,fun H3 s3=>⟨_,rfl,kk H3 (sx.trans s3)⟩⟩
end
noncomputable def spRight:Sp:=fun vs H Q _=>∃ (v:V) (L R:List Prt) (ks:List Lnk) (al:Nms),vs=[v]∧Den H v (bookD L R ks al)∧VB L R ks al∧∀ H',Same H H'→Q (.bl true) H'
theorem pl_st (n:Nat) (s:Stt):Pl (n+1) (stD s):=by
  obtain ⟨x,r,e,h,hl⟩:=st_form s
  rw [e]
  refine ⟨by rw [List.length_cons]; omega,fun d hd=>?_⟩
  rcases List.mem_cons.mp hd with rfl | hd
  · cases n <;> exact trivial
  · obtain ⟨i,rfl⟩:=h d hd
    cases n <;> exact trivial
theorem part_in {ps:List Prt} (hn:(ps.map (·.1)).Nodup) {p:Prt} (hp:p∈ps):partN ps p.1=some p:=by
  induction ps with
  | nil=>cases hp
  | cons q ps ih =>
    rw [List.map_cons,List.nodup_cons] at hn
    unfold partN
    rw [List.find?_cons]
    rcases List.mem_cons.mp hp with rfl | hp
    · rw [decide_eq_true rfl]
    · have hne:q.1≠p.1:=fun e=>hn.1 (by rw [e]; exact List.mem_map_of_mem hp)
      rw [decide_eq_false hne]
      exact ih hn.2 hp
section
variable {P:Program} {w:World} {K:PySem.W.Frag} {mg:Str→Option Value} {base:Heap} {a_NoPart:Addr}
theorem scRight:FnScope ["_law_book_here", "_law_due"] ["_law_book_here"] (defScope sRight):=⟨rfl,rfl,rfl,by decide +kernel,rfl,by decide +kernel,by decide +kernel⟩
theorem c_right (h:Has K mg "_law_right" sRight ["_law_book_here"]) (C_standings:Cal P w K mg base "_law_standings" 2 ["_law_book_here"] spStandings) (C_same:Cal P w K mg base "_law_same" 5 ["_law_found", "_law_due"] (spSameP 5)) (C_states:Cal P w K mg base "states" 3 ["book"] spStates) (C_state_of:Cal1 P w K mg base "state_of" 3 ["book", "name"] (spStateOf a_NoPart)) (m_all:mg "all" = none):Cal P w K mg base "_law_right" 6 ["_law_book_here"] spRight:=by
  refine h.mk' scRight (fun vs H Q E hs=>?_) (fun f cdv A outer s H vs Q E hr hs=>?_)
  · refine hid fun G bk_ => ?_
    obtain ⟨v,L,R,ks,al,rfl,_⟩ := hs
    refine bk_ ?_
    rfl
  refine hid fun G bk_ => ?_
  obtain ⟨v,L,R,ks,al,rfl,hv,vb,kk⟩ := hs
  refine bk_ ?_
  refine ⟨_,(pss_cons (ps_set (i:=1) scRight.nd rfl (Or.inl rfl) (pe_cal C_standings hr (by decide) rfl (pa_cons (pv 0) pa_nil)))
    (pss_cons (ps_if (pt_not (pt_val (pe_cal C_same hr (by decide) rfl (pa_cons (pe_cal C_states hr (by decide) rfl (pa_cons (pv 0) pa_nil)) (pa_cons (pv 1) pa_nil)))))
      (pss_one (ps_ret pe_bl))
      pss_nil)
    (pss_one (ps_ret (pe_callB (call_allB rfl) rfl m_all boot_all (pa_cons (pe_compL ["_law_book_here", "_law_due"] (defScope sRight) ["_law_book_here", "_law_name", "_law_standing_here"] [some 0,none,none] rfl rfl rfl (pi_tup0 (pe_op op_catT2 (pe_ix ix_tup0 (pv 1) pe_int (fun _ _=>rfl)) (pe_ix ix_tup0 (pv 1) pe_int (fun _ _=>rfl)))) rfl (by decide +kernel) (by decide +kernel) (by decide +kernel) (by decide +kernel) (g:=gTup K0 2 (gCons (gName 1) (gCons (gName 2) gNil))) (hg:=fun cl C s H ex pn E=>pg_tup0 (n := 2) rfl (pgs_cons (pg_name (i:=1) (by decide +kernel:(["_law_book_here", "_law_name", "_law_standing_here"]:List Str).Nodup) rfl (Or.inl rfl) (Or.inr rfl)) (pgs_cons (pg_name (i:=2) (by decide +kernel:(["_law_book_here", "_law_name", "_law_standing_here"]:List Str).Nodup) rfl (Or.inl rfl) (Or.inr rfl)) pgs_nil))) (ht:=fun cl C s H ex pn E=>pifs_nil) (he:=fun cl C s H ex pn E=>(pe_cal C_same hr (by decide) rfl (pa_cons (pe_cal1 C_state_of hr (by decide) rfl passesN (pa_cons (pv 0) (pa_cons (pv 1) pa_nil))) (pa_cons (pv 2) pa_nil))))) pa_nil)))))),?_⟩
  refine ⟨_,rfl,v,L,R,ks,al,rfl,hv,vb,fun u H1 s1 d1=>?_⟩
  refine gN ⟨_,rfl,v,L,R,ks,al,rfl,hv.same s1,vb,fun u2 H2 s2 d2=>?_⟩
  have s02:=s1.trans s2
  have ef:final (L++R) ks al=standing L R ks al:=funext fun y=>final_eq vb y
  rw [ef] at d2
  have lL:=vb.lL
  have lR:=vb.lR
  have plR:∀ ps:List Prt,ps.length≤9→Pl 3 (.tup (ps.map (stp (standing L R ks al)))):=fun ps hl=>by
    refine ⟨by rw [List.length_map]; omega,fun d hd=>?_⟩
    obtain ⟨q,_,rfl⟩:=List.mem_map.mp hd
    refine ⟨by simp,fun d hd=>?_⟩
    simp only [List.mem_cons,List.not_mem_nil,or_false] at hd
    rcases hd with rfl | rfl
    · exact trivial
    · exact pl_st 0 _
  refine ⟨_,rfl,_,_,_,rfl,d2,d1.same s2,⟨by simp,fun d hd=>?_⟩,fun H4 s4=>?_⟩
  · simp only [List.mem_cons,List.not_mem_nil,or_false] at hd
    rcases hd with rfl | rfl
    · exact plR L lL
    · exact plR R lR
  refine ⟨_,rfl,iteF ?_⟩
  have s14:=s2.trans s4
  have s04:=s1.trans s14
  obtain ⟨p,us,rfl,hp,hd⟩:=den_tup (d1.same s14)
  obtain ⟨b0,b1,rfl⟩:∃ b0 b1,us=[b0,b1]:=by
    match us,hd with
    | [b0,b1],_=>exact ⟨b0,b1,rfl⟩
    | [],h=>exact h.elim
    | [_],h=>exact h.2.elim
    | _ :: _ :: _ :: _,h=>exact h.2.2.elim
  obtain ⟨pl,ls,rfl,hpl,hdl⟩:=den_tup hd.1
  obtain ⟨pr,rs,rfl,hpr,hdr⟩:=den_tup hd.2.1
  have l1:=hdl.len
  have l2:=hdr.len
  rw [List.length_map] at l1 l2
  refine ⟨_,rfl, ixT (p := p) rfl rfl (SqT.of hp) (atI_zero _ _) (⟨_,rfl, ixT (p := p) rfl rfl (SqT.of hp) (atI_nat (xs:=[V.ref pl,V.ref pr]) (j:=1) rfl) (⟨pl,pr,_,_,rfl,rfl,hpl,hpr,small (by omega),fun q5 H5 s5 e5=>?_⟩)⟩)⟩
  have dA:DenL H5 (ls++rs) ((L++R).map (stp (standing L R ks al))):=by
    rw [List.map_append]
    exact denl_app (hdl.same s5) (hdr.same s5)
  have hps:(L++R).length≤18:=by rw [List.length_append]; omega
  have hin:∀ q∈L++R,partN (L++R) q.1=some q:=fun q hq=>part_in vb.nd hq
  have htx:=vb.tx
  generalize ls++rs=vs at e5 dA
  have hul:=dA.len
  rw [List.length_map] at hul
  have s05:=s04.trans s5
  refine ⟨q5,rfl,⟨_,SqT.of e5⟩,fun lc hlc=>?_⟩
  refine comp_by (J:=Itt K0 q5) (l:=lc) vs.length (fun i σ' H'=>∃ v0 v1:Option V,σ'=[some v,v0,v1]∧Same H5 H'∧H' lc=some (.lst ((List.replicate i true).map V.bl))) ⟨none,none,rfl,same_new hlc _,upd_same⟩ ?_ ?_
  · rintro σ' H6 ⟨v0,v1,rfl,s6,e6⟩
    refine ⟨⟨_,SqT.of (s6 _ _ e5),Nat.le_refl _⟩,lc,_,rfl,SqL.of e6,?_⟩
    rw [all_rep]
    exact kk H6 (s05.trans s6)
  · rintro i σ' H6 hi ⟨v0,v1,rfl,s6,e6⟩
    have hni:i < (L++R).length:=by omega
    have hat:vs[i]?=some vs[i]:=List.getElem?_eq_getElem hi
    refine ⟨⟨_,_,SqT.of (s6 _ _ e5),hat⟩,?_⟩
    rintro y H7 ⟨rfl,hy⟩
    have ey:y=vs[i]:=Option.some.inj ((hy _ (SqT.of (s6 _ _ e5))).symm.trans hat)
    obtain ⟨dd,hdd,dy⟩:=dA.at_ hat
    rw [← ey] at dy
    rw [List.getElem?_map,List.getElem?_eq_getElem hni] at hdd
    have edd:stp (standing L R ks al) (L++R)[i]=dd:=Option.some.inj hdd
    subst edd
    have hqm:(L++R)[i]∈L++R:=List.getElem_mem hni
    generalize (L++R)[i]=q at dy hqm
    obtain ⟨t,u',rfl,ht,hu⟩:=den_stp (dy.same s6)
    refine ⟨t,_,rfl,SqT.of ht,rfl,_,_,rfl,_,_,rfl,rfl,yesT (iteT ?_)⟩
    refine ⟨_,rfl,_,rfl,v,L,R,ks,al,q.1,rfl,hv.same (s05.trans s6),vb,by have:=htx q hqm; omega,fun p8 hp8 u8 H8 s8 d8=>?_,fun z=>by rw [hin q hqm] at z; cases z⟩
    rw [ef] at d8
    refine ⟨_,rfl,_,_,_,rfl,d8,hu.same s8,pl_st 3 _,fun H9 s9=>?_⟩
    have e9:=s9 _ _ (s8 _ _ e6)
    refine ⟨_,e9,?_,_,_,rfl,?_,?_⟩
    · rw [List.length_map,List.length_replicate]
      exact small1000 (by omega)
    · intro c o z
      rw [upd_ne (ne_of_none z hlc)]
      exact s9 _ _ (s8 _ _ (s6 c o z))
    · rw [upd_same,List.replicate_succ',List.map_append]
      rfl
end
noncomputable abbrev lamPos:Pos:=⟨183,64,183,110⟩
noncomputable abbrev lamQ:Str:=(("law" : Str) ++ ".<locals>.") ++ "<lambda>"
noncomputable def spLaw (K:PySem.W.Frag) (PT:Addr):Sp:=fun vs H Q _=>∃ (a:Addr) (ns:List Int),vs=[.ref a]∧SqL K H a (ns.map V.int)∧ns.length≤63∧H PT=some (.tbl #[])∧∀ H',Q (.bl true) H'
noncomputable def Wk (PT:Addr) (H H':Hp):Prop:=∀ b o,H b=some o→b≠PT→H' b=some o
theorem Wk.trans {PT:Addr} {H H1 H2:Hp} (a:Wk PT H H1) (b:Wk PT H1 H2):Wk PT H H2:=fun c o e n=>b c o (a c o e n) n
theorem Wk.of {PT:Addr} {H H1:Hp} (a:Same H H1):Wk PT H H1:=fun c o e _=>a c o e
theorem Wk.refl (PT:Addr) (H:Hp):Wk PT H H:=fun _ _ e _=>e
theorem tab_tup {PT:Addr} {pos:Pos} {q:Str} {H:Hp} (h:TabI PT pos q H) {b:Addr} {vs:List V} (e:H b=some (.tup vs)):b≠PT:=by
  obtain ⟨ps,a,_⟩:=h
  exact ne_of e a (by intro z; cases z)
theorem tab_lst {PT:Addr} {pos:Pos} {q:Str} {H:Hp} (h:TabI PT pos q H) {b:Addr} {vs:List V} (e:H b=some (.lst vs)):b≠PT:=by
  obtain ⟨ps,a,_⟩:=h
  exact ne_of e a (by intro z; cases z)
theorem Wk.den {PT:Addr} {pos:Pos} {q:Str} {H H':Hp} (w:Wk PT H H') (h:TabI PT pos q H) {v:V} {d:D} (x:Den H v d):Den H' v d:=Den.keepT (fun b vs e=>w b _ e (tab_tup h e)) x
theorem walk_nms {K:PySem.W.Frag} {q lc:Addr} {H:Hp} {us:List V} {ps:List Prt} {R:Hp→Prop} (hq:H q=some (.tup us)) (dn:DenL H us (ps.map partD)) (hl:ps.length≤1000) (hlc:H lc=none)
    (h:∀ H',Same H H'→H' lc=some (.lst ((ps.map (·.1)).map mkT))→R H') :
    ∃ W:Nat→Nat→L2.St→Hp→Prop,(∃ m,W 0 m [none] (upd H lc (.lst [])))∧∀ i m σ H,W i m σ H →
      ((Itt K q).stop i H∧R H)∨((Itt K q).go i H∧∃ N:L2.St→Hp→Prop,(∀ σ' H',N σ' H'→∃ m',m' < m∧W (i+1) m' σ' H') ∧
        ∀ x H',(Itt K q).yld i H x H'→gName 0 x σ H' fun σ2 H2=>tYes σ2 H2 fun b H3=>if b=true then tOp (rIxT K) (tVar 0) (tC (.int 0)) σ2 H3 fun v H4=>∃ ys,H4 lc=some (.lst ys)∧ys.length < sizeLine∧N σ2 (upd H4 lc (.lst (ys++[v]))) else N σ2 H3):=by
  have hul:=dn.len
  rw [List.length_map] at hul
  refine comp_by (J:=Itt K q) (l:=lc) us.length (fun i σ' H'=>∃ v0:Option V,σ'=[v0]∧Same H H'∧H' lc=some (.lst (((ps.take i).map (·.1)).map mkT))) ⟨none,rfl,same_new hlc _,upd_same⟩ ?_ ?_
  · rintro σ' H' ⟨v0,rfl,s,e⟩
    rw [hul,List.take_length] at e
    exact ⟨⟨_,SqT.of (s _ _ hq),Nat.le_refl _⟩,h H' s e⟩
  · rintro i σ' H' hi ⟨v0,rfl,s,e⟩
    have hni:i < ps.length:=by omega
    have hat:us[i]?=some us[i]:=List.getElem?_eq_getElem hi
    refine ⟨⟨_,_,SqT.of (s _ _ hq),hat⟩,?_⟩
    rintro y H'' ⟨rfl,hy⟩
    have ey:y=us[i]:=Option.some.inj ((hy _ (SqT.of (s _ _ hq))).symm.trans hat)
    obtain ⟨dd,hdd,dy⟩:=dn.at_ hat
    rw [← ey] at dy
    rw [List.getElem?_map,List.getElem?_eq_getElem hni] at hdd
    have edd:partD ps[i]=dd:=Option.some.inj hdd
    subst edd
    obtain ⟨b,pm,rfl,hb,hpm⟩:=den_part (dy.same s)
    refine gN (yesT (iteT ?_))
    refine ⟨_,rfl,b,_,_,_,rfl,rfl,SqT.of hb,atI_zero _ _,_,e,?_,_,rfl,?_,?_⟩
    · rw [List.length_map,List.length_map,List.length_take]
      exact small1000 (by omega)
    · intro c o z
      rw [upd_ne (ne_of_none z hlc)]
      exact s c o z
    · rw [upd_same,List.take_add_one,List.getElem?_eq_getElem hni,List.map_append,List.map_append]
      rfl
theorem no_part {ps:List Prt} {x:List Nat} (h:x ∉ ps.map (·.1)):partN ps x=none:=List.find?_eq_none.mpr fun q hq=>by
  rw [decide_eq_false (fun e=>h (by rw [← e]; exact List.mem_map_of_mem hq))]
  decide
theorem in_nms (x:List Nat) (xs:Nms):inV (mkT x) (xs.map mkT)=decide (x∈xs):=by
  have e:xs.map mkT=(xs.map fun n=>(⟨n.toArray⟩:Str)).map V.str:=by rw [List.map_map]; rfl
  rw [e,inV_str,Bool.eq_iff_iff,decide_eq_true_eq,decide_eq_true_eq]
  constructor
  · intro h
    obtain ⟨y,hy,e⟩:=List.mem_map.mp h
    rw [← mkT_inj (congrArg V.str e)]
    exact hy
  · intro h
    exact List.mem_map_of_mem (f:=fun n:List Nat=>(⟨n.toArray⟩:Str)) h
theorem flat_nms (xs:Nms):(xs.map mkT).all flatV=true:=by
  have e:xs.map mkT=(xs.map fun n=>(⟨n.toArray⟩:Str)).map V.str:=by rw [List.map_map]; rfl
  rw [e]
  exact flat_strs _
noncomputable def nos:List Nat:=("nosuch" : Str).cps.toList
theorem nos_eq:V.str "nosuch" = mkT nos:=by
  show V.str "nosuch" = V.str ⟨("nosuch" : Str).cps.toList.toArray⟩
  rw [Array.toArray_toList]
theorem nos_len:nos.length≤8:=by decide +kernel
section
variable {P:Program} {w:World} {K:PySem.W.Frag} {mg:Str→Option Value} {base:Heap} {a_NoPart a_TwainError a_NoPlace a_Twice a_Linked a_Apart a_NoDeed a_NoText:Addr}
theorem scLaw:FnScope ["_law_script", "_law_box", "_law_books", "_law_names", "_law_book_here", "_law_again", "_law_there", "_law_name"] ["_law_script"] (defScope sLaw):=⟨rfl,rfl,rfl,by decide +kernel,rfl,by decide +kernel,by decide +kernel⟩
theorem ok_law {f c PT:Addr} {fd:FuncData} (F:Fun K "law" "law" sLaw f fd) (hcd:fd.code=.ref c) (TC:TabCx mg base c PT) (C_numbers:Cal P w K mg base "_law_numbers" 2 ["_law_script", "_law_many_here"] (spNumbers K)) (C_book:Cal P w K mg base "_law_book" 5 ["_law_box"] spBook) (C_right:Cal P w K mg base "_law_right" 6 ["_law_book_here"] spRight) (C_refused:Cal P w K mg base "_law_refused" 5 ["_law_told_by", "_law_handed"] (spRefused P w K mg base a_NoPart a_TwainError a_NoPlace a_Twice a_Linked a_Apart a_NoDeed a_NoText)) (C_state_of:Cal1 P w K mg base "state_of" 3 ["book", "name"] (spStateOf a_NoPart)) (m_range:mg "range" = none) (hNP:NoPartK K a_NoPart a_TwainError a_NoPlace a_Twice a_Linked a_Apart a_NoDeed a_NoText):FnOk P w K mg base CX0 8 f fd ["_law_script"] (spLaw K PT):=by
  refine F.okT hcd scLaw (fun vs H Q E hs=>?_) (fun A outer s H vs Q E hr hs=>?_)
  · obtain ⟨a,ns,rfl,_⟩:=hs
    rfl
  refine hid fun G bk_ => ?_
  obtain ⟨a,ns,rfl,hS,h63,hP,k⟩ := hs
  refine bk_ ?_
  refine ⟨_,(pss_cons (ps_set (i:=1) scLaw.nd rfl (Or.inl rfl) (pe_lst (pa_cons (pe_cal C_numbers hr (by decide) rfl (pa_cons (pv 0) (pa_cons pe_int pa_nil))) (pa_cons pe_int (pa_cons pe_int pa_nil)))))
    (pss_cons (ps_set (i:=2) scLaw.nd rfl (Or.inl rfl) (pe_lst (pa_cons (pe_tup (pa_cons (pe_tup pa_nil) (pa_cons (pe_tup pa_nil) (pa_cons (pe_tup pa_nil) (pa_cons (pe_tup pa_nil) pa_nil))))) (pa_cons (pe_cal C_book hr (by decide) rfl (pa_cons (pv 1) pa_nil)) (pa_cons (pe_cal C_book hr (by decide) rfl (pa_cons (pv 1) pa_nil)) pa_nil)))))
    (pss_cons (ps_set (i:=3) scLaw.nd rfl (Or.inl rfl) (pe_lst (pa_cons pe_str pa_nil)))
    (pss_cons (ps_for PassesOwn.never rfl (pi_list0 (pv 2)) (pg_name (i:=4) scLaw.nd rfl (Or.inl rfl))
      (pss_one (ps_set (i:=3) scLaw.nd rfl (Or.inl rfl) (pe_op op_cat (pv 3) (pe_compL ["_law_script", "_law_box", "_law_books", "_law_names", "_law_book_here", "_law_again", "_law_there", "_law_name"] (defScope sLaw) ["_law_part"] [none] rfl rfl rfl (pi_tup0 (pe_op op_catT2 (pe_ix ix_tup0 (pv 4) pe_int (fun _ _=>rfl)) (pe_ix ix_tup0 (pv 4) pe_int (fun _ _=>rfl)))) rfl (by decide +kernel) (by decide +kernel) (by decide +kernel) (by decide +kernel) (hg:=fun cl C s H ex pn E=>(pg_name (i:=0) (by decide +kernel:(["_law_part"]:List Str).Nodup) rfl (Or.inl rfl))) (ht:=fun cl C s H ex pn E=>pifs_nil) (he:=fun cl C s H ex pn E=>(pe_ix (ix_tup0) (pv 0) pe_int (fun _ _=>rfl))))))))
    (pss_cons (ps_for PassesOwn.never rfl (pi_range1 rfl m_range (pa_cons pe_int pa_nil)) (pg_name (i:=5) scLaw.nd rfl (Or.inl rfl))
      (pss_one (ps_for PassesOwn.never rfl (pi_list0 (pv 2)) (pg_name (i:=4) scLaw.nd rfl (Or.inl rfl))
      (pss_cons (ps_if (pt_not (pt_val (pe_cal C_right hr (by decide) rfl (pa_cons (pv 4) pa_nil))))
      (pss_one (ps_ret pe_bl))
      pss_nil)
    (pss_cons (ps_setC (ix:=6) scLaw.nd rfl rfl ["_law_script", "_law_box", "_law_books", "_law_names", "_law_book_here", "_law_again", "_law_there", "_law_name"] (defScope sLaw) ["_law_part"] [none] rfl rfl rfl (pi_tup0 (pe_op op_catT2 (pe_ix ix_tup0 (pv 4) pe_int (fun _ _=>rfl)) (pe_ix ix_tup0 (pv 4) pe_int (fun _ _=>rfl)))) rfl (by decide +kernel) (by decide +kernel) (by decide +kernel) (by decide +kernel) (hg:=fun cl C s H ex pn E=>(pg_name (i:=0) (by decide +kernel:(["_law_part"]:List Str).Nodup) rfl (Or.inl rfl))) (ht:=fun cl C s H ex pn E=>pifs_nil) (he:=fun cl C s H ex pn E=>(pe_ix (ix_tup0) (pv 0) pe_int (fun _ _=>rfl))))
    (pss_one (ps_for PassesOwn.never rfl (pi_list0 (pv 3)) (pg_name (i:=7) scLaw.nd rfl (Or.inr rfl))
      (pss_one (ps_if (PW.pt (pw_and (pt_cmpR op_notIn_seq (pv 7) (pv 6) (by with_unfolding_all rfl)) (pw_and1 (pt_cmpR op_ne (pe_calF C_refused hr (by decide) rfl (pa_cons (pe_lam TC rfl rfl rfl) (pa_cons (pv 4) pa_nil)) (i:=7) rfl rfl rfl rfl) pe_str (nomark _)))))
      (pss_one (ps_ret pe_bl))
      pss_nil)))))))))
    (pss_one (ps_ret pe_bl))))))),?_⟩
  refine ⟨_,rfl,a,ns,rfl,hS,h63,fun ln nums H1 s1 e1 hn=>⟨smn 3,fun b hb=>?_⟩⟩
  have w1:=same_new hb (.lst [.ref ln,.int 0,.int 0])
  have p2:BoxAt b ln (upd H1 b (.lst [.ref ln,.int 0,.int 0])):=⟨0,nums,upd_same,w1 _ _ e1,(ne_of_none e1 hb).symm,by omega,by omega⟩
  have hP2:=w1 _ _ (s1 _ _ hP)
  generalize upd H1 b (.lst [.ref ln,.int 0,.int 0])=H2 at p2 hP2
  clear w1 hb e1 s1
  refine gN ⟨smn 0,fun z0 h0=>⟨smn 0,fun z1 h1=>⟨smn 0,fun z2 h2=>⟨smn 0,fun z3 h3=>⟨smn 4,fun z4 h4=>?_⟩⟩⟩⟩⟩
  have y0:=same_new h0 (.tup [])
  have y1:=same_new h1 (.tup [])
  have y2:=same_new h2 (.tup [])
  have y3:=same_new h3 (.tup [])
  have y4:=same_new h4 (.tup [.ref z0,.ref z1,.ref z2,.ref z3])
  have yB:=y3.trans y4
  have yC:=y2.trans yB
  have yD:=y1.trans yC
  have yE:=y0.trans yD
  have dz:Den (upd (upd (upd (upd (upd H2 z0 (.tup [])) z1 (.tup [])) z2 (.tup [])) z3 (.tup [])) z4 (.tup [.ref z0,.ref z1,.ref z2,.ref z3])) (.ref z4) (bookD [] [] [] []) :=
    ⟨z4,_,rfl,upd_same,⟨z0,_,rfl,yD _ _ upd_same,trivial⟩,⟨z1,_,rfl,yC _ _ upd_same,trivial⟩,⟨z2,_,rfl,yB _ _ upd_same,trivial⟩,⟨z3,_,rfl,y4 _ _ upd_same,trivial⟩,trivial⟩
  have pz:=p2.same yE
  have hPz:=yE _ _ hP2
  generalize upd (upd (upd (upd (upd H2 z0 (.tup [])) z1 (.tup [])) z2 (.tup [])) z3 (.tup [])) z4 (.tup [.ref z0,.ref z1,.ref z2,.ref z3])=Hz at dz pz hPz
  clear y0 y1 y2 y3 y4 yB yC yD yE h0 h1 h2 h3 h4
  have nPb:PT≠b:=by
    obtain ⟨i,ns',e1,_⟩:=pz
    exact ne_of hPz e1 (by intro z; cases z)
  refine ⟨_,rfl,b,ln,rfl,pz,fun u3 L3 R3 k3 a3 H3 d3 vb3 p3 o3=>?_⟩
  refine ⟨_,rfl,b,ln,rfl,p3,fun u4 L4 R4 k4 a4 H4 d4 vb4 p4 o4=>⟨smn 3,fun lb hlb=>?_⟩⟩
  have hP4:=o4 PT _ (o3 PT _ hPz nPb) nPb
  have y5:=same_new hlb (.lst [.ref z4,u3,u4])
  have hP5:=y5 _ _ hP4
  have bs:VBs (upd H4 lb (.lst [.ref z4,u3,u4])) [.ref z4,u3,u4]:=by
    intro v hv
    simp only [List.mem_cons,List.not_mem_nil,or_false] at hv
    rcases hv with rfl | rfl | rfl
    · exact ⟨[],[],[],[],(Den.keepT (oldB_keep p3 o4) (Den.keepT (oldB_keep pz o3) dz)).same y5,vb_empty⟩
    · exact ⟨L3,R3,k3,a3,(Den.keepT (oldB_keep p3 o4) d3).same y5,vb3⟩
    · exact ⟨L4,R4,k4,a4,d4.same y5,vb4⟩
  have eb:(upd H4 lb (.lst [.ref z4,u3,u4])) lb=some (.lst [.ref z4,u3,u4]):=upd_same
  have bkl:([.ref z4,u3,u4]:List V).length=3:=rfl
  generalize upd H4 lb (.lst [.ref z4,u3,u4])=H5 at bs eb hP5
  generalize ([.ref z4,u3,u4]:List V)=bks at bs eb bkl
  clear y5 hlb d3 d4 dz o3 o4 p2 p3 p4 pz hP4 hPz hP2 vb3 vb4
  refine gN ⟨smn 1,fun l6 hl6=>?_⟩
  have y6:=same_new hl6 (.lst [.str "nosuch"])
  have e6:(upd H5 l6 (.lst [.str "nosuch"])) l6=some (.lst ([nos].map mkT)):=by
    rw [upd_same,nos_eq]
    rfl
  have hP6:=y6 _ _ hP5
  have bs6:=bs.same y6
  have eb6:=y6 _ _ eb
  generalize upd H5 l6 (.lst [V.str "nosuch"])=H6 at e6 hP6 bs6 eb6
  clear y6 hl6 bs eb hP5
  refine gN ⟨_,rfl,lb,rfl,⟨_,SqL.of eb6⟩,?_⟩
  refine for_list (K := K0) (a:=lb) (xs:=bks) (fun i σ H=>∃ (v4:Option V) (l:Addr) (xs:Nms),σ=[some (.ref a),some (.ref b),some (.ref lb),some (.ref l),v4,none,none,none]∧Same H6 H∧H l=some (.lst (xs.map mkT))∧xs.length≤1+18 * i∧∀ x∈xs,x.length≤8) ⟨none,l6,[nos],rfl,Same.refl _,e6,(by simp),fun x hx=>by rw [List.mem_singleton.mp hx]; exact nos_len⟩ ?_ ?_ ?_
  · intro i σ H _ q_ 
    refine hid fun G bk_ => ?_
    obtain ⟨_,_,_,_,s,_⟩ := q_
    refine bk_ ?_
    exact SqL.of (s _ _ eb6)
  · intro i y σ H7 hi q_ 
    refine hid fun G bk_ => ?_
    obtain ⟨v4,l7,xs,rfl,s7,e7,hxl,hx8⟩ := q_
    refine bk_ ?_
    have hym:y∈bks:=List.mem_of_getElem? hi
    have hib:i < bks.length:=(List.getElem?_eq_some_iff.mp hi).1
    refine hid fun G bk_ => ?_
    obtain ⟨L,R,ks,al,d,vb⟩ := (bs6.same s7) y hym
    refine bk_ ?_
    refine hid fun G bk_ => ?_
    obtain ⟨p,pl,pr,pk,pa,ls,rs,ws,rfl,hp,hpl,hdl,hpr,hdr,hpk,hdk,hpa⟩ := den_book d
    refine bk_ ?_
    have at0:atI [V.ref pl,V.ref pr,V.ref pk,V.ref pa] 0=some (.ref pl):=atI_zero _ _
    have at1:atI [V.ref pl,V.ref pr,V.ref pk,V.ref pa] 1=some (.ref pr):=atI_nat (xs:=[V.ref pl,V.ref pr,V.ref pk,V.ref pa]) (j:=1) rfl
    have hl1:=hdl.len
    have hl2:=hdr.len
    rw [List.length_map] at hl1 hl2
    have lL:=vb.lL
    have lR:=vb.lR
    refine gN ⟨_,rfl,_,rfl, ixT (p := p) rfl rfl (SqT.of hp) (at0) (⟨_,rfl, ixT (p := p) rfl rfl (SqT.of hp) (at1) (⟨pl,pr,_,_,rfl,rfl,hpl,hpr,small (by omega),fun q8 H8 s8 e8=>?_⟩)⟩)⟩
    have dA:DenL H8 (ls++rs) ((L++R).map partD):=by
      rw [List.map_append]
      exact denl_app (hdl.same s8) (hdr.same s8)
    have hps:(L++R).length≤18:=by rw [List.length_append]; omega
    refine ⟨q8,rfl,⟨_,SqT.of e8⟩,fun lc hlc=>walk_nms e8 dA (by omega) hlc fun H9 s9 e9=>?_⟩
    have e79:=s9 _ _ (s8 _ _ e7)
    refine ⟨l7,lc,_,_,rfl,rfl,e79,e9,(by rw [List.length_map,List.length_map,List.length_map]; exact small (by omega)),fun l10 hl10=>?_⟩
    have y10:=same_new hl10 (.lst (xs.map mkT++((L++R).map (·.1)).map mkT))
    refine ⟨_,l10,xs++(L++R).map (·.1),rfl,((s7.trans s8).trans s9).trans y10,(by rw [upd_same,← List.map_append]),(by rw [List.length_append,List.length_map]; omega),fun x hx=>?_⟩
    rcases List.mem_append.mp hx with h | h
    · exact hx8 x h
    · obtain ⟨q,hq,rfl⟩:=List.mem_map.mp h
      exact vb.tx q hq
  · intro σ H7 q_ 
    refine hid fun G bk_ => ?_
    obtain ⟨v4,l7,xs,rfl,s7,e7,hxl,hx8⟩ := q_
    refine bk_ ?_
    have hP7:=s7 _ _ hP6
    have bs7:=bs6.same s7
    have eb7:=s7 _ _ eb6
    have T7:TabI PT lamPos lamQ H7:=⟨_,hP7,.inl rfl⟩
    clear s7 bs6 eb6 hP6 e6 hP7
    have nb:=tab_lst T7 eb7
    have nl:=tab_lst T7 e7
    refine ⟨2,rfl,by omega,by omega,?_⟩
    refine for_range (lo:=0) (n:=2) (fun j σ H=>∃ v4 v5 v6 v7:Option V,σ=[some (.ref a),some (.ref b),some (.ref lb),some (.ref l7),v4,v5,v6,v7]∧Wk PT H7 H∧TabI PT lamPos lamQ H) ⟨_,_,_,_,rfl,Wk.refl _ _,T7⟩ ?_ ?_
    · intro j σ H8 hj q_ 
      refine hid fun G bk_ => ?_
      obtain ⟨v4,v5,v6,v7,rfl,s8,T8⟩ := q_
      refine bk_ ?_
      refine gN ⟨_,rfl,lb,rfl,⟨_,SqL.of (s8 _ _ eb7 nb)⟩,?_⟩
      refine for_list (K := K0) (a:=lb) (xs:=bks) (fun i σ H=>∃ v4 v5 v6 v7:Option V,σ=[some (.ref a),some (.ref b),some (.ref lb),some (.ref l7),v4,v5,v6,v7]∧Wk PT H7 H∧TabI PT lamPos lamQ H) ⟨_,_,_,_,rfl,s8,T8⟩ ?_ ?_ ?_
      · intro i σ H _ q_ 
        refine hid fun G bk_ => ?_
        obtain ⟨_,_,_,_,_,s,_⟩ := q_
        refine bk_ ?_
        exact SqL.of (s _ _ eb7 nb)
      · intro i y σ H9 hi q_ 
        refine hid fun G bk_ => ?_
        obtain ⟨v4,v5,v6,v7,rfl,s9,T9⟩ := q_
        refine bk_ ?_
        have hym:y∈bks:=List.mem_of_getElem? hi
        refine hid fun G bk_ => ?_
        obtain ⟨L,R,ks,al,d7,vb⟩ := bs7 y hym
        refine bk_ ?_
        have d:=s9.den T7 d7
        refine gN ⟨_,rfl,y,L,R,ks,al,rfl,d,vb,fun H10 s10=>⟨_,rfl,iteF ?_⟩⟩
        have d10:=d.same s10
        have T10:=T9.same s10
        have w10:=s9.trans (Wk.of s10)
        refine hid fun G bk_ => ?_
        obtain ⟨p,pl,pr,pk,pa,ls,rs,ws,rfl,hp,hpl,hdl,hpr,hdr,hpk,hdk,hpa⟩ := den_book d10
        refine bk_ ?_
        have at0:atI [V.ref pl,V.ref pr,V.ref pk,V.ref pa] 0=some (.ref pl):=atI_zero _ _
        have at1:atI [V.ref pl,V.ref pr,V.ref pk,V.ref pa] 1=some (.ref pr):=atI_nat (xs:=[V.ref pl,V.ref pr,V.ref pk,V.ref pa]) (j:=1) rfl
        have hl1:=hdl.len
        have hl2:=hdr.len
        rw [List.length_map] at hl1 hl2
        have lL:=vb.lL
        have lR:=vb.lR
        refine ⟨_,rfl, ixT (p := p) rfl rfl (SqT.of hp) (at0) (⟨_,rfl, ixT (p := p) rfl rfl (SqT.of hp) (at1) (⟨pl,pr,_,_,rfl,rfl,hpl,hpr,small (by omega),fun q11 H11 s11 e11=>?_⟩)⟩)⟩
        have dA:DenL H11 (ls++rs) ((L++R).map partD):=by
          rw [List.map_append]
          exact denl_app (hdl.same s11) (hdr.same s11)
        have hps:(L++R).length≤18:=by rw [List.length_append]; omega
        refine ⟨q11,rfl,⟨_,SqT.of e11⟩,fun lt hlt=>walk_nms e11 dA (by omega) hlt fun H12 s12 e12=>?_⟩
        have s1012:=s11.trans s12
        have d12:=d10.same s1012
        have T12:=T10.same s1012
        have w12:=w10.trans (Wk.of s1012)
        have e7':=w12 _ _ e7 nl
        have nl':=tab_lst T12 e7'
        have nt:=tab_lst T12 e12
        refine gN ⟨_,rfl,l7,rfl,⟨_,SqL.of e7'⟩,?_⟩
        refine for_list (K := K0) (a:=l7) (xs:=xs.map mkT) (fun i σ H=>∃ v7:Option V,σ=[some (.ref a),some (.ref b),some (.ref lb),some (.ref l7),some (.ref p),v5,some (.ref lt),v7]∧Wk PT H12 H∧TabI PT lamPos lamQ H) ⟨_,rfl,Wk.refl _ _,T12⟩ ?_ ?_ ?_
        · rintro i σ H _ ⟨_,_,s,_⟩
          exact SqL.of (s _ _ e7' nl')
        · rintro i y σ H13 hi2 ⟨v7,rfl,s13,T13⟩
          have hi':i < xs.length:=by
            have:=(List.getElem?_eq_some_iff.mp hi2).1
            rwa [List.length_map] at this
          rw [List.getElem?_map,List.getElem?_eq_getElem hi'] at hi2
          have ey:mkT xs[i]=y:=Option.some.inj hi2
          have hx:xs[i].length≤8:=hx8 _ (List.getElem_mem hi')
          generalize xs[i]=x at ey hx
          subst ey
          refine gN ⟨_,rfl,_,rfl,lt,_,rfl,.inl (SqL.of (s13 _ _ e12 nt)),rfl,flat_nms _,_,rfl,?_⟩
          rw [show (if true=true then !inV (mkT x) (((L++R).map (·.1)).map mkT) else inV (mkT x) (((L++R).map (·.1)).map mkT))=!inV (mkT x) (((L++R).map (·.1)).map mkT) from rfl,in_nms]
          refine ite2 (fun z=>?_) (fun z=>iteF ⟨_,rfl,s13,T13⟩)
          have hnx:x ∉ (L++R).map (·.1):=by simpa using z
          have hno:=no_part hnx
          have d13:=s13.den T12 d12
          refine ⟨T13,fun f c' pm ctv H14 hf hold hT14 hfo hco=>⟨_,rfl,_,rfl,fun hc o u hd hu=>?_⟩⟩
          have w14:Wk PT H13 H14:=hold
          have d14:=w14.den T13 d13
          refine' ⟨hNP,f,4,["_law_one"],_,_,_,rfl,?F,?B,by decide,(upd_ne (ne_of_none hfo hc)).trans hfo,?T,?W⟩
          case F =>
            refine lam_fn (k:=3) (sp:=fun x v H Q E=>spStateOf a_NoPart [x,v] H Q (outX E)) ?_ ?_ ?_ ?_ ?_ ?_ ?_ ?_
            · rfl
            · rfl
            · rfl
            · decide +kernel
            · rfl
            · rfl
            · decide +kernel
            · intro A' outer' s' H' x' v' Q' E' hr' hsp
              exact ⟨_,pe_cal1 C_state_of hr' (by decide) rfl passesL (pa_cons (pv 0) (pa_cons (pv 1) pa_nil)),_,rfl,_,rfl,hsp⟩
          case B=>exact .all fun us hl=>match us,hl with | [_],_=>rfl
          case T =>
            intro Q' E' th
            refine ⟨_,_,o,u,rfl,(upd_ne (ne_of_none hfo hc)).trans hfo,(upd_ne (ne_of_none hco hc)).trans hco,upd_same,hd,hu,?_⟩
            rw [del_upd hc]
            exact ⟨_,L,R,ks,al,x,rfl,d14,vb,by omega,(fun p hp=>by rw [hno] at hp; cases hp),fun _=>(th.fz hc).out⟩
          case W =>
            intro H15 s15 e15
            have s14:=same_del hc s15
            refine ⟨rfl,_,rfl,?_⟩
            rw [decide_eq_true rfl]
            exact iteF ⟨_,rfl,(s13.trans w14).trans (Wk.of s14),hT14.same s14⟩
        · rintro σ H13 ⟨v7,rfl,s13,T13⟩
          exact ⟨_,_,_,_,rfl,w12.trans s13,T13⟩
      · intro σ H9 q_ 
        refine hid fun G bk_ => ?_
        obtain ⟨v4,v5,v6,v7,rfl,s9,T9⟩ := q_
        refine bk_ ?_
        exact ⟨_,_,_,_,rfl,s9,T9⟩
    · intro σ H8 q_ 
      refine hid fun G bk_ => ?_
      obtain ⟨v4,v5,v6,v7,rfl,s8,T8⟩ := q_
      refine bk_ ?_
      exact k H8
end
theorem all_mk {l:PySem.W.OpenLaw} {w:World} {K:PySem.W.Frag} {h:Heap} {mg:Str→Option Value} {fa f1 f2 f3 f4 f5 f6 f7 f8 f9 f10 f11 f12 f13 f14 f15 f16 f17 f18 f19 f20 f21 f22:Addr} (X:K.In h) (G:h.Ns mainGlobals mg) (hfa:mg "law" = some (.ref fa))
    {od1 an1 od2 an2 od3 an3 od4 an4 od5 an5 od6 an6 od7 an7 od8 an8 od9 an9 od10 an10 od11 an11 od12 an12 od13 an13 od14 an14 od15 an15 od16 an16 od17 an17 od18 an18 od19 an19 od20 an20 od21 an21 od22 an22:Option Addr} {sl1 sl2 sl3 sl4 sl5 sl6 sl7 sl8 sl9 sl10 sl11 sl12 sl13 sl14 sl15 sl16 sl17 sl18 sl19 sl20 sl21 sl22:Array (Option Value)} {oc1 kV1 dc1 pm1 cd1 ct1 oc2 kV2 dc2 pm2 cd2 ct2 oc3 kV3 dc3 pm3 cd3 ct3 oc4 kV4 dc4 pm4 cd4 ct4 oc5 kV5 dc5 pm5 cd5 ct5 oc6 kV6 dc6 pm6 cd6 ct6 oc7 kV7 dc7 pm7 cd7 ct7 oc8 kV8 dc8 pm8 cd8 ct8 oc9 kV9 dc9 pm9 cd9 ct9 oc10 kV10 dc10 pm10 cd10 ct10 oc11 kV11 dc11 pm11 cd11 ct11 oc12 kV12 dc12 pm12 cd12 ct12 oc13 kV13 dc13 pm13 cd13 ct13 oc14 kV14 dc14 pm14 cd14 ct14 oc15 kV15 dc15 pm15 cd15 ct15 oc16 kV16 dc16 pm16 cd16 ct16 oc17 kV17 dc17 pm17 cd17 ct17 oc18 kV18 dc18 pm18 cd18 ct18 oc19 kV19 dc19 pm19 cd19 ct19 oc20 kV20 dc20 pm20 cd20 ct20 oc21 kV21 dc21 pm21 cd21 ct21 oc22 kV22 dc22 pm22 cd22 ct22:Value}
    (a1:PySem.W.nsIn K mainGlobals "part_of" = some (some (.ref f1))) (l1:K.lookup f1=some ⟨oc1,od1,.func (PySem.W.fnOf "part_of" "part_of" (defArgs sPartOf) (defBody sPartOf) (defScope sPartOf) .none kV1 dc1 pm1 an1 cd1 ct1),sl1⟩) (c1:PySem.W.codeIn K cd1 "part_of" = true) (k1:PySem.W.keepIn K (.ref f1)=true)
    (a2:PySem.W.nsIn K mainGlobals "state_in_link" = some (some (.ref f2))) (l2:K.lookup f2=some ⟨oc2,od2,.func (PySem.W.fnOf "state_in_link" "state_in_link" (defArgs sStateInLink) (defBody sStateInLink) (defScope sStateInLink) .none kV2 dc2 pm2 an2 cd2 ct2),sl2⟩) (c2:PySem.W.codeIn K cd2 "state_in_link" = true) (k2:PySem.W.keepIn K (.ref f2)=true)
    (a3:PySem.W.nsIn K mainGlobals "states_by_name" = some (some (.ref f3))) (l3:K.lookup f3=some ⟨oc3,od3,.func (PySem.W.fnOf "states_by_name" "states_by_name" (defArgs sStatesByName) (defBody sStatesByName) (defScope sStatesByName) .none kV3 dc3 pm3 an3 cd3 ct3),sl3⟩) (c3:PySem.W.codeIn K cd3 "states_by_name" = true) (k3:PySem.W.keepIn K (.ref f3)=true)
    (a4:PySem.W.nsIn K mainGlobals "state_of" = some (some (.ref f4))) (l4:K.lookup f4=some ⟨oc4,od4,.func (PySem.W.fnOf "state_of" "state_of" (defArgs sStateOf) (defBody sStateOf) (defScope sStateOf) .none kV4 dc4 pm4 an4 cd4 ct4),sl4⟩) (c4:PySem.W.codeIn K cd4 "state_of" = true) (k4:PySem.W.keepIn K (.ref f4)=true)
    (a5:PySem.W.nsIn K mainGlobals "states" = some (some (.ref f5))) (l5:K.lookup f5=some ⟨oc5,od5,.func (PySem.W.fnOf "states" "states" (defArgs sStates) (defBody sStates) (defScope sStates) .none kV5 dc5 pm5 an5 cd5 ct5),sl5⟩) (c5:PySem.W.codeIn K cd5 "states" = true) (k5:PySem.W.keepIn K (.ref f5)=true)
    (a6:PySem.W.nsIn K mainGlobals "_law_mixed" = some (some (.ref f6))) (l6:K.lookup f6=some ⟨oc6,od6,.func (PySem.W.fnOf "_law_mixed" "_law_mixed" (defArgs sMixed) (defBody sMixed) (defScope sMixed) .none kV6 dc6 pm6 an6 cd6 ct6),sl6⟩) (c6:PySem.W.codeIn K cd6 "_law_mixed" = true) (k6:PySem.W.keepIn K (.ref f6)=true)
    (a7:PySem.W.nsIn K mainGlobals "_law_numbers" = some (some (.ref f7))) (l7:K.lookup f7=some ⟨oc7,od7,.func (PySem.W.fnOf "_law_numbers" "_law_numbers" (defArgs sNumbers) (defBody sNumbers) (defScope sNumbers) .none kV7 dc7 pm7 an7 cd7 ct7),sl7⟩) (c7:PySem.W.codeIn K cd7 "_law_numbers" = true) (k7:PySem.W.keepIn K (.ref f7)=true)
    (a8:PySem.W.nsIn K mainGlobals "_law_next" = some (some (.ref f8))) (l8:K.lookup f8=some ⟨oc8,od8,.func (PySem.W.fnOf "_law_next" "_law_next" (defArgs sNext) (defBody sNext) (defScope sNext) .none kV8 dc8 pm8 an8 cd8 ct8),sl8⟩) (c8:PySem.W.codeIn K cd8 "_law_next" = true) (k8:PySem.W.keepIn K (.ref f8)=true)
    (a9:PySem.W.nsIn K mainGlobals "_law_pool" = some (some (.ref f9))) (l9:K.lookup f9=some ⟨oc9,od9,.func (PySem.W.fnOf "_law_pool" "_law_pool" (defArgs sPool) (defBody sPool) (defScope sPool) .none kV9 dc9 pm9 an9 cd9 ct9),sl9⟩) (c9:PySem.W.codeIn K cd9 "_law_pool" = true) (k9:PySem.W.keepIn K (.ref f9)=true)
    (a10:PySem.W.nsIn K mainGlobals "_law_moment" = some (some (.ref f10))) (l10:K.lookup f10=some ⟨oc10,od10,.func (PySem.W.fnOf "_law_moment" "_law_moment" (defArgs sMoment) (defBody sMoment) (defScope sMoment) .none kV10 dc10 pm10 an10 cd10 ct10),sl10⟩) (c10:PySem.W.codeIn K cd10 "_law_moment" = true) (k10:PySem.W.keepIn K (.ref f10)=true)
    (a11:PySem.W.nsIn K mainGlobals "_law_moments" = some (some (.ref f11))) (l11:K.lookup f11=some ⟨oc11,od11,.func (PySem.W.fnOf "_law_moments" "_law_moments" (defArgs sMoments) (defBody sMoments) (defScope sMoments) .none kV11 dc11 pm11 an11 cd11 ct11),sl11⟩) (c11:PySem.W.codeIn K cd11 "_law_moments" = true) (k11:PySem.W.keepIn K (.ref f11)=true)
    (a12:PySem.W.nsIn K mainGlobals "_law_text" = some (some (.ref f12))) (l12:K.lookup f12=some ⟨oc12,od12,.func (PySem.W.fnOf "_law_text" "_law_text" (defArgs sText) (defBody sText) (defScope sText) .none kV12 dc12 pm12 an12 cd12 ct12),sl12⟩) (c12:PySem.W.codeIn K cd12 "_law_text" = true) (k12:PySem.W.keepIn K (.ref f12)=true)
    (a13:PySem.W.nsIn K mainGlobals "_law_many" = some (some (.ref f13))) (l13:K.lookup f13=some ⟨oc13,od13,.func (PySem.W.fnOf "_law_many" "_law_many" (defArgs sMany) (defBody sMany) (defScope sMany) .none kV13 dc13 pm13 an13 cd13 ct13),sl13⟩) (c13:PySem.W.codeIn K cd13 "_law_many" = true) (k13:PySem.W.keepIn K (.ref f13)=true)
    (a14:PySem.W.nsIn K mainGlobals "_law_parts" = some (some (.ref f14))) (l14:K.lookup f14=some ⟨oc14,od14,.func (PySem.W.fnOf "_law_parts" "_law_parts" (defArgs sParts) (defBody sParts) (defScope sParts) .none kV14 dc14 pm14 an14 cd14 ct14),sl14⟩) (c14:PySem.W.codeIn K cd14 "_law_parts" = true) (k14:PySem.W.keepIn K (.ref f14)=true)
    (a15:PySem.W.nsIn K mainGlobals "_law_book" = some (some (.ref f15))) (l15:K.lookup f15=some ⟨oc15,od15,.func (PySem.W.fnOf "_law_book" "_law_book" (defArgs sBook) (defBody sBook) (defScope sBook) .none kV15 dc15 pm15 an15 cd15 ct15),sl15⟩) (c15:PySem.W.codeIn K cd15 "_law_book" = true) (k15:PySem.W.keepIn K (.ref f15)=true)
    (a16:PySem.W.nsIn K mainGlobals "_law_same" = some (some (.ref f16))) (l16:K.lookup f16=some ⟨oc16,od16,.func (PySem.W.fnOf "_law_same" "_law_same" (defArgs sSame) (defBody sSame) (defScope sSame) .none kV16 dc16 pm16 an16 cd16 ct16),sl16⟩) (c16:PySem.W.codeIn K cd16 "_law_same" = true) (k16:PySem.W.keepIn K (.ref f16)=true)
    (a17:PySem.W.nsIn K mainGlobals "_law_standing" = some (some (.ref f17))) (l17:K.lookup f17=some ⟨oc17,od17,.func (PySem.W.fnOf "_law_standing" "_law_standing" (defArgs sStanding) (defBody sStanding) (defScope sStanding) .none kV17 dc17 pm17 an17 cd17 ct17),sl17⟩) (c17:PySem.W.codeIn K cd17 "_law_standing" = true) (k17:PySem.W.keepIn K (.ref f17)=true)
    (a18:PySem.W.nsIn K mainGlobals "_law_standings" = some (some (.ref f18))) (l18:K.lookup f18=some ⟨oc18,od18,.func (PySem.W.fnOf "_law_standings" "_law_standings" (defArgs sStandings) (defBody sStandings) (defScope sStandings) .none kV18 dc18 pm18 an18 cd18 ct18),sl18⟩) (c18:PySem.W.codeIn K cd18 "_law_standings" = true) (k18:PySem.W.keepIn K (.ref f18)=true)
    (a19:PySem.W.nsIn K mainGlobals "_law_refusal" = some (some (.ref f19))) (l19:K.lookup f19=some ⟨oc19,od19,.func (PySem.W.fnOf "_law_refusal" "_law_refusal" (defArgs sRefusal) (defBody sRefusal) (defScope sRefusal) .none kV19 dc19 pm19 an19 cd19 ct19),sl19⟩) (c19:PySem.W.codeIn K cd19 "_law_refusal" = true) (k19:PySem.W.keepIn K (.ref f19)=true)
    (a20:PySem.W.nsIn K mainGlobals "_law_refused" = some (some (.ref f20))) (l20:K.lookup f20=some ⟨oc20,od20,.func (PySem.W.fnOf "_law_refused" "_law_refused" (defArgs sRefused) (defBody sRefused) (defScope sRefused) .none kV20 dc20 pm20 an20 cd20 ct20),sl20⟩) (c20:PySem.W.codeIn K cd20 "_law_refused" = true) (k20:PySem.W.keepIn K (.ref f20)=true)
    (a21:PySem.W.nsIn K mainGlobals "_law_right" = some (some (.ref f21))) (l21:K.lookup f21=some ⟨oc21,od21,.func (PySem.W.fnOf "_law_right" "_law_right" (defArgs sRight) (defBody sRight) (defScope sRight) .none kV21 dc21 pm21 an21 cd21 ct21),sl21⟩) (c21:PySem.W.codeIn K cd21 "_law_right" = true) (k21:PySem.W.keepIn K (.ref f21)=true)
    (a22:PySem.W.nsIn K mainGlobals "law" = some (some (.ref f22))) (l22:K.lookup f22=some ⟨oc22,od22,.func (PySem.W.fnOf "law" "law" (defArgs sLaw) (defBody sLaw) (defScope sLaw) .none kV22 dc22 pm22 an22 cd22 ct22),sl22⟩) (c22:PySem.W.codeIn K cd22 "law" = true) (k22:PySem.W.keepIn K (.ref f22)=true)
    {a_NoPart a_TwainError a_Linked a_Twice a_NoPlace a_NoText a_NoDeed a_Apart:Addr} (p_NoPart:PySem.W.nsIn K mainGlobals "NoPart" = some (some (.ref a_NoPart))) (p_TwainError:PySem.W.nsIn K mainGlobals "TwainError" = some (some (.ref a_TwainError))) (p_Linked:PySem.W.nsIn K mainGlobals "Linked" = some (some (.ref a_Linked))) (p_Twice:PySem.W.nsIn K mainGlobals "Twice" = some (some (.ref a_Twice))) (p_NoPlace:PySem.W.nsIn K mainGlobals "NoPlace" = some (some (.ref a_NoPlace))) (p_NoText:PySem.W.nsIn K mainGlobals "NoText" = some (some (.ref a_NoText))) (p_NoDeed:PySem.W.nsIn K mainGlobals "NoDeed" = some (some (.ref a_NoDeed))) (p_Apart:PySem.W.nsIn K mainGlobals "Apart" = some (some (.ref a_Apart))) (x_NoPart:PySem.W.excIn K a_NoPart vBm "ValueError.__new__" = true) (x_TwainError:PySem.W.excIn K a_TwainError vBm "ValueError.__new__" = true) (g1:PySem.W.findIn K (.ref a_NoPart) "__getattribute__" = some (some (.builtin "BaseException.__getattribute__"))) (g2:PySem.W.findIn K (.ref a_NoPart) "__getattr__" = some none) (g3:PySem.W.findIn K (.ref a_NoPart) "__class__" = some (some (.builtin "object.__class__"))) (g4:PySem.W.subIn K (.ref a_NoPart) (.type "BaseException")=some true) (g5:PySem.W.mroIn K a_NoPart (.type "object")=some true) (g6:PySem.W.isClsIn K a_NoPart=true) (u1:PySem.W.subIn K (.ref a_NoPart) (.ref a_TwainError)=some true) (u2:PySem.W.isIn K (.ref a_NoPart) a_NoPart=true) (u3:PySem.W.subIn K (.ref a_NoPart) (.type "ValueError")=some true) (n1_NoPlace:a_NoPart≠a_NoPlace) (n2_NoPlace:PySem.W.isClsIn K a_NoPlace=true) (n3_NoPlace:PySem.W.typeIn K (.ref a_NoPlace)=some (.type "type")) (n4_NoPlace:PySem.W.subIn K (.ref a_NoPart) (.ref a_NoPlace)=some false) (n1_Twice:a_NoPart≠a_Twice) (n2_Twice:PySem.W.isClsIn K a_Twice=true) (n3_Twice:PySem.W.typeIn K (.ref a_Twice)=some (.type "type")) (n4_Twice:PySem.W.subIn K (.ref a_NoPart) (.ref a_Twice)=some false) (n1_Linked:a_NoPart≠a_Linked) (n2_Linked:PySem.W.isClsIn K a_Linked=true) (n3_Linked:PySem.W.typeIn K (.ref a_Linked)=some (.type "type")) (n4_Linked:PySem.W.subIn K (.ref a_NoPart) (.ref a_Linked)=some false) (n1_Apart:a_NoPart≠a_Apart) (n2_Apart:PySem.W.isClsIn K a_Apart=true) (n3_Apart:PySem.W.typeIn K (.ref a_Apart)=some (.type "type")) (n4_Apart:PySem.W.subIn K (.ref a_NoPart) (.ref a_Apart)=some false) (n1_NoDeed:a_NoPart≠a_NoDeed) (n2_NoDeed:PySem.W.isClsIn K a_NoDeed=true) (n3_NoDeed:PySem.W.typeIn K (.ref a_NoDeed)=some (.type "type")) (n4_NoDeed:PySem.W.subIn K (.ref a_NoPart) (.ref a_NoDeed)=some false) (n1_NoText:a_NoPart≠a_NoText) (n2_NoText:PySem.W.isClsIn K a_NoText=true) (n3_NoText:PySem.W.typeIn K (.ref a_NoText)=some (.type "type")) (n4_NoText:PySem.W.subIn K (.ref a_NoPart) (.ref a_NoText)=some false)
    {c PT:Addr} {ocC:Value} {odC:Option Addr} {vsC:Array Value} {slC:Array (Option Value)} (eqc:cd22=.ref c) (lc:K.lookup c=some ⟨ocC,odC,.fields vsC,slC⟩) (pc:vsC[11]?=some (.ref PT)) (hno:PySem.W.noTabs K=true)
    (z_len:PySem.W.nsIn K mainGlobals "len" = some none) (z_int:PySem.W.nsIn K mainGlobals "int" = some none) (z_range:PySem.W.nsIn K mainGlobals "range" = some none) (z_isinstance:PySem.W.nsIn K mainGlobals "isinstance" = some none) (z_tuple:PySem.W.nsIn K mainGlobals "tuple" = some none) (z_bool:PySem.W.nsIn K mainGlobals "bool" = some none) (z_str:PySem.W.nsIn K mainGlobals "str" = some none) (z_all:PySem.W.nsIn K mainGlobals "all" = some none) (z_zip:PySem.W.nsIn K mainGlobals "zip" = some none) (z_dict:PySem.W.nsIn K mainGlobals "dict" = some none) (z_list:PySem.W.nsIn K mainGlobals "list" = some none) (z_sorted:PySem.W.nsIn K mainGlobals "sorted" = some none) (z_min:PySem.W.nsIn K mainGlobals "min" = some none) (z_sum:PySem.W.nsIn K mainGlobals "sum" = some none) (z_enumerate:PySem.W.nsIn K mainGlobals "enumerate" = some none) (z_ValueError:PySem.W.nsIn K mainGlobals "ValueError" = some none) :
    ∃ (fd:FuncData) (c PT:Addr),PySem.W.tabIn K "law" = some (c,PT)∧PySem.W.noTabs K=true∧(∀ (s:Shared) (v:Value),BindsTo s fd ⟨[v],[]⟩ [("_law_script",v)])∧∀ base:Heap,K.In base→base.Ns mainGlobals mg→TabCx mg base c PT→FnOk l.prog w K mg base CX0 8 fa fd ["_law_script"] (spLaw K PT):=by
  have e:=hfa.symm.trans (PySem.W.mg_of X G a22)
  cases e
  have F1:=fun_mk (st:=sPartOf) l1 c1 k1
  have h_part_of:Has K mg "part_of" sPartOf ["book", "name"]:=⟨_,_,F1,F1.binds fun _ _ _ _ _ _ us hl=>len2 us hl fun _ _ => rfl,PySem.W.mg_of X G a1⟩
  have F2:=fun_mk (st:=sStateInLink) l2 c2 k2
  have h_state_in_link:Has K mg "state_in_link" sStateInLink ["link", "side", "moments"]:=⟨_,_,F2,F2.binds fun _ _ _ _ _ _ us hl=>len3 us hl fun _ _ _ => rfl,PySem.W.mg_of X G a2⟩
  have F3:=fun_mk (st:=sStatesByName) l3 c3 k3
  have h_states_by_name:Has K mg "states_by_name" sStatesByName ["book"]:=⟨_,_,F3,F3.binds fun _ _ _ _ _ _ us hl=>len1 us hl fun _ => rfl,PySem.W.mg_of X G a3⟩
  have F4:=fun_mk (st:=sStateOf) l4 c4 k4
  have h_state_of:Has K mg "state_of" sStateOf ["book", "name"]:=⟨_,_,F4,F4.binds fun _ _ _ _ _ _ us hl=>len2 us hl fun _ _ => rfl,PySem.W.mg_of X G a4⟩
  have F5:=fun_mk (st:=sStates) l5 c5 k5
  have h_states:Has K mg "states" sStates ["book"]:=⟨_,_,F5,F5.binds fun _ _ _ _ _ _ us hl=>len1 us hl fun _ => rfl,PySem.W.mg_of X G a5⟩
  have F6:=fun_mk (st:=sMixed) l6 c6 k6
  have h_mixed:Has K mg "_law_mixed" sMixed ["_law_cell", "_law_many_here"]:=⟨_,_,F6,F6.binds fun _ _ _ _ _ _ us hl=>len2 us hl fun _ _ => rfl,PySem.W.mg_of X G a6⟩
  have F7:=fun_mk (st:=sNumbers) l7 c7 k7
  have h_numbers:Has K mg "_law_numbers" sNumbers ["_law_script", "_law_many_here"]:=⟨_,_,F7,F7.binds fun _ _ _ _ _ _ us hl=>len2 us hl fun _ _ => rfl,PySem.W.mg_of X G a7⟩
  have F8:=fun_mk (st:=sNext) l8 c8 k8
  have h_next:Has K mg "_law_next" sNext ["_law_box"]:=⟨_,_,F8,F8.binds fun _ _ _ _ _ _ us hl=>len1 us hl fun _ => rfl,PySem.W.mg_of X G a8⟩
  have F9:=fun_mk (st:=sPool) l9 c9 k9
  have h_pool:Has K mg "_law_pool" sPool ["_law_x"]:=⟨_,_,F9,F9.binds fun _ _ _ _ _ _ us hl=>len1 us hl fun _ => rfl,PySem.W.mg_of X G a9⟩
  have F10:=fun_mk (st:=sMoment) l10 c10 k10
  have h_moment:Has K mg "_law_moment" sMoment ["_law_box"]:=⟨_,_,F10,F10.binds fun _ _ _ _ _ _ us hl=>len1 us hl fun _ => rfl,PySem.W.mg_of X G a10⟩
  have F11:=fun_mk (st:=sMoments) l11 c11 k11
  have h_moments:Has K mg "_law_moments" sMoments ["_law_box", "_law_least"]:=⟨_,_,F11,F11.binds fun _ _ _ _ _ _ us hl=>len2 us hl fun _ _ => rfl,PySem.W.mg_of X G a11⟩
  have F12:=fun_mk (st:=sText) l12 c12 k12
  have h_text:Has K mg "_law_text" sText ["_law_box"]:=⟨_,_,F12,F12.binds fun _ _ _ _ _ _ us hl=>len1 us hl fun _ => rfl,PySem.W.mg_of X G a12⟩
  have F13:=fun_mk (st:=sMany) l13 c13 k13
  have h_many:Has K mg "_law_many" sMany ["_law_box"]:=⟨_,_,F13,F13.binds fun _ _ _ _ _ _ us hl=>len1 us hl fun _ => rfl,PySem.W.mg_of X G a13⟩
  have F14:=fun_mk (st:=sParts) l14 c14 k14
  have h_parts:Has K mg "_law_parts" sParts ["_law_box", "_law_names", "_law_many_here"]:=⟨_,_,F14,F14.binds fun _ _ _ _ _ _ us hl=>len3 us hl fun _ _ _ => rfl,PySem.W.mg_of X G a14⟩
  have F15:=fun_mk (st:=sBook) l15 c15 k15
  have h_book:Has K mg "_law_book" sBook ["_law_box"]:=⟨_,_,F15,F15.binds fun _ _ _ _ _ _ us hl=>len1 us hl fun _ => rfl,PySem.W.mg_of X G a15⟩
  have F16:=fun_mk (st:=sSame) l16 c16 k16
  have h_same:Has K mg "_law_same" sSame ["_law_found", "_law_due"]:=⟨_,_,F16,F16.binds fun _ _ _ _ _ _ us hl=>len2 us hl fun _ _ => rfl,PySem.W.mg_of X G a16⟩
  have F17:=fun_mk (st:=sStanding) l17 c17 k17
  have h_standing:Has K mg "_law_standing" sStanding ["_law_book_here", "_law_name"]:=⟨_,_,F17,F17.binds fun _ _ _ _ _ _ us hl=>len2 us hl fun _ _ => rfl,PySem.W.mg_of X G a17⟩
  have F18:=fun_mk (st:=sStandings) l18 c18 k18
  have h_standings:Has K mg "_law_standings" sStandings ["_law_book_here"]:=⟨_,_,F18,F18.binds fun _ _ _ _ _ _ us hl=>len1 us hl fun _ => rfl,PySem.W.mg_of X G a18⟩
  have F19:=fun_mk (st:=sRefusal) l19 c19 k19
  have h_refusal:Has K mg "_law_refusal" sRefusal ["_law_e"]:=⟨_,_,F19,F19.binds fun _ _ _ _ _ _ us hl=>len1 us hl fun _ => rfl,PySem.W.mg_of X G a19⟩
  have F20:=fun_mk (st:=sRefused) l20 c20 k20
  have h_refused:Has K mg "_law_refused" sRefused ["_law_told_by", "_law_handed"]:=⟨_,_,F20,F20.binds fun _ _ _ _ _ _ us hl=>len2 us hl fun _ _ => rfl,PySem.W.mg_of X G a20⟩
  have F21:=fun_mk (st:=sRight) l21 c21 k21
  have h_right:Has K mg "_law_right" sRight ["_law_book_here"]:=⟨_,_,F21,F21.binds fun _ _ _ _ _ _ us hl=>len1 us hl fun _ => rfl,PySem.W.mg_of X G a21⟩
  have F22:=fun_mk (st:=sLaw) l22 c22 k22
  have m_len:=PySem.W.mg_none_of X G z_len
  have m_int:=PySem.W.mg_none_of X G z_int
  have m_range:=PySem.W.mg_none_of X G z_range
  have m_isinstance:=PySem.W.mg_none_of X G z_isinstance
  have m_tuple:=PySem.W.mg_none_of X G z_tuple
  have m_bool:=PySem.W.mg_none_of X G z_bool
  have m_str:=PySem.W.mg_none_of X G z_str
  have m_all:=PySem.W.mg_none_of X G z_all
  have m_zip:=PySem.W.mg_none_of X G z_zip
  have m_dict:=PySem.W.mg_none_of X G z_dict
  have m_list:=PySem.W.mg_none_of X G z_list
  have m_sorted:=PySem.W.mg_none_of X G z_sorted
  have m_min:=PySem.W.mg_none_of X G z_min
  have m_sum:=PySem.W.mg_none_of X G z_sum
  have m_enumerate:=PySem.W.mg_none_of X G z_enumerate
  have m_ValueError:=PySem.W.mg_none_of X G z_ValueError
  have q_NoPart:=PySem.W.mg_of X G p_NoPart
  have q_TwainError:=PySem.W.mg_of X G p_TwainError
  have q_Linked:=PySem.W.mg_of X G p_Linked
  have q_Twice:=PySem.W.mg_of X G p_Twice
  have q_NoPlace:=PySem.W.mg_of X G p_NoPlace
  have q_NoText:=PySem.W.mg_of X G p_NoText
  have q_NoDeed:=PySem.W.mg_of X G p_NoDeed
  have q_Apart:=PySem.W.mg_of X G p_Apart
  have hNP:NoPartK K a_NoPart a_TwainError a_NoPlace a_Twice a_Linked a_Apart a_NoDeed a_NoText:=⟨⟨g1,g2,g3,g4,g5,g6⟩,u1,u2,u3,kin_not_of n1_NoPlace n2_NoPlace n3_NoPlace n4_NoPlace,kin_not_of n1_Twice n2_Twice n3_Twice n4_Twice,kin_not_of n1_Linked n2_Linked n3_Linked n4_Linked,kin_not_of n1_Apart n2_Apart n3_Apart n4_Apart,kin_not_of n1_NoDeed n2_NoDeed n3_NoDeed n4_NoDeed,kin_not_of n1_NoText n2_NoText n3_NoText n4_NoText⟩
  refine ⟨PySem.W.fnOf "law" "law" (defArgs sLaw) (defBody sLaw) (defScope sLaw) .none kV22 dc22 pm22 an22 cd22 ct22,c,PT,tab_mk a22 l22 eqc lc pc,hno,fun s v=>.of_eq rfl,fun base _ _ TC=>?_⟩
  have C_same:=c_same (P:=l.prog) (w:=w) (base:=base) h_same m_isinstance m_tuple m_len m_all m_zip m_str m_bool m_int 5
  have C_state_in_link:=c_state_in_link (P:=l.prog) (w:=w) (base:=base) h_state_in_link m_list m_min
  have C_states_by_name:=c_states_by_name (P:=l.prog) (w:=w) (base:=base) h_states_by_name C_state_in_link m_dict
  have C_states:=c_states (P:=l.prog) (w:=w) (base:=base) h_states C_states_by_name m_tuple
  have C_standing:=c_standing (P:=l.prog) (w:=w) (base:=base) h_standing m_int m_list m_sorted
  have C_standings:=c_standings (P:=l.prog) (w:=w) (base:=base) h_standings C_standing m_tuple
  have C_mixed:=c_mixed (P:=l.prog) (w:=w) (base:=base) h_mixed m_range
  have C_numbers:=c_numbers (P:=l.prog) (w:=w) (base:=base) h_numbers C_mixed m_range m_len m_sum
  have C_next:=c_next (P:=l.prog) (w:=w) (base:=base) h_next m_len
  have C_pool:=c_pool (P:=l.prog) (w:=w) (base:=base) h_pool m_list
  have C_moment:=c_moment (P:=l.prog) (w:=w) (base:=base) h_moment C_next
  have C_moments:=c_moments (P:=l.prog) (w:=w) (base:=base) h_moments C_next C_moment m_range m_tuple m_sorted
  have C_text:=c_text (P:=l.prog) (w:=w) (base:=base) h_text C_next m_range
  have C_many:=c_many (P:=l.prog) (w:=w) (base:=base) h_many C_next m_int
  have C_parts:=c_parts (P:=l.prog) (w:=w) (base:=base) h_parts C_moments C_text m_tuple m_range
  have C_book:=c_book (P:=l.prog) (w:=w) (base:=base) h_book C_pool C_next C_parts C_many C_moment C_moments m_enumerate m_range m_tuple m_sorted
  have C_part_of:=c_part_of (P:=l.prog) (w:=w) (base:=base) h_part_of q_NoPart x_NoPart
  have C_state_of:=c_state_of (P:=l.prog) (w:=w) (base:=base) h_state_of C_part_of C_states_by_name
  have C_refusal:=c_refusal (P:=l.prog) (w:=w) (base:=base) h_refusal q_Linked q_Twice q_NoPlace q_NoPart q_NoText q_NoDeed q_Apart m_isinstance m_ValueError (a_TwainError:=a_TwainError)
  have C_refused:=c_refused (P:=l.prog) (w:=w) (base:=base) h_refused q_TwainError x_TwainError C_refusal
  have C_right:=c_right (P:=l.prog) (w:=w) (base:=base) h_right C_standings C_same C_states C_state_of m_all
  exact ok_law F22 eqc TC C_numbers C_book C_right C_refused C_state_of m_range hNP
theorem walk {l:PySem.W.OpenLaw} {q:Program} {loose:List Str} {XP:(Str→Option Value)→Heap→Prop} {YP:World→Heap→Prop} {d d':DefRec} {K:Params→PySem.W.Frag} (hn:l.most=some 63) (hdf:d.params.defaults=[]) (hrec:(recsOf q).find? (fun e=>e.name == ("law" : Str))=some d')
    (hY:∀ (w:World) (h:Heap),YP w h→(K w.params).In h)
    (F:∀ (w:World) (mg:Str→Option Value) (fa:Addr) (h:Heap),(K w.params).In h→h.Ns mainGlobals mg→mg d.name=some (.ref fa) →
      ∃ (fd:FuncData) (c PT:Addr),PySem.W.tabIn (K w.params) "law" = some (c,PT)∧PySem.W.noTabs (K w.params)=true∧(∀ (s:Shared) (u:Value),BindsTo s fd ⟨[u],[]⟩ [("_law_script",u)])∧∀ base:Heap,(K w.params).In base→base.Ns mainGlobals mg→TabCx mg base c PT→FnOk l.prog w (K w.params) mg base CX0 8 fa fd ["_law_script"] (spLaw (K w.params) PT)) :
    PySem.W.WalkO q loose XP YP l.row.toRowW d [] (fun f vs=>PySem.call f vs) :=
  L2.walk_ofT (n:=63) (k:=8) (x:="_law_script") (sp:=fun w PT=>spLaw (K w.params) PT) hn (by decide) hdf ⟨rfl,by decide,by decide⟩ hrec hY F fun _ _ a PT ns hl hP hS=>⟨a,ns,rfl,hS,hl,hP,fun _=>rfl⟩
end Mine
open PySem PySem.W PyProof.Rows
set_option maxRecDepth 100000 in
set_option maxHeartbeats 0 in
theorem PySem.Challenge.cw_twainkeep_k29_state_of_each_part_holds : PySem.Challenge.rw_twainkeep_k29_state_of_each_part.Holds := by
  w_on; o_law; k_head; (case hw=>w_witness2)
  k_fill
  refine Mine.walk (l:=PySem.Challenge.rw_twainkeep_k29_state_of_each_part) rfl rfl rfl (fun w h Y=>PySem.W.km_in_of Y) ?F
  case F =>
    intro w mg fa h KX G hmg
    refine' Mine.all_mk KX G hmg ?a1 ?l1 ?c1 ?k1 ?a2 ?l2 ?c2 ?k2 ?a3 ?l3 ?c3 ?k3 ?a4 ?l4 ?c4 ?k4 ?a5 ?l5 ?c5 ?k5 ?a6 ?l6 ?c6 ?k6 ?a7 ?l7 ?c7 ?k7 ?a8 ?l8 ?c8 ?k8 ?a9 ?l9 ?c9 ?k9 ?a10 ?l10 ?c10 ?k10 ?a11 ?l11 ?c11 ?k11 ?a12 ?l12 ?c12 ?k12 ?a13 ?l13 ?c13 ?k13 ?a14 ?l14 ?c14 ?k14 ?a15 ?l15 ?c15 ?k15 ?a16 ?l16 ?c16 ?k16 ?a17 ?l17 ?c17 ?k17 ?a18 ?l18 ?c18 ?k18 ?a19 ?l19 ?c19 ?k19 ?a20 ?l20 ?c20 ?k20 ?a21 ?l21 ?c21 ?k21 ?a22 ?l22 ?c22 ?k22 ?p_NoPart ?p_TwainError ?p_Linked ?p_Twice ?p_NoPlace ?p_NoText ?p_NoDeed ?p_Apart ?x_NoPart ?x_TwainError ?g1 ?g2 ?g3 ?g4 ?g5 ?g6 ?u1 ?u2 ?u3 ?n1_NoPlace ?n2_NoPlace ?n3_NoPlace ?n4_NoPlace ?n1_Twice ?n2_Twice ?n3_Twice ?n4_Twice ?n1_Linked ?n2_Linked ?n3_Linked ?n4_Linked ?n1_Apart ?n2_Apart ?n3_Apart ?n4_Apart ?n1_NoDeed ?n2_NoDeed ?n3_NoDeed ?n4_NoDeed ?n1_NoText ?n2_NoText ?n3_NoText ?n4_NoText ?eqc ?lc ?pc ?hno ?z_len ?z_int ?z_range ?z_isinstance ?z_tuple ?z_bool ?z_str ?z_all ?z_zip ?z_dict ?z_list ?z_sorted ?z_min ?z_sum ?z_enumerate ?z_ValueError
    (case a1=>k_is)
    (case l1=>k_is)
    (case c1=>k_is)
    (case k1=>k_is)
    (case a2=>k_is)
    (case l2=>k_is)
    (case c2=>k_is)
    (case k2=>k_is)
    (case a3=>k_is)
    (case l3=>k_is)
    (case c3=>k_is)
    (case k3=>k_is)
    (case a4=>k_is)
    (case l4=>k_is)
    (case c4=>k_is)
    (case k4=>k_is)
    (case a5=>k_is)
    (case l5=>k_is)
    (case c5=>k_is)
    (case k5=>k_is)
    (case a6=>k_is)
    (case l6=>k_is)
    (case c6=>k_is)
    (case k6=>k_is)
    (case a7=>k_is)
    (case l7=>k_is)
    (case c7=>k_is)
    (case k7=>k_is)
    (case a8=>k_is)
    (case l8=>k_is)
    (case c8=>k_is)
    (case k8=>k_is)
    (case a9=>k_is)
    (case l9=>k_is)
    (case c9=>k_is)
    (case k9=>k_is)
    (case a10=>k_is)
    (case l10=>k_is)
    (case c10=>k_is)
    (case k10=>k_is)
    (case a11=>k_is)
    (case l11=>k_is)
    (case c11=>k_is)
    (case k11=>k_is)
    (case a12=>k_is)
    (case l12=>k_is)
    (case c12=>k_is)
    (case k12=>k_is)
    (case a13=>k_is)
    (case l13=>k_is)
    (case c13=>k_is)
    (case k13=>k_is)
    (case a14=>k_is)
    (case l14=>k_is)
    (case c14=>k_is)
    (case k14=>k_is)
    (case a15=>k_is)
    (case l15=>k_is)
    (case c15=>k_is)
    (case k15=>k_is)
    (case a16=>k_is)
    (case l16=>k_is)
    (case c16=>k_is)
    (case k16=>k_is)
    (case a17=>k_is)
    (case l17=>k_is)
    (case c17=>k_is)
    (case k17=>k_is)
    (case a18=>k_is)
    (case l18=>k_is)
    (case c18=>k_is)
    (case k18=>k_is)
    (case a19=>k_is)
    (case l19=>k_is)
    (case c19=>k_is)
    (case k19=>k_is)
    (case a20=>k_is)
    (case l20=>k_is)
    (case c20=>k_is)
    (case k20=>k_is)
    (case a21=>k_is)
    (case l21=>k_is)
    (case c21=>k_is)
    (case k21=>k_is)
    (case a22=>k_is)
    (case l22=>k_is)
    (case c22=>k_is)
    (case k22=>k_is)
    (case p_NoPart=>k_is)
    (case p_TwainError=>k_is)
    (case p_Linked=>k_is)
    (case p_Twice=>k_is)
    (case p_NoPlace=>k_is)
    (case p_NoText=>k_is)
    (case p_NoDeed=>k_is)
    (case p_Apart=>k_is)
    (case x_NoPart=>first | k_exc | k_is)
    (case x_TwainError=>first | k_exc | k_is)
    (case g1=>k_is)
    (case g2=>k_is)
    (case g3=>k_is)
    (case g4=>k_is)
    (case g5=>k_is)
    (case g6=>k_is)
    (case u1=>k_is)
    (case u2=>k_is)
    (case u3=>k_is)
    (case n1_NoPlace=>decide)
    (case n2_NoPlace=>k_is)
    (case n3_NoPlace=>k_is)
    (case n4_NoPlace=>k_is)
    (case n1_Twice=>decide)
    (case n2_Twice=>k_is)
    (case n3_Twice=>k_is)
    (case n4_Twice=>k_is)
    (case n1_Linked=>decide)
    (case n2_Linked=>k_is)
    (case n3_Linked=>k_is)
    (case n4_Linked=>k_is)
    (case n1_Apart=>decide)
    (case n2_Apart=>k_is)
    (case n3_Apart=>k_is)
    (case n4_Apart=>k_is)
    (case n1_NoDeed=>decide)
    (case n2_NoDeed=>k_is)
    (case n3_NoDeed=>k_is)
    (case n4_NoDeed=>k_is)
    (case n1_NoText=>decide)
    (case n2_NoText=>k_is)
    (case n3_NoText=>k_is)
    (case n4_NoText=>k_is)
    (case eqc=>rfl)
    (case lc=>k_is)
    (case pc=>rfl)
    (case hno=>kernel_rfl)
    (case z_len=>k_is)
    (case z_int=>k_is)
    (case z_range=>k_is)
    (case z_isinstance=>k_is)
    (case z_tuple=>k_is)
    (case z_bool=>k_is)
    (case z_str=>k_is)
    (case z_all=>k_is)
    (case z_zip=>k_is)
    (case z_dict=>k_is)
    (case z_list=>k_is)
    (case z_sorted=>k_is)
    (case z_min=>k_is)
    (case z_sum=>k_is)
    (case z_enumerate=>k_is)
    (case z_ValueError=>k_is)
