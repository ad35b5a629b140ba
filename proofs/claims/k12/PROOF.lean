import PyProof.Rows.All
import Wide.All
import OpenK.AllK
import Wide.FinOn
import Lean
import PyProof.EqAt
import PyProof.EqKinds
import PyProof.TupleCall
import PyProof.ZipIter
import PyProof.TupleIter
import PyProof.WalksMore
import KE.KWords
import PyProof.MinMaxWalk
import PyProof.SeqI3
import PyProof.MaxThree
import PyProof.AttrMissHeap
import PyProof.DictList
import PyProof.DictIter
import KE.KDictOf
import KE.KDictList
import PyProof.Rows.CallKwBuiltin
import PyProof.Rows.Range3
import PyProof.Rows.StrNews2
import PyProof.StrLawsIdx
import PyProof.StrBlockI
import KE.KRevSl
import PyProof.AutoListH
import PyProof.DictWalks
import PyProof.Draws
import PyProof.EnumMake
import PyProof.NeKinds
import PyProof.Rows.SetFrom
import KE.KSortTup
import PyProof.StrBlock2
import PyProof.DictItems
import KE.KPairComp
import PyProof.Rows.SumAny
import PyProof.ListStr
import PyProof.DictValues
import KE.KItemsList
import PySem.Challenge.RW_twainkeep_k12_words_tallied
set_option Elab.async false
set_option linter.all false
set_option maxRecDepth 100000
namespace L2
open PySem PySem.Spec PyProof.Rows
noncomputable abbrev Key:=Sum Int Str
noncomputable def keyIs:Key→Value→Bool
  | .inl k,v=>Value.isInt k v
  | .inr x,v=>Value.isStrOf x v
noncomputable def keyH (w:World):Key→Int
  | .inl k=>hashInt k
  | .inr x=>hashStr w x
theorem keyIs_shape:∀ {k:Key} {v:Value},keyIs k v=true→(∃ i t,k=Sum.inl i∧v=Value.int i t)∨(∃ x t,k=Sum.inr x∧v=Value.str x t)
  | .inl i,v,h=>by
    obtain ⟨t,e⟩:=Value.isInt_shape (k:=i) (v:=v) h
    exact .inl ⟨i,t,rfl,e⟩
  | .inr x,v,h=>by
    obtain ⟨t,e⟩:=Value.isStrOf_shape (x:=x) (v:=v) h
    exact .inr ⟨x,t,rfl,e⟩
theorem keyIs_int (i:Int) (t:Tok):keyIs (.inl i) (.int i t)=true:=by simp [keyIs,Value.isInt]
theorem keyIs_str (x:Str) (t:Tok):keyIs (.inr x) (.str x t)=true:=by simp [keyIs,Value.isStrOf]
theorem key_ll (a b:Int):decide ((Sum.inl a:Key)=Sum.inl b)=(a == b):=by
  by_cases e:a=b
  · subst e; simp
  · have h:¬ (Sum.inl a:Key)=Sum.inl b:=fun q=>e (Sum.inl.inj q)
    rw [decide_eq_false h]
    exact (beq_eq_false_iff_ne.mpr e).symm
theorem key_rr (a b:Str):decide ((Sum.inr a:Key)=Sum.inr b)=decide (a=b):=by
  by_cases e:a=b
  · subst e; simp
  · have h:¬ (Sum.inr a:Key)=Sum.inr b:=fun q=>e (Sum.inr.inj q)
    rw [decide_eq_false h,decide_eq_false e]
theorem key_lr (a:Int) (b:Str):decide ((Sum.inl a:Key)=Sum.inr b)=false:=decide_eq_false (fun q=>nomatch q)
theorem key_rl (a:Str) (b:Int):decide ((Sum.inr a:Key)=Sum.inl b)=false:=decide_eq_false (fun q=>nomatch q)
noncomputable def mixKind (prog:Program) (w:World):PySem.KeyKind prog w Key where
  is:=keyIs
  hash:=keyH w
  inj:=fun v a b ha hb=>by
    rcases keyIs_shape ha with ⟨i,t,rfl,rfl⟩ | ⟨x,t,rfl,rfl⟩
    · rcases keyIs_shape hb with ⟨j,u,rfl,e⟩ | ⟨y,u,rfl,e⟩
      · injection e with e1 _; rw [e1]
      · exact nomatch e
    · rcases keyIs_shape hb with ⟨j,u,rfl,e⟩ | ⟨y,u,rfl,e⟩
      · exact nomatch e
      · injection e with e1 _; rw [e1]
  byValue:=fun k v h=>by
    rcases keyIs_shape h with ⟨i,t,rfl,rfl⟩ | ⟨x,t,rfl,rfl⟩ <;> rfl
  pyHash:=fun hv h=>by
    rcases keyIs_shape hv with ⟨i,t,rfl,rfl⟩ | ⟨x,t,rfl,rfl⟩
    · exact wpAny_pyHash_int h
    · exact wpAny_pyHash_str h
  eqBool:=fun hu hv h=>by
    rcases keyIs_shape hu with ⟨i,t,rfl,rfl⟩ | ⟨x,t,rfl,rfl⟩
    · rcases keyIs_shape hv with ⟨j,u,rfl,rfl⟩ | ⟨y,u,rfl,rfl⟩
      · rw [key_ll] at h; exact wpAny_eqBool_int h
      · rw [key_lr] at h; exact SeqAt.EqAt.int_str i t y u _ _ _ _ h
    · rcases keyIs_shape hv with ⟨j,u,rfl,rfl⟩ | ⟨y,u,rfl,rfl⟩
      · rw [key_rl] at h; exact SeqAt.EqAt.str_int x t j u _ _ _ _ h
      · rw [key_rr] at h; exact wpAny_eqBool_str h
  «strs»:=fun k x t v h=>by
    rcases keyIs_shape h with ⟨i,u,rfl,e⟩ | ⟨y,u,rfl,e⟩
    · exact nomatch e
    · injection e with e1 _
      subst e1
      cases v <;> rfl
theorem mixKind_int (prog:Program) (w:World) (i:Int) (t:Tok):(mixKind prog w).is (.inl i) (.int i t)=true:=keyIs_int i t
theorem mixKind_str (prog:Program) (w:World) (x:Str) (t:Tok):(mixKind prog w).is (.inr x) (.str x t)=true:=keyIs_str x t
end L2
namespace L2
open PySem PySem.Spec PyProof.Rows
inductive V where
  | non | bl (b:Bool) | int (i:Int) | str (x:Str) | byt (b:Array UInt8) | flt (b:UInt64) | ref (a:Addr) | ty (n:String)
  deriving DecidableEq
noncomputable def RelV:V→Value→Prop
  | .non,u=>u=Value.none
  | .bl b,u=>u=Value.bool b
  | .int i,u=>∃ t,u=Value.int i t
  | .str x,u=>∃ t,u=Value.str x t
  | .byt b,u=>∃ t,u=Value.bytes b t
  | .flt b,u=>∃ t,u=Value.float b t
  | .ref a,u=>u=Value.ref a
  | .ty n,u=>u=Value.type n
noncomputable abbrev Vals:List V→List Value→Prop:=Paired RelV
theorem Vals.length {xs:List V} {us:List Value} (r:Vals xs us):xs.length=us.length:=Paired.length r
theorem Vals.get:∀ {xs:List V} {us:List Value} {i:Nat} {x:V},Vals xs us→xs[i]?=some x→∃ u,us[i]?=some u∧RelV x u
  | _,_,_,_,.nil,e=>by simp at e
  | _,_,0,_,.cons r _,e=>by simp at e; subst e; exact ⟨_,rfl,r⟩
  | _,_,i+1,x,.cons _ t,e=>by
    obtain ⟨u,h1,h2⟩:=Vals.get (i:=i) (x:=x) t (by simpa using e)
    exact ⟨u,by simpa using h1,h2⟩
theorem Vals.set {x:V} {u:Value} (r:RelV x u):∀ {xs:List V} {us:List Value} (i:Nat),Vals xs us→Vals (xs.set i x) (us.set i u)
  | _,_,_,.nil=>.nil
  | _,_,0,.cons _ t=>.cons r t
  | _,_,i+1,.cons q t=>.cons q (Vals.set r i t)
theorem Vals.append:∀ {xs ys:List V} {us ws:List Value},Vals xs us→Vals ys ws→Vals (xs++ys) (us++ws)
  | _,_,_,_,.nil,s=>s
  | _,_,_,_,.cons r t,s=>.cons r (Vals.append t s)
theorem Vals.take:∀ {xs:List V} {us:List Value} (n:Nat),Vals xs us→Vals (xs.take n) (us.take n)
  | _,_,0,_=>.nil
  | _,_,_+1,.nil=>.nil
  | _,_,n+1,.cons r t=>.cons r (Vals.take n t)
theorem Vals.drop:∀ {xs:List V} {us:List Value} (n:Nat),Vals xs us→Vals (xs.drop n) (us.drop n)
  | _,_,0,r=>r
  | _,_,_+1,.nil=>.nil
  | _,_,n+1,.cons _ t=>Vals.drop n t
noncomputable def RelO:Option V→Option Value→Prop
  | some v,some u=>RelV v u
  | none,none=>True
  | _,_=>False
noncomputable def KV {κ:Type}:List (κ × V)→List (κ × Value)→Prop:=Paired fun (p:κ × V) (q:κ × Value)=>p.1=q.1∧RelV p.2 q.2
noncomputable def kV:Key→V
  | .inl i=>.int i
  | .inr x=>.str x
inductive HO where
  | lst (xs:List V)
  | tup (xs:List V)
  | dK (kvs:List (Key × V)) | dT (kvs:List (List Key × V))
  | set (S:Int→Bool) (n:Nat)
  | ins (C dx:Addr) (fs:List (Str × V))
  | own (x:Addr)
  | xd (fs:List (Str × V))
  | met (f x:Addr)
  | rng (lo hi:Int)
  | frz (o:Obj) (u:HO)
  | tbl (ps:Array Value)
  | ext (φ:Heap→Prop)
noncomputable abbrev Hp:=Addr→Option HO
noncomputable def upd (H:Hp) (a:Addr) (o:HO):Hp:=fun b=>if b=a then some o else H b
theorem upd_same {H:Hp} {a:Addr} {o:HO}:upd H a o a=some o:=by unfold upd; rw [if_pos rfl]
theorem upd_ne {H:Hp} {a b:Addr} {o:HO} (h:b≠a):upd H a o b=H b:=by unfold upd; rw [if_neg h]
theorem upd_upd {H:Hp} {a:Addr} {o u:HO}:upd (upd H a o) a u=upd H a u:=by
  funext b; unfold upd; split <;> rfl
theorem ne_of {H:Hp} {a b:Addr} {o u:HO} (h:H a=some o) (h':H b=some u) (d:o≠u):a≠b:=by
  intro e; subst e; rw [h] at h'; exact d (Option.some.inj h')
theorem ne_of_none {H:Hp} {a b:Addr} {o:HO} (h:H a=some o) (h':H b=none):a≠b:=by
  intro e; subst e; rw [h] at h'; cases h'
section
variable (P:Program) (w:World)
noncomputable def ObjOk (H:Hp) (h:Heap) (a:Addr):HO→Prop
  | .lst xs=>xs.length≤sizeLine∧∃ (its:List Value) (n:Nat),Vals xs its∧h.get? a=some { cls:=.type "list",data:=.seq its.toArray n }
  | .tup xs=>xs.length≤sizeLine∧∃ its:List Value,Vals xs its∧IsTup h a its.toArray
  | .dK kvs=>kvs.length≤sizeLine∧(a == sysModules)=false∧∃ vs,KV kvs vs∧h.DictOf (mixKind P w) a vs
  | .dT kvs=>kvs.length≤sizeLine∧(a == sysModules)=false∧∃ xs:List (List Key × Addr × Value),
      Paired (fun (p:List Key × V) (q:List Key × Addr × Value)=>p.1=q.1∧H q.2.1=some (.tup (p.1.map kV))∧RelV p.2 q.2.2) kvs xs ∧
      ∃ o es ep,h.get? a=some o∧o.ExactDict∧o.data=.dict es ep∧es.toList=xs.map (entryOfKey (tupleKind (mixKind P w)))∧(xs.map (·.1)).Nodup
  | .set S n=>h.SetOf (intKind P w) a S n
  | .ins C dx fs=>H dx=some (.own a)∧fs.length≤1000∧dx≠a∧h.get? a=some (PySem.W.instObj C dx) ∧
      ∃ mA,h.Ns1 dx mA∧(∀ f,RelO (fs.lookup f) (mA f))∧PySem.Within mA (fs.map (·.1))
  | .own _=>∃ o,h.get? a=some o
  | .xd fs=>∃ mA,h.Ns1 a mA∧∀ f,RelO (fs.lookup f) (mA f)
  | .rng lo hi=>∃ t u v,h.get? a=some { cls:=.type "range",data:=.fields #[.int lo t,.int hi u,.int 1 v] }
  | .frz o u=>h.get? a=some o∧ObjOk H h a u
  | .tbl ps=>h.get? a=some { cls:=.none,data:=.fields ps }
  | .met f x=>h.get? a=some (PySem.W.methodObj (.ref f) (.ref x))
  | .ext φ=>φ h∧(∃ o,h.get? a=some o)∧∀ h1 h2:Heap,φ h1→(∀ o,h1.get? a=some o→h2.get? a=some o)→φ h2
noncomputable def HOk (H:Hp) (h:Heap):Prop:=∀ a o,H a=some o→ObjOk P w H h a o
end
section
variable {P:Program} {w:World} {H H':Hp} {h h':Heap} {a:Addr} {o:HO}
theorem ObjOk.lt (x:ObjOk P w H h a o):a < h.objs.size:=by
  cases o with
  | lst xs=>obtain ⟨_,_,_,_,e⟩:=x; exact Heap.lt_size e
  | tup xs=>obtain ⟨_,_,_,p⟩:=x; exact p.lt
  | dK kvs=>obtain ⟨_,_,_,_,o,_,_,e,_⟩:=x; exact Heap.lt_size e
  | dT kvs=>obtain ⟨_,_,_,_,o,_,_,e,_⟩:=x; exact Heap.lt_size e
  | set S n=>obtain ⟨o,_,_,_,e,_⟩:=x; exact Heap.lt_size e
  | ins C dx fs=>obtain ⟨_,_,_,e,_⟩:=x; exact Heap.lt_size e
  | own y=>obtain ⟨_,e⟩:=x; exact Heap.lt_size e
  | xd fs=>obtain ⟨_,⟨_,_,_,e,_⟩,_⟩:=x; exact Heap.lt_size e
  | rng lo hi=>obtain ⟨_,_,_,e⟩:=x; exact Heap.lt_size e
  | frz ob u=>obtain ⟨e,_⟩:=x; exact Heap.lt_size e
  | tbl ps=>exact Heap.lt_size (show h.get? a=some _ from x)
  | met f y=>exact Heap.lt_size (show h.get? a=some _ from x)
  | ext φ=>obtain ⟨_,⟨_,e⟩,_⟩:=x; exact Heap.lt_size e
theorem Paired.mapP {α β:Type} {F G:α→β→Prop}:∀ {l₁:List α} {l₂:List β},Paired F l₁ l₂→(∀ a b,F a b→G a b)→Paired G l₁ l₂
  | _,_,.nil,_=>.nil
  | _,_,.cons r t,f=>.cons (f _ _ r) (Paired.mapP t f)
theorem ObjOk.stay (x:ObjOk P w H h a o) (k:∀ b u,(b=a∨H b=some (.own a))→h.get? b=some u→h'.get? b=some u)
    (ho:∀ b,H b=some (.own a)→H' b=some (.own a)) (ht:∀ b xs,H b=some (.tup xs)→H' b=some (.tup xs)):ObjOk P w H' h' a o:=by
  induction o with
  | lst xs=>obtain ⟨z,its,n,r,e⟩:=x; exact ⟨z,its,n,r,k _ _ (.inl rfl) e⟩
  | tup xs=>obtain ⟨z,its,r,ob,e,c⟩:=x; exact ⟨z,its,r,ob,k _ _ (.inl rfl) e,c⟩
  | dK kvs=>obtain ⟨z,y,vs,r,ob,es,ep,e,c⟩:=x; exact ⟨z,y,vs,r,ob,es,ep,k _ _ (.inl rfl) e,c⟩
  | dT kvs =>
    obtain ⟨z,y,xs,r,ob,es,ep,e,c⟩:=x
    exact ⟨z,y,xs,Paired.mapP r fun p q z=>⟨z.1,ht _ _ z.2.1,z.2.2⟩,ob,es,ep,k _ _ (.inl rfl) e,c⟩
  | set S n=>obtain ⟨ob,es,ep,t,e,c⟩:=x; exact ⟨ob,es,ep,t,k _ _ (.inl rfl) e,c⟩
  | ins C dx fs =>
    obtain ⟨d,z,ne,e,mA,⟨od,es,ep,e2,c⟩,r⟩:=x
    exact ⟨ho _ d,z,ne,k _ _ (.inl rfl) e,mA,⟨od,es,ep,k _ _ (.inr d) e2,c⟩,r⟩
  | own y=>obtain ⟨ob,e⟩:=x; exact ⟨ob,k _ _ (.inl rfl) e⟩
  | xd fs=>obtain ⟨mA,⟨od,es,ep,e,c⟩,r⟩:=x; exact ⟨mA,⟨od,es,ep,k _ _ (.inl rfl) e,c⟩,r⟩
  | rng lo hi=>obtain ⟨t,u,v,e⟩:=x; exact ⟨t,u,v,k _ _ (.inl rfl) e⟩
  | frz ob u ih=>obtain ⟨e,q⟩:=x; exact ⟨k _ _ (.inl rfl) e,ih q⟩
  | tbl ps =>
    have e:h.get? a=some { cls:=.none,data:=.fields ps }:=x
    show h'.get? a=some { cls:=.none,data:=.fields ps }
    exact k a _ (.inl rfl) e
  | met f y =>
    have e:h.get? a=some (PySem.W.methodObj (.ref f) (.ref y)):=x
    show h'.get? a=some (PySem.W.methodObj (.ref f) (.ref y))
    exact k a _ (.inl rfl) e
  | ext φ=>obtain ⟨p,⟨o,e⟩,st⟩:=x; exact ⟨st _ _ p fun o q=>k _ _ (.inl rfl) q,⟨o,k _ _ (.inl rfl) e⟩,st⟩
theorem HOk.lt (x:HOk P w H h) (e:H a=some o):a < h.objs.size:=(x a o e).lt
theorem HOk.fresh (x:HOk P w H h) (e:h.objs.size≤a):H a=none:=by
  cases q:H a with
  | none=>rfl
  | some u=>exact absurd (Nat.lt_of_lt_of_le (x.lt q) e) (Nat.lt_irrefl _)
theorem HOk.kept (x:HOk P w H h) (k:∀ b u,h.get? b=some u→h'.get? b=some u):HOk P w H h':=fun a o e =>
  (x a o e).stay (fun b u _ q=>k b u q) (fun _ q=>q) fun _ _ q=>q
theorem HOk.laid (x:HOk P w H h) (k:∀ b u,h.get? b=some u→h'.get? b=some u) (hp:h.objs.size≤a) (new:ObjOk P w (upd H a o) h' a o):HOk P w (upd H a o) h':=fun b u e=>by
  have hn:=x.fresh hp
  by_cases hb:b=a
  · subst hb; rw [upd_same] at e; cases e; exact new
  · rw [upd_ne hb] at e
    exact (x b u e).stay (fun c v _ q=>k c v q) (fun c q=>by rw [upd_ne (ne_of_none q hn)]; exact q) fun c xs q=>by rw [upd_ne (ne_of_none q hn)]; exact q
end
noncomputable def Rd (H:Hp) (a:Addr) (u:HO):Prop:=H a=some u∨∃ o,H a=some (.frz o u)
theorem Rd.ok {P:Program} {w:World} {H:Hp} {h:Heap} {a:Addr} {u:HO} (r:Rd H a u) (x:HOk P w H h):ObjOk P w H h a u:=by
  rcases r with r | ⟨o,r⟩
  · exact x a u r
  · obtain ⟨_,q⟩:=x a _ r
    exact q
noncomputable def Mut:Option HO→Prop
  | some (.lst _)=>True
  | some (.dK _)=>True
  | some (.dT _)=>True
  | some (.set _ _)=>True
  | some (.ins _ _ _)=>True
  | some (.ext _)=>True
  | _=>False
section
variable {P:Program} {w:World} {H:Hp} {h h':Heap} {x e:Addr} {o':HO}
theorem HOk.write (ok:HOk P w H h) (mu:Mut (H x)) (he:e=x∨H e=some (.own x)) (k:∀ b u,b≠e→h.get? b=some u→h'.get? b=some u) (heo:∃ u,h'.get? e=some u)
    (new:ObjOk P w (upd H x o') h' x o'):HOk P w (upd H x o') h':=fun b u q=>by
  have nown:∀ c y,H c=some (.own y)→c≠x:=fun c y r z=>by subst z; rw [r] at mu; exact mu
  have ntup:∀ c xs,H c=some (.tup xs)→c≠x:=fun c xs r z=>by subst z; rw [r] at mu; exact mu
  by_cases hb:b=x
  · subst hb; rw [upd_same] at q; cases q; exact new
  · rw [upd_ne hb] at q
    by_cases hbe:b=e
    · have q':H b=some (.own x):=by
        rcases he with z | z
        · exact absurd (hbe.trans z) hb
        · rw [hbe]; exact z
      rw [q] at q'; cases q'
      obtain ⟨v,hv⟩:=heo
      exact ⟨v,by rw [hbe]; exact hv⟩
    · refine (ok b u q).stay (fun c v hc r=>k c v ?_ r) (fun c r=>by rw [upd_ne (nown c b r)]; exact r) fun c xs r=>by rw [upd_ne (ntup c xs r)]; exact r
      rcases hc with rfl | hc
      · exact hbe
      · rintro rfl
        rcases he with z | z
        · exact nown c b hc z
        · rw [hc] at z; cases z; exact hb rfl
end
structure Un (fs ex:List Addr) (H H':Hp) (h h':Heap):Prop where
  keep:∀ b o,h.get? b=some o→H b=none→b ∉ fs→b ∉ ex→h'.get? b=some o
  slot:∀ b o,h.get? b=some o→H b=none→b∈fs→b ∉ ex→∃ sl,h'.get? b=some { o with slots:=sl }
  free:∀ b o,h.get? b=some o→H b=none→b ∉ ex→H' b=none
  there:∀ b o,h.get? b=some o→b ∉ ex→∃ o',h'.get? b=some o'
  tups:∀ b xs,H b=some (.tup xs)→H' b=some (.tup xs)
  frzs:∀ b o u,H b=some (.frz o u)→H' b=some (.frz o u)
  tbls:∀ b ps,H b=some (.tbl ps)→∃ more,H' b=some (.tbl (ps++more))
section
variable {fs fs' ex ex':List Addr} {H H1 H2:Hp} {h h1 h2 h':Heap} {a x e:Addr} {o:HO}
theorem Un.any (u:Un fs ex H H1 h h1) {b:Addr} {ob:Obj} (q:h.get? b=some ob) (n:H b=none) (hx:b ∉ ex):∃ sl,h1.get? b=some { ob with slots:=sl }:=by
  by_cases hb:b∈fs
  · exact u.slot b ob q n hb hx
  · exact ⟨ob.slots,u.keep b ob q n hb hx⟩
theorem Un.kept (k:∀ b u,h.get? b=some u→h'.get? b=some u):Un fs ex H H h h' :=
  ⟨fun b ob q _ _ _=>k b ob q,fun b ob q _ _ _=>⟨ob.slots,k b ob q⟩,fun _ _ _ n _=>n,fun b ob q _=>⟨ob,k b ob q⟩,fun _ _ q=>q,fun _ _ _ q=>q,fun _ ps q=>⟨#[],by rw [q]; simp⟩⟩
theorem Un.refl:Un fs ex H H h h:=Un.kept fun _ _ q=>q
theorem Un.laid (k:∀ b u,h.get? b=some u→h'.get? b=some u) (hp:h.objs.size≤a) (hn:H a=none):Un fs ex H (upd H a o) h h' where
  keep:=fun b u q _ _ _=>k b u q
  slot:=fun b u q _ _ _=>⟨u.slots,k b u q⟩
  free:=fun b u q n _=>by rw [upd_ne (Nat.ne_of_lt (Nat.lt_of_lt_of_le (Heap.lt_size q) hp))]; exact n
  there:=fun b u q _=>⟨u,k b u q⟩
  tups:=fun b xs q=>by rw [upd_ne (ne_of_none q hn)]; exact q
  frzs:=fun b u xs q=>by rw [upd_ne (ne_of_none q hn)]; exact q
  tbls:=fun b ps q=>⟨#[],by rw [upd_ne (ne_of_none q hn),q]; simp⟩
theorem Un.write (mu:Mut (H x)) (he:e=x∨H e=some (.own x)) (k:∀ b u,b≠e→h.get? b=some u→h'.get? b=some u) (heo:∃ u,h'.get? e=some u):Un fs ex H (upd H x o) h h':=by
  have hx:∀ b,H b=none→b≠x:=fun b n z=>by subst z; rw [n] at mu; exact mu
  have hb:∀ b,H b=none→b≠e:=fun b n z=>by
    subst z
    rcases he with r | r
    · exact hx b n r
    · rw [n] at r; cases r
  have hm:∀ b u,H b=some u→¬ Mut (some u)→b≠x:=fun b u q nm z=>by subst z; rw [q] at mu; exact nm mu
  refine ⟨fun b u q n _ _=>k b u (hb b n) q,fun b u q n _ _=>⟨u.slots,k b u (hb b n) q⟩,fun b u q n _=>by rw [upd_ne (hx b n)]; exact n,fun b u q _=>?_,
    fun b xs q=>by rw [upd_ne (hm b _ q fun z=>z)]; exact q,fun b u xs q=>by rw [upd_ne (hm b _ q fun z=>z)]; exact q,fun b ps q=>⟨#[],by rw [upd_ne (hm b _ q fun z=>z),q]; simp⟩⟩
  by_cases hbe:b=e
  · subst hbe; exact heo
  · exact ⟨u,k b u hbe q⟩
end
noncomputable def trk (h:Heap) (H:Hp):List Addr:=(List.range h.objs.size).filter fun a=>(H a).isSome
noncomputable def hidT (h:Heap) (H:Hp):Heap:=PySem.W.hideAll h (trk h H)
theorem hidT_size (h:Heap) (H:Hp):(hidT h H).objs.size=h.objs.size:=PySem.W.hideAll_size _ _
theorem hidT_get {h:Heap} {H:Hp} {b:Addr} {o:Obj} (e:h.get? b=some o) (n:H b=none):(hidT h H).get? b=some o :=
  PySem.W.hideAll_get _ e fun hm=>by
    have q:(H b).isSome=true:=(List.mem_filter.mp hm).2
    rw [n] at q; simp at q
theorem of_hidT {h:Heap} {H:Hp} {b:Addr} {o:Obj} (e:(hidT h H).get? b=some o):h.get? b=some o∧H b=none:=by
  have e':h.get? b=some o:=PySem.W.of_hideAll (trk h H) e
  refine ⟨e',?_⟩
  cases q:H b with
  | none=>rfl
  | some x =>
    have hm:b∈trk h H:=List.mem_filter.mpr ⟨List.mem_range.mpr (Heap.lt_size e'),by simp [q]⟩
    have z:(hidT h H).get? b=none:=PySem.W.hideAll_none (trk h H) hm
    rw [z] at e; cases e
noncomputable def allNews (g h:Heap) (L:Addr):List (Addr × Obj):=(List.range h.objs.size).filterMap fun a=>if a=L∨(g.get? a).isSome=true then none else (h.get? a).map fun o=>(a,o)
noncomputable def rest (g h:Heap) (L d:Addr):List (Addr × Obj):=(allNews g h L).filter fun p=>decide (p.1≠d)
end L2
namespace L2
open PySem PySem.Spec PyProof.Rows
structure Mod (K:PySem.W.Frag) (mg:Str→Option Value) (base:Heap):Prop where
  kin:K.In base
  glob:base.Ns mainGlobals mg
  blt:∃ mb,base.Ns builtinsNs mb∧∀ x:Str,x ≠ "__name__"→mb x=bootBuiltins x
  nolimit:base.NoLimit
structure Cx where
  prog:Program
  w:World
  K:PySem.W.Frag
  mg:Str→Option Value
  base:Heap
  A:Around
  N:List Str
  s₀:Shared
  H₀:Hp
  env:Env
  outer:List Env
  stack:List Env
  ex:List Addr
  fn:Str→Bool
  calm:Bool
  pn:List (Addr × Obj)
  xe:Value→Shared→Prop
noncomputable def frs (l:List Env):List Addr:=l.filterMap (·.frame)
noncomputable abbrev Cx.fs (X:Cx):List Addr:=frs X.outer
noncomputable def Vis (sc:Scope) (x:Str):Prop:=sc.names.lookup x=some .local∨sc.names.lookup x=some .cell∨sc.names.lookup x=some .free
noncomputable def Loc (sc:Scope) (x:Str):Prop:=sc.names.lookup x=some .local∨sc.names.lookup x=some .cell
noncomputable def Look (env:Env) (h:Heap) (m:Str→Option Value) (x:Str) (u:Value):Prop :=
  (env.kindOf x=some .local∧m x=some u)∨((env.kindOf x=some .cell∨env.kindOf x=some .free)∧∃ c,env.cells.lookup x=some c∧h.IsCell c (some u))
structure Cx.Ok (X:Cx):Prop where
  mod:Mod X.K X.mg X.base
  kind:X.env.scope.kind=.function
  glob:X.env.globals=mainGlobals
  blt:X.env.builtins=builtinsNs
  above:X.s₀.heap.objs.size≤X.env.locals
  inj:∀ x y c,X.env.cells.lookup x=some c→X.env.cells.lookup y=some c→x=y
  has:∀ x,(X.env.kindOf x=some .cell∨X.env.kindOf x=some .free)→∃ c,X.env.cells.lookup x=some c
  cab:∀ x c,X.fn x=true→X.env.cells.lookup x=some c→X.s₀.heap.objs.size≤c
  hd:X.calm=true→X.A.handled=none
  frames:X.A.frames=some X.stack
  stk:X.stack=X.outer∨(X.stack=X.env :: X.outer∧X.env.frame=some X.env.locals)
  exf:∀ b∈X.ex,b≠X.env.locals∧∀ x c,X.env.cells.lookup x=some c→c≠b
  bs:∀ b o,X.base.get? b=some o→X.s₀.heap.get? b=some o∧X.H₀ b=none
  bsz:X.base.objs.size≤X.s₀.heap.objs.size
  noex:∀ b o,X.base.get? b=some o→b ∉ X.ex
  exfs:∀ b∈X.ex,b ∉ X.fs
  funs:X.s₀.heap.FunFrames X.base X.outer
  frf:∀ b∈X.fs,X.H₀ b=none
structure Inv (X:Cx) (pins:List (Addr × Obj)) (σ:List (Option V)) (H:Hp) (s:Shared):Prop where
  ok:X.Ok
  os:s.os=X.s₀.os
  bare:AllBare s.gens
  base:Un X.fs X.ex X.H₀ H X.s₀.heap s.heap
  loc:∃ m,s.heap.Ns X.env.locals m∧∀ (i:Nat) (x:Str) (v:V),X.N[i]?=some x→σ[i]?=some (some v)→Vis X.env.scope x→∃ u,RelV v u∧Look X.env s.heap m x u
  cell:∀ x c,X.env.cells.lookup x=some c→∃ v,s.heap.IsCell c v
  free:H X.env.locals=none
  freeC:∀ x c,X.env.cells.lookup x=some c→H c=none
  pin:∀ p∈X.pn++pins,s.heap.get? p.1=some p.2∧H p.1=none∧p.1≠X.env.locals∧p.1 ∉ X.fs∧∀ v,p.2.data≠.cell v
  hok:HOk X.prog X.w H s.heap
  len:σ.length=X.N.length
section
variable {X:Cx} {pins:List (Addr × Obj)} {σ:List (Option V)} {H H':Hp} {s:Shared} {h':Heap}
theorem Cx.Ok.nofr (ok:X.Ok) {b:Addr} {o:Obj} (e:X.base.get? b=some o):b ∉ X.fs:=fun hb=>by
  have:=(ok.funs.mem hb).1
  rw [e] at this; cases this
theorem Inv.bs (I:Inv X pins σ H s):∀ b o,X.base.get? b=some o→s.heap.get? b=some o∧H b=none:=fun b o e =>
  ⟨I.base.keep b o (I.ok.bs b o e).1 (I.ok.bs b o e).2 (I.ok.nofr e) (I.ok.noex b o e),I.base.free b o (I.ok.bs b o e).1 (I.ok.bs b o e).2 (I.ok.noex b o e)⟩
theorem Inv.bk (I:Inv X pins σ H s):∀ b o,X.base.get? b=some o→s.heap.get? b=some o:=fun b o e=>(I.bs b o e).1
theorem Inv.mod (I:Inv X pins σ H s):Mod X.K X.mg X.base:=I.ok.mod
theorem Inv.kIn (I:Inv X pins σ H s):X.K.In s.heap:=I.ok.mod.kin.keeps I.bk
theorem Inv.lt (I:Inv X pins σ H s):X.env.locals < s.heap.objs.size:=let ⟨_,hn,_⟩:=I.loc; hn.lt
theorem Inv.sz (I:Inv X pins σ H s):X.s₀.heap.objs.size≤s.heap.objs.size:=Nat.le_trans I.ok.above (Nat.le_of_lt I.lt)
theorem Inv.nofs (I:Inv X pins σ H s) {a:Addr} (h:s.heap.objs.size≤a):a ∉ X.fs:=fun hb=>by
  obtain ⟨_,o,ho,_⟩:=I.ok.funs.mem hb
  exact absurd (Nat.lt_of_lt_of_le (Heap.lt_size ho) (Nat.le_trans I.sz h)) (Nat.lt_irrefl _)
theorem Inv.cne (I:Inv X pins σ H s):∀ x c,X.env.cells.lookup x=some c→c≠X.env.locals:=fun x c e z=>by
  obtain ⟨v,o,ho,hd⟩:=I.cell x c e
  obtain ⟨m,⟨o',es,ep,ho',hd',_⟩,_⟩:=I.loc
  rw [z,ho'] at ho; cases ho; rw [hd'] at hd; cases hd
theorem Inv.funs (I:Inv X pins σ H s):s.heap.FunFrames X.base X.outer:=by
  have all:∀ (l:List Env),(∀ b∈frs l,b∈X.fs)→X.s₀.heap.FunFrames X.base l→s.heap.FunFrames X.base l:=by
    intro l
    induction l with
    | nil=>intro _ _; trivial
    | cons env r ih =>
      intro hs hl
      obtain ⟨hk,⟨L,o,hf,hn,ho,hd⟩,hr⟩:=hl
      have hL:L∈X.fs:=hs L (by unfold frs; rw [List.filterMap_cons,hf]; exact List.mem_cons_self)
      obtain ⟨sl,e⟩:=I.base.slot L o ho (I.ok.frf L hL) hL fun z=>I.ok.exfs L z hL
      exact ⟨hk,⟨L,_,hf,hn,e,hd⟩,ih (fun b hb=>hs b (by unfold frs; rw [List.filterMap_cons,hf]; exact List.mem_cons_of_mem _ hb)) hr⟩
  exact all X.outer (fun _ hb=>hb) I.ok.funs
theorem Inv.stack (I:Inv X pins σ H s):s.heap.FunFrames X.base X.stack:=by
  rcases I.ok.stk with e | ⟨e,hf⟩
  · rw [e]; exact I.funs
  · rw [e]
    obtain ⟨m,hn,_⟩:=I.loc
    refine .cons (by rw [I.ok.kind]; decide) hf hn ?_ I.funs
    exact Heap.get?_none_of_le (Nat.le_trans I.ok.bsz I.ok.above)
theorem Inv.stkSub (I:Inv X pins σ H s):∀ b∈frs X.stack,b∈X.env.locals :: X.fs:=fun b hb=>by
  rcases I.ok.stk with e | ⟨e,hf⟩
  · rw [e] at hb; exact List.mem_cons_of_mem _ hb
  · rw [e] at hb
    unfold frs at hb
    rw [List.filterMap_cons,hf] at hb
    exact hb
theorem Inv.stkFree (I:Inv X pins σ H s):∀ b∈frs X.stack,H b=none:=fun b hb=>by
  rcases List.mem_cons.mp (I.stkSub b hb) with e | hb
  · rw [e]; exact I.free
  · obtain ⟨_,o,ho,_⟩:=I.ok.funs.mem hb
    exact I.base.free b o ho (I.ok.frf b hb) fun z=>I.ok.exfs b z hb
theorem Inv.step {g':Array GenState} {t':Nat} {d':Drawn} {ch:List Addr} (I:Inv X pins σ H s)
    (hch:∀ b∈ch,(b∈X.ex∨X.s₀.heap.objs.size≤b)∧b≠X.env.locals∧(∀ x c,X.env.cells.lookup x=some c→c≠b)∧∀ p∈X.pn++pins,p.1≠b)
    (keep:∀ b o,b≠X.env.locals→b ∉ X.fs→b ∉ ch→s.heap.get? b=some o→H b=none→h'.get? b=some o)
    (slot:∀ b o,b≠X.env.locals→b∈X.fs→b ∉ ch→s.heap.get? b=some o→H b=none→∃ sl,h'.get? b=some { o with slots:=sl }) (free:∀ b o,b ∉ ch→s.heap.get? b=some o→H b=none→H' b=none)
    (there:∀ b o,b ∉ ch→s.heap.get? b=some o→∃ o',h'.get? b=some o')
    (tups:∀ b xs,H b=some (.tup xs)→H' b=some (.tup xs)) (frzs:∀ b o u,H b=some (.frz o u)→H' b=some (.frz o u)) (tbls:∀ b ps,H b=some (.tbl ps)→∃ more,H' b=some (.tbl (ps++more)))
    (ns:∀ m,s.heap.Ns X.env.locals m→h'.Ns X.env.locals m) (hok:HOk X.prog X.w H' h') (hg:AllBare g') :
    Inv X pins σ H' { s with heap:=h',gens:=g',drawn:=d',toks:=t' }:=by
  have neL:∀ b o,X.s₀.heap.get? b=some o→b≠X.env.locals:=fun b o e=>Nat.ne_of_lt (Nat.lt_of_lt_of_le (Heap.lt_size e) I.ok.above)
  have neC:∀ b o,X.s₀.heap.get? b=some o→b ∉ X.ex→b ∉ ch:=fun b o e hx hb=>by
    rcases (hch b hb).1 with z | z
    · exact hx z
    · exact absurd (Nat.lt_of_lt_of_le (Heap.lt_size e) z) (Nat.lt_irrefl _)
  have cellK:∀ x c,X.env.cells.lookup x=some c→∀ v,s.heap.IsCell c v→h'.IsCell c v:=fun x c e v ⟨o,ho,hd⟩=>by
    have nch:c ∉ ch:=fun z=>(hch c z).2.2.1 x c e rfl
    by_cases hc:c∈X.fs
    · obtain ⟨sl,q⟩:=slot c o (I.cne x c e) hc nch ho (I.freeC x c e)
      exact ⟨_,q,hd⟩
    · exact ⟨o,keep c o (I.cne x c e) hc nch ho (I.freeC x c e),hd⟩
  refine ⟨I.ok,I.os,hg,⟨fun b o e n hb hx=>?_,fun b o e n hb hx=>?_,fun b o e n hx=>?_,fun b o e hx=>?_,fun b xs e=>tups b xs (I.base.tups b xs e),fun b o xs e=>frzs b o xs (I.base.frzs b o xs e),fun b ps e=>?_⟩,?_,fun x c e=>?_,?_,fun x c e=>?_,fun p hp=>?_,hok,I.len⟩
  · exact keep b o (neL b o e) hb (neC b o e hx) (I.base.keep b o e n hb hx) (I.base.free b o e n hx)
  · obtain ⟨sl,e1⟩:=I.base.slot b o e n hb hx
    obtain ⟨sl',e2⟩:=slot b _ (neL b o e) hb (neC b o e hx) e1 (I.base.free b o e n hx)
    exact ⟨sl',e2⟩
  · obtain ⟨o',e1⟩:=I.base.there b o e hx
    exact free b o' (neC b o e hx) e1 (I.base.free b o e n hx)
  · obtain ⟨o',e1⟩:=I.base.there b o e hx
    exact there b o' (neC b o e hx) e1
  · obtain ⟨m1,e1⟩:=I.base.tbls b ps e
    obtain ⟨m2,e2⟩:=tbls b _ e1
    exact ⟨m1++m2,by rw [e2,Array.append_assoc]⟩
  · obtain ⟨m,hn,hl⟩:=I.loc
    refine ⟨m,ns m hn,fun i x v e1 e2 e3=>?_⟩
    obtain ⟨u,r,l⟩:=hl i x v e1 e2 e3
    refine ⟨u,r,?_⟩
    rcases l with l | ⟨k,c,e,z⟩
    · exact .inl l
    · exact .inr ⟨k,c,e,cellK x c e _ z⟩
  · obtain ⟨v,z⟩:=I.cell x c e
    exact ⟨v,cellK x c e v z⟩
  · obtain ⟨m,⟨o,_,_,ho,_⟩,_⟩:=I.loc
    exact free _ o (fun z=>(hch _ z).2.1 rfl) ho I.free
  · obtain ⟨v,o,ho,hd⟩:=I.cell x c e
    exact free c o (fun z=>(hch c z).2.2.1 x c e rfl) ho (I.freeC x c e)
  · obtain ⟨e,n,ne,nf,d⟩:=I.pin p hp
    have nch:p.1 ∉ ch:=fun z=>(hch p.1 z).2.2.2 p hp rfl
    exact ⟨keep p.1 p.2 ne nf nch e n,free p.1 p.2 nch e n,ne,nf,d⟩
theorem Inv.un {t':Nat} (I:Inv X pins σ H s) (u:Un X.fs [] H H' s.heap h') (hok:HOk X.prog X.w H' h'):Inv X pins σ H' { s with heap:=h',toks:=t' }:=by
  obtain ⟨m,⟨o,es,ep,ho,r⟩,_⟩:=id I.loc
  obtain ⟨sl,hL⟩:=u.any ho I.free (by simp)
  exact I.step (g':=s.gens) (d':=s.drawn) (ch:=[]) (fun _ z=>nomatch z) (fun b o _ hb _ e n=>u.keep b o e n hb (by simp)) (fun b o _ hb _ e n=>u.slot b o e n hb (by simp)) (fun b o _ e n=>u.free b o e n (by simp)) (fun b o _ e=>u.there b o e (by simp)) u.tups u.frzs u.tbls (fun m' hm=>by
    obtain ⟨o',es',ep',ho',r'⟩:=hm
    rw [ho] at ho'; cases ho'
    exact ⟨_,es',ep',hL,r'⟩) hok I.bare
theorem Inv.call {g':Array GenState} {t':Nat} {d':Drawn} {ch:List Addr} (I:Inv X pins σ H s) (u:Un (frs X.stack) ch H H' s.heap h') (hok:HOk X.prog X.w H' h') (hg:AllBare g')
    (hch:∀ b∈ch,(b∈X.ex∨X.s₀.heap.objs.size≤b)∧b≠X.env.locals∧(∀ x c,X.env.cells.lookup x=some c→c≠b)∧∀ p∈X.pn++pins,p.1≠b) :
    Inv X pins σ H' { s with heap:=h',gens:=g',drawn:=d',toks:=t' }:=by
  obtain ⟨m,⟨o,es,ep,ho,r⟩,_⟩:=id I.loc
  obtain ⟨sl,hL⟩:=u.any ho I.free fun z=>(hch _ z).2.1 rfl
  exact I.step (ch:=ch) hch (fun b o hL hb hc e n=>u.keep b o e n (fun z=>(List.mem_cons.mp (I.stkSub b z)).elim hL hb) hc) (fun b o _ _ hc e n=>u.any e n hc) (fun b o hc e n=>u.free b o e n hc) (fun b o hc e=>u.there b o e hc) u.tups u.frzs u.tbls (fun m' hm=>by
    obtain ⟨o',es',ep',ho',r'⟩:=hm
    rw [ho] at ho'; cases ho'
    exact ⟨_,es',ep',hL,r'⟩) hok hg
theorem Inv.turned {t':Nat} {it:Addr} (I:Inv X pins σ H s) (k:∀ b o,b≠it→s.heap.get? b=some o→h'.get? b=some o) (hn:H it=none) (hL:it≠X.env.locals)
    (h1:it∈X.ex∨X.s₀.heap.objs.size≤it) (h2:∀ x c,X.env.cells.lookup x=some c→c≠it) (h3:∀ p∈X.pn++pins,p.1≠it):Inv X pins σ H { s with heap:=h',toks:=t' }:=by
  have nit:∀ b u,H b=some u→b≠it:=fun b u e z=>by rw [z,hn] at e; cases e
  refine I.step (g':=s.gens) (d':=s.drawn) (ch:=[it]) (fun b hb=>?_) (fun b o _ _ hc e _=>k b o (fun z=>hc (by simp [z])) e) (fun b o _ _ hc e _=>⟨o.slots,k b o (fun z=>hc (by simp [z])) e⟩) (fun _ _ _ _ n=>n)
    (fun b o hc e=>⟨o,k b o (fun z=>hc (by simp [z])) e⟩) (fun _ _ e=>e) (fun _ _ _ e=>e) (fun b ps e=>⟨#[],by rw [e]; simp⟩) (fun m hm=>?_) (fun b u e=>?_) I.bare
  · have e:b=it:=by simpa using hb
    subst e
    exact ⟨h1,hL,h2,h3⟩
  · obtain ⟨o,es,ep,ho,r⟩:=hm
    exact ⟨o,es,ep,k _ o (Ne.symm hL) ho,r⟩
  · refine (I.hok b u e).stay (fun c v hc q=>k c v ?_ q) (fun _ q=>q) fun _ _ q=>q
    rcases hc with z | z
    · rw [z]; exact nit b u e
    · exact nit c _ z
theorem Inv.tok (I:Inv X pins σ H s) (t:Nat):Inv X pins σ H { s with toks:=t }:=I.un (h':=s.heap) (t':=t) Un.refl I.hok
theorem Inv.kept {t':Nat} (I:Inv X pins σ H s) (k:∀ b u,s.heap.get? b=some u→h'.get? b=some u):Inv X pins σ H { s with heap:=h',toks:=t' }:=I.un (Un.kept k) (I.hok.kept k)
theorem Inv.laid {a:Addr} {o:HO} {t':Nat} (I:Inv X pins σ H s) (k:∀ b u,s.heap.get? b=some u→h'.get? b=some u) (hp:s.heap.objs.size≤a) (new:ObjOk X.prog X.w (upd H a o) h' a o) :
    Inv X pins σ (upd H a o) { s with heap:=h',toks:=t' }:=I.un (Un.laid k hp (I.hok.fresh hp)) (I.hok.laid k hp new)
theorem Inv.write {x e:Addr} {o:HO} {t':Nat} (I:Inv X pins σ H s) (mu:Mut (H x)) (he:e=x∨H e=some (.own x)) (k:∀ b u,b≠e→s.heap.get? b=some u→h'.get? b=some u) (heo:∃ u,h'.get? e=some u)
    (new:ObjOk X.prog X.w (upd H x o) h' x o):Inv X pins σ (upd H x o) { s with heap:=h',toks:=t' }:=I.un (Un.write mu he k heo) (I.hok.write mu he k heo new)
theorem Inv.pins_of {pins':List (Addr × Obj)} (I:Inv X pins σ H s) (h:∀ p∈pins',s.heap.get? p.1=some p.2∧H p.1=none∧p.1≠X.env.locals∧p.1 ∉ X.fs∧∀ v,p.2.data≠.cell v):Inv X pins' σ H s :=
  ⟨I.ok,I.os,I.bare,I.base,I.loc,I.cell,I.free,I.freeC,fun p hp=>(List.mem_append.mp hp).elim (fun z=>I.pin p (List.mem_append_left _ z)) (h p),I.hok,I.len⟩
theorem nodup_ix {N:List Str} (hN:N.Nodup) {i j:Nat} {x:Str} (a:N[i]?=some x) (b:N[j]?=some x):i=j:=by
  obtain ⟨h1,e1⟩:=List.getElem?_eq_some_iff.mp a
  obtain ⟨h2,e2⟩:=List.getElem?_eq_some_iff.mp b
  exact (List.getElem_inj hN).mp (e1.trans e2.symm)
theorem store_ok2 {M:Model} {A:Around} {E:Value→Shared→Prop} {i:Nat} {x:Str} {v:V} {u:Value} {Q:Unit→Shared→Prop} (I:Inv X pins σ H s) (hN:X.N.Nodup) (hi:X.N[i]?=some x) (hx:Loc X.env.scope x) (r:RelV v u)
    (h:∀ s',Inv X pins (σ.set i (some v)) H s'→(∃ a,Heap.SameBut a s.heap s'.heap∧(a=X.env.locals∨X.env.cells.lookup x=some a))→Q () s') (hf:X.fn x=true∨X.env.scope.names.lookup x=some .local:=by first | exact .inl rfl | exact .inr rfl | assumption):wpAny M A (storeName X.env x u) Q E s:=by
  obtain ⟨m,hn,hl⟩:=id I.loc
  have hcls:(X.env.scope.kind == .class || (X.env.scope.kind == .module && X.env.locals != X.env.globals))=false:=by rw [I.ok.kind]; rfl
  have hiσ:i < σ.length:=by rw [I.len]; exact (List.getElem?_eq_some_iff.mp hi).1
  have cne:=I.cne
  have tracked:∀ {a:Addr} {h':Heap},(∃ o,s.heap.get? a=some o∧H a=none)→Heap.SameBut a s.heap h'→HOk X.prog X.w H h':=fun {a h'} ha hs b ob e=>by
    obtain ⟨_,_,hfree⟩:=ha
    refine (I.hok b ob e).stay (fun c w' hc q=>(hs.2 c ?_).trans q) (fun _ q=>q) fun _ _ q=>q
    rintro rfl
    rcases hc with rfl | hc
    · rw [hfree] at e; cases e
    · rw [hfree] at hc; cases hc
  rcases hx with hk | hk
  · refine wpAny_storeName_local hk hn (fun h' hn' hs=>?_) hcls
    obtain ⟨oL,_,_,hoL,_⟩:=id hn
    refine h _ ⟨I.ok,I.os,I.bare,⟨fun b o e n hb hx=>?_,fun b o e n hb hx=>?_,I.base.free,fun b o e hx=>?_,I.base.tups,I.base.frzs,I.base.tbls⟩,⟨_,hn',fun j y v' e1 e2 e3=>?_⟩,fun y c e=>?_,I.free,I.freeC,fun p hp=>?_,tracked ⟨oL,hoL,I.free⟩ hs,by simpa using I.len⟩ ⟨_,hs,.inl rfl⟩
    · exact (hs.2 b (Nat.ne_of_lt (Nat.lt_of_lt_of_le (Heap.lt_size e) I.ok.above))).trans (I.base.keep b o e n hb hx)
    · obtain ⟨sl,e1⟩:=I.base.slot b o e n hb hx
      exact ⟨sl,(hs.2 b (Nat.ne_of_lt (Nat.lt_of_lt_of_le (Heap.lt_size e) I.ok.above))).trans e1⟩
    · obtain ⟨o',e1⟩:=I.base.there b o e hx
      exact ⟨o',(hs.2 b (Nat.ne_of_lt (Nat.lt_of_lt_of_le (Heap.lt_size e) I.ok.above))).trans e1⟩
    · by_cases hj:j=i
      · subst hj
        rw [hi] at e1; cases e1
        rw [List.getElem?_set_self hiσ] at e2
        cases e2
        exact ⟨u,r,.inl ⟨hk,by simp⟩⟩
      · rw [List.getElem?_set_ne (Ne.symm hj)] at e2
        obtain ⟨u',r',q⟩:=hl j y v' e1 e2 e3
        refine ⟨u',r',?_⟩
        rcases q with ⟨k,e⟩ | ⟨k,c,e,z⟩
        · refine .inl ⟨k,?_⟩
          have:y≠x:=fun e=>hj (nodup_ix hN e1 (e ▸ hi))
          simp [this,e]
        · exact .inr ⟨k,c,e,z.sameBut hs (cne y c e)⟩
    · obtain ⟨w',z⟩:=I.cell y c e
      exact ⟨w',z.sameBut hs (cne y c e)⟩
    · obtain ⟨e,n,ne,nf,d⟩:=I.pin p hp
      exact ⟨(hs.2 p.1 ne).trans e,n,ne,nf,d⟩
  · have hfn:X.fn x=true:=by
      rcases hf with z | z
      · exact z
      · rw [z] at hk; cases hk
    obtain ⟨c,hc⟩:=I.ok.has x (.inl hk)
    obtain ⟨w',z⟩:=I.cell x c hc
    refine wpAny_storeName_cell I.ok.kind hk hc z (fun h' hc' hs=>?_)
    obtain ⟨oc,hoc,hocd⟩:=id z
    refine h { s with heap:=h' } ⟨I.ok,I.os,I.bare,⟨fun b o e n hb hx=>?_,fun b o e n hb hx=>?_,I.base.free,fun b o e hx=>?_,I.base.tups,I.base.frzs,I.base.tbls⟩,⟨m,hn.sameBut hs (Ne.symm (cne x c hc)),fun j y v' e1 e2 e3=>?_⟩,fun y c' e=>?_,I.free,I.freeC,fun p hp=>?_,tracked ⟨oc,hoc,I.freeC x c hc⟩ hs,by simpa using I.len⟩ ⟨c,hs,.inr hc⟩
    · exact (hs.2 b (Nat.ne_of_lt (Nat.lt_of_lt_of_le (Heap.lt_size e) (I.ok.cab x c hfn hc)))).trans (I.base.keep b o e n hb hx)
    · obtain ⟨sl,e1⟩:=I.base.slot b o e n hb hx
      exact ⟨sl,(hs.2 b (Nat.ne_of_lt (Nat.lt_of_lt_of_le (Heap.lt_size e) (I.ok.cab x c hfn hc)))).trans e1⟩
    · obtain ⟨o',e1⟩:=I.base.there b o e hx
      exact ⟨o',(hs.2 b (Nat.ne_of_lt (Nat.lt_of_lt_of_le (Heap.lt_size e) (I.ok.cab x c hfn hc)))).trans e1⟩
    · by_cases hj:j=i
      · subst hj
        rw [hi] at e1; cases e1
        rw [List.getElem?_set_self hiσ] at e2
        cases e2
        exact ⟨u,r,.inr ⟨.inl hk,c,hc,hc'⟩⟩
      · rw [List.getElem?_set_ne (Ne.symm hj)] at e2
        obtain ⟨u',r',q⟩:=hl j y v' e1 e2 e3
        refine ⟨u',r',?_⟩
        rcases q with q | ⟨k,c',e,z'⟩
        · exact .inl q
        · refine .inr ⟨k,c',e,z'.sameBut hs ?_⟩
          rintro rfl
          exact hj (nodup_ix hN e1 (I.ok.inj _ _ _ e hc ▸ hi))
    · by_cases hcc:c'=c
      · subst hcc; exact ⟨_,hc'⟩
      · obtain ⟨w2,z2⟩:=I.cell y c' e
        exact ⟨w2,z2.sameBut hs hcc⟩
    · obtain ⟨e,n,ne,nf,d⟩:=I.pin p hp
      refine ⟨(hs.2 p.1 ?_).trans e,n,ne,nf,d⟩
      intro q
      rw [q,hoc] at e
      have q':oc=p.2:=Option.some.inj e
      exact d w' (by rw [← q']; exact hocd)
theorem store_ok {M:Model} {A:Around} {E:Value→Shared→Prop} {i:Nat} {x:Str} {v:V} {u:Value} {Q:Unit→Shared→Prop} (I:Inv X pins σ H s) (hN:X.N.Nodup) (hi:X.N[i]?=some x) (hx:Loc X.env.scope x) (r:RelV v u)
    (h:∀ s',Inv X pins (σ.set i (some v)) H s'→Q () s') (hf:X.fn x=true∨X.env.scope.names.lookup x=some .local:=by first | exact .inl rfl | exact .inr rfl | assumption):wpAny M A (storeName X.env x u) Q E s :=
  store_ok2 I hN hi hx r (fun s' I' _=>h s' I') hf
theorem Inv.call' {s':Shared} {ch:List Addr} (I:Inv X pins σ H s) (ho:s'.os=s.os) (u:Un (frs X.stack) ch H H' s.heap s'.heap) (hok:HOk X.prog X.w H' s'.heap) (hg:AllBare s'.gens)
    (hch:∀ b∈ch,(b∈X.ex∨X.s₀.heap.objs.size≤b)∧b≠X.env.locals∧(∀ x c,X.env.cells.lookup x=some c→c≠b)∧∀ p∈X.pn++pins,p.1≠b):Inv X pins σ H' s':=by
  obtain ⟨h',g',d',t',o'⟩:=s'
  have e:o'=s.os:=ho
  subst e
  exact I.call (g':=g') (t':=t') (d':=d') u hok hg hch
end
noncomputable abbrev XK:=Value→Option Addr→Hp→Prop
noncomputable abbrev St:=List (Option V)
noncomputable abbrev VK:=V→Hp→Prop
noncomputable abbrev TE:=St→Hp→VK→Prop
noncomputable abbrev TT:=St→Hp→(Bool→Hp→Prop)→Prop
noncomputable abbrev TA:=St→Hp→(List V→Hp→Prop)→Prop
structure Ends where
  nx:St→Hp→Prop
  rt:VK
  bk:St→Hp→Prop:=fun _ _=>False
  ct:St→Hp→Prop:=fun _ _=>False
noncomputable abbrev TS:=Ends→St→Hp→Prop
noncomputable def EP (X:Cx) (pins:List (Addr × Obj)) (σ:St) (Q:VK) (u:Value) (s':Shared):Prop:=∃ v H',Inv X pins σ H' s'∧RelV v u∧Q v H'
noncomputable def TP (X:Cx) (pins:List (Addr × Obj)) (σ:St) (Q:Bool→Hp→Prop) (b:Bool) (s':Shared):Prop:=∃ H',Inv X pins σ H' s'∧Q b H'
noncomputable def AP (X:Cx) (pins:List (Addr × Obj)) (σ:St) (Q:List V→Hp→Prop) (us:List Value) (s':Shared):Prop:=∃ vs H',Inv X pins σ H' s'∧Vals vs us∧Q vs H'
noncomputable def SP (X:Cx) (pins:List (Addr × Obj)) (D:Ends) (f:Flow) (s':Shared):Prop :=
  match f with
  | .next=>∃ σ' H',Inv X pins σ' H' s'∧D.nx σ' H'
  | .brk=>∃ σ' H',Inv X pins σ' H' s'∧D.bk σ' H'
  | .cont=>∃ σ' H',Inv X pins σ' H' s'∧D.ct σ' H'
  | .ret u=>∃ v σ' H',Inv X pins σ' H' s'∧RelV v u∧D.rt v H'
noncomputable def PE (X:Cx) (e:Expr) (t:TE):Prop :=
  ∀ (pins:List (Addr × Obj)) (s:Shared) (σ:St) (H:Hp) (Q:VK),Inv X pins σ H s→t σ H Q→wpAny (model X.prog X.w) X.A (eval e X.env) (EP X pins σ Q) X.xe s
noncomputable def PT (X:Cx) (e:Expr) (t:TT):Prop :=
  ∀ (pins:List (Addr × Obj)) (s:Shared) (σ:St) (H:Hp) (Q:Bool→Hp→Prop),Inv X pins σ H s→t σ H Q→wpAny (model X.prog X.w) X.A (isTrue e X.env (eval e X.env)) (TP X pins σ Q) X.xe s
noncomputable def PW (X:Cx) (e:Expr) (t:TT):Prop :=
  ∀ (whole:Sem Value) (pins:List (Addr × Obj)) (s:Shared) (σ:St) (H:Hp) (Q:Bool→Hp→Prop),Inv X pins σ H s→t σ H Q→wpAny (model X.prog X.w) X.A (isTrue e X.env whole) (TP X pins σ Q) X.xe s
theorem PW.pt {X:Cx} {e:Expr} {t:TT} (h:PW X e t):PT X e t:=h _
noncomputable def PA (X:Cx) (es:List Expr) (t:TA):Prop :=
  ∀ (pos:Pos) (pins:List (Addr × Obj)) (s:Shared) (σ:St) (H:Hp) (Q:List V→Hp→Prop),Inv X pins σ H s→t σ H Q→wpAny (model X.prog X.w) X.A (spliced (backTo pos (starEach es X.env))) (AP X pins σ Q) X.xe s
noncomputable def PS (X:Cx) (st:Stmt) (t:TS):Prop :=
  ∀ (pins:List (Addr × Obj)) (s:Shared) (σ:St) (H:Hp) (D:Ends),Inv X pins σ H s→t D σ H→wpAny (model X.prog X.w) X.A (exec st X.env) (SP X pins D) X.xe s
noncomputable def PSs (X:Cx) (st:List Stmt) (t:TS):Prop :=
  ∀ (pins:List (Addr × Obj)) (s:Shared) (σ:St) (H:Hp) (D:Ends),Inv X pins σ H s→t D σ H→wpAny (model X.prog X.w) X.A (execs st X.env) (SP X pins D) X.xe s
theorem thn {α:Type} {t:Sem α} {Q Q':α→Shared→Prop} {M:Model} {A:Around} {E:Value→Shared→Prop} {s:Shared} (h:wpAny M A t Q E s) (hQ:∀ a s,Q a s→Q' a s):wpAny M A t Q' E s:=wpAny_mono h hQ fun _ _ x=>x
end L2
namespace L2
open PySem PySem.Spec PyProof.Rows
section
variable {X:Cx}
noncomputable def tVar (i:Nat):TE:=fun σ H Q=>∃ v,σ[i]?=some (some v)∧Q v H
noncomputable def tC (v:V):TE:=fun _ H Q=>Q v H
theorem pe_var {i:Nat} {x:Str} {pos:Pos} (hN:X.N[i]?=some x) (hv:Vis X.env.scope x) (hd:(x == ("__debug__" : Str))=false:=by decide) (hcd:(x == ("__classdict__" : Str))=false:=by decide):PE X (.Name x pos) (tVar i):=by
  intro pins s σ H Q I h
  obtain ⟨v,e,h⟩:=h
  obtain ⟨m,hn,hl⟩:=I.loc
  obtain ⟨u,r,l⟩:=hl i x v hN e hv
  have fin:EP X pins σ Q u s:=⟨v,H,I,r,h⟩
  rcases l with ⟨hk,hm⟩ | ⟨hk,c,hc,hcell⟩
  · exact wpAny_Name (wpAny_loadName_local I.ok.kind hk hn hm fin) hd
  · rcases hk with hk | hk
    · exact wpAny_Name (wpAny_loadName_cell I.ok.kind hk hc hcell fin) hd
    · exact wpAny_Name (wpAny_loadName_free I.ok.kind hk hc hcell fin hcd) hd
theorem pe_int {i j pos}:PE X (.Constant (.int i) j pos) (tC (.int i)):=fun _ _ _ H _ I h=>wpAny_Constant_int ⟨.int i,H,I.tok _,⟨_,rfl⟩,h⟩
theorem pe_bl {b j pos}:PE X (.Constant (.bool b) j pos) (tC (.bl b)):=fun _ _ _ H _ I h=>Constant_bool ⟨.bl b,H,I,rfl,h⟩
theorem pe_str {x j pos}:PE X (.Constant (.str x) j pos) (tC (.str x)):=fun _ _ _ H _ I h=>Calls.Constant_str ⟨.str x,H,I.tok _,⟨_,rfl⟩,h⟩
noncomputable def Gl (X:Cx) (x:Str):Prop:=X.env.kindOf x=some .globalImplicit
theorem ld_glob {E:Value→Shared→Prop} {pins:List (Addr × Obj)} {s:Shared} {σ:St} {H:Hp} {x:Str} {u:Value} {pos:Pos} {Q:Value→Shared→Prop} (I:Inv X pins σ H s) (hg:Gl X x) (hm:X.mg x=some u) (h:Q u s)
    (hd:(x == ("__debug__" : Str))=false:=by decide):wpAny (model X.prog X.w) X.A (eval (.Name x pos) X.env) Q E s :=
  Calls.Name_function_global I.ok.kind hg (Calls.loadGlobal_global (by rw [I.ok.glob]; exact I.mod.glob.keeps I.bk) hm h) hd
theorem ld_blt {E:Value→Shared→Prop} {pins:List (Addr × Obj)} {s:Shared} {σ:St} {H:Hp} {x:Str} {u:Value} {pos:Pos} {Q:Value→Shared→Prop} (I:Inv X pins σ H s) (hg:Gl X x) (hm:X.mg x=none) (hv:bootBuiltins x=some u) (h:Q u s)
    (hn:x ≠ "__name__":=by decide) (hd:(x == ("__debug__" : Str))=false:=by decide):wpAny (model X.prog X.w) X.A (eval (.Name x pos) X.env) Q E s:=by
  obtain ⟨mb,h1,h2⟩:=I.mod.blt
  exact Calls.Name_function_global I.ok.kind hg (Calls.loadGlobal_builtin (by rw [I.ok.glob]; exact I.mod.glob.keeps I.bk) hm (by rw [I.ok.blt]; exact h1.keeps I.bk) ((h2 x hn).trans hv) h) hd
theorem pe_bltn {x:Str} {v:V} {u:Value} {pos:Pos} (hg:Gl X x) (hm:X.mg x=none) (hv:bootBuiltins x=some u) (r:RelV v u) (hn:x ≠ "__name__":=by decide) (hd:(x == ("__debug__" : Str))=false:=by decide):PE X (.Name x pos) (tC v) :=
  fun _ _ _ H _ I h=>ld_blt I hg hm hv ⟨v,H,I,r,h⟩ hn hd
variable {a b:Expr} {ta tb:TE} {pos:Pos}
noncomputable def tB (t:TE):TT:=fun σ H Q=>t σ H fun x H1=>∃ c,x=.bl c∧Q c H1
theorem pt_val {e:Expr} {t:TE} (h:PE X e t) (he:∀ whole,isTrue e X.env whole=(do let v ← whole; standAt e.pos; holding [v] (truthy v)):=by intro _; rfl):PT X e (tB t):=by
  intro pins s σ H Q I hw
  refine isTrue_plain (thn (h pins s σ H _ I hw) fun v s1 ⟨x,H1,I1,r1,q1⟩=>?_) (he _)
  obtain ⟨d,rfl,q⟩:=q1
  cases r1
  exact wpAny_truthy_bool ⟨H1,I1,q⟩
variable {tA tB':TT} {rest:List Expr}
noncomputable def tAnd (t u:TT):TT:=fun σ H Q=>t σ H fun c H1=>if c=true then u σ H1 Q else Q false H1
noncomputable def tOr (t u:TT):TT:=fun σ H Q=>t σ H fun c H1=>if c=true then Q true H1 else u σ H1 Q
noncomputable def tNot (t:TT):TT:=fun σ H Q=>t σ H fun c H1=>Q (!c) H1
theorem pw_and1 (ha:PT X a tA):PW X (.BoolOp .And [a] pos) tA:=by
  intro wh pins s σ H Q I h
  refine isTrue_and (thn (ha pins s σ H Q I h) fun c s1 e=>?_)
  cases c with
  | true=>exact isTrue_and_nil e
  | false=>exact e
theorem pw_or1 (ha:PT X a tA):PW X (.BoolOp .Or [a] pos) tA:=by
  intro wh pins s σ H Q I h
  refine isTrue_or (thn (ha pins s σ H Q I h) fun c s1 e=>?_)
  cases c with
  | false=>exact isTrue_or_nil e
  | true=>exact e
theorem pw_and (ha:PT X a tA) (hb:PW X (.BoolOp .And (b :: rest) pos) tB'):PW X (.BoolOp .And (a :: b :: rest) pos) (tAnd tA tB'):=by
  intro wh pins s σ H Q I h
  refine isTrue_and (thn (ha pins s σ H _ I h) fun c s1 ⟨H1,I1,q1⟩=>?_)
  cases c with
  | true=>exact hb wh pins s1 σ H1 Q I1 q1
  | false=>exact ⟨H1,I1,q1⟩
theorem pw_or (ha:PT X a tA) (hb:PW X (.BoolOp .Or (b :: rest) pos) tB'):PW X (.BoolOp .Or (a :: b :: rest) pos) (tOr tA tB'):=by
  intro wh pins s σ H Q I h
  refine isTrue_or (thn (ha pins s σ H _ I h) fun c s1 ⟨H1,I1,q1⟩=>?_)
  cases c with
  | true=>exact ⟨H1,I1,q1⟩
  | false=>exact hb wh pins s1 σ H1 Q I1 q1
theorem pt_not (ha:PT X a tA):PT X (.UnaryOp .Not a pos) (tNot tA):=by
  intro pins s σ H Q I h
  exact isTrue_not (ha pins s σ H (fun c H1=>Q (!c) H1) I h)
noncomputable def tAndV (ta tb:TE):TE:=fun σ H Q=>ta σ H fun x H1=>∃ c,x=.bl c∧if c=true then tb σ H1 Q else Q (.bl false) H1
noncomputable def tNotV (ta:TE):TE:=fun σ H Q=>ta σ H fun x H1=>∃ c,x=.bl c∧Q (.bl (!c)) H1
theorem pe_one {op} {t:TE} (h:PE X a t):PE X (.BoolOp op [a] pos) t:=fun pins s σ H Q I hw=>BoolOp_one (h pins s σ H Q I hw)
theorem pe_and (ha:PE X a ta) (hb:PE X (.BoolOp .And (b :: rest) pos) tb):PE X (.BoolOp .And (a :: b :: rest) pos) (tAndV ta tb):=by
  intro pins s σ H Q I h
  refine BoolOp_and (thn (ha pins s σ H _ I h) fun v s1 ⟨x,H1,I1,r1,q1⟩=>?_)
  obtain ⟨c,rfl,q1⟩:=q1
  cases r1
  refine wpAny_truthy_bool ?_
  cases c with
  | true=>exact hb pins s1 σ H1 Q I1 q1
  | false=>exact ⟨.bl false,H1,I1,rfl,q1⟩
theorem pe_not (ha:PE X a ta):PE X (.UnaryOp .Not a pos) (tNotV ta):=by
  intro pins s σ H Q I h
  refine UnaryOp_ (thn (ha pins s σ H _ I h) fun v s1 ⟨x,H1,I1,r1,q1⟩=>?_)
  obtain ⟨c,rfl,q1⟩:=q1
  cases r1
  exact not_of (wpAny_truthy_bool ⟨.bl (!c),H1,I1,rfl,q1⟩)
noncomputable def tIf (t:TT) (ta tb:TE):TE:=fun σ H Q=>t σ H fun c H1=>if c=true then ta σ H1 Q else tb σ H1 Q
theorem pe_ifExp {c:Expr} (hc:PT X c tA) (ha:PE X a ta) (hb:PE X b tb):PE X (.IfExp c a b pos) (tIf tA ta tb):=by
  intro pins s σ H Q I h
  refine wpAny_IfExp (thn (hc pins s σ H _ I h) fun d s1 ⟨H1,I1,q1⟩=>?_)
  cases d with
  | true=>exact ha pins s1 σ H1 Q I1 q1
  | false=>exact hb pins s1 σ H1 Q I1 q1
end
end L2
namespace L2
open PySem PySem.Spec PyProof.Rows
noncomputable def SqL (K:PySem.W.Frag) (H:Hp) (a:Addr) (xs:List V):Prop :=
  Rd H a (.lst xs) ∨
    ∃ (o:Obj) (its:Array Value) (n:Nat),K.lookup a=some o∧o.cls=.type "list"∧o.dict=none∧o.data=.seq its n∧its.size≤sizeLine∧Vals xs its.toList
noncomputable def SqT (K:PySem.W.Frag) (H:Hp) (a:Addr) (xs:List V):Prop :=
  Rd H a (.tup xs) ∨
    ∃ (o:Obj) (its:Array Value) (n:Nat),K.lookup a=some o∧o.cls=.type "tuple"∧o.data=.seq its n∧its.size≤sizeLine∧Vals xs its.toList
noncomputable def absV:Value→Option V
  | .none=>some .non
  | .bool b=>some (.bl b)
  | .int i _=>some (.int i)
  | .str x _=>some (.str x)
  | .bytes b _=>some (.byt b)
  | .float b _=>some (.flt b)
  | .ref a=>some (.ref a)
  | .type n=>some (.ty n)
  | _=>none
theorem RelV.abs {x:V} {u:Value} (r:RelV x u):absV u=some x:=by
  cases x with
  | non=>cases r; rfl
  | bl _=>cases r; rfl
  | int _=>obtain ⟨t,rfl⟩:=r; rfl
  | str _=>obtain ⟨t,rfl⟩:=r; rfl
  | byt _=>obtain ⟨t,rfl⟩:=r; rfl
  | flt _=>obtain ⟨t,rfl⟩:=r; rfl
  | ref _=>cases r; rfl
  | ty _=>cases r; rfl
theorem RelV.inj {x y:V} {u:Value} (r:RelV x u) (q:RelV y u):x=y:=Option.some.inj (r.abs.symm.trans q.abs)
theorem Vals.inj:∀ {xs ys:List V} {us:List Value},Vals xs us→Vals ys us→xs=ys
  | _,_,_,.nil,.nil=>rfl
  | _,_,_,.cons r t,.cons r' t'=>by rw [r.inj r',Vals.inj t t']
section
variable {X:Cx} {pins:List (Addr × Obj)} {σ:St} {H:Hp} {s:Shared} {a:Addr} {xs ys:List V}
theorem SqL.of {K:PySem.W.Frag} (h:H a=some (.lst xs)):SqL K H a xs:=.inl (.inl h)
theorem SqT.of {K:PySem.W.Frag} (h:H a=some (.tup xs)):SqT K H a xs:=.inl (.inl h)
theorem Inv.list (I:Inv X pins σ H s) (h:SqL X.K H a xs):∃ its:List Value,Vals xs its∧PlainL s.heap a its.toArray∧xs.length≤sizeLine:=by
  rcases h with h | ⟨o,its,n,hk,hc,hd,hs,hz,r⟩
  · obtain ⟨z,its,n,r,e⟩:=h.ok I.hok
    exact ⟨its,r,⟨_,n,e,rfl,rfl,rfl⟩,z⟩
  · refine ⟨its.toList,r,⟨o,n,I.kIn a o hk,hc,hd,by simpa using hs⟩,?_⟩
    have e:=r.length
    simp only [Array.length_toList] at e
    omega
theorem Inv.tuple (I:Inv X pins σ H s) (h:SqT X.K H a xs):∃ its:List Value,Vals xs its∧IsTup s.heap a its.toArray∧xs.length≤sizeLine:=by
  rcases h with h | ⟨o,its,n,hk,hc,hs,hz,r⟩
  · obtain ⟨z,its,r,p⟩:=h.ok I.hok
    exact ⟨its,r,p,z⟩
  · refine ⟨its.toList,r,⟨o,I.kIn a o hk,hc,n,by simpa using hs⟩,?_⟩
    have e:=r.length
    simp only [Array.length_toList] at e
    omega
theorem Inv.list_inj (I:Inv X pins σ H s) (h:SqL X.K H a xs) (h':SqL X.K H a ys):xs=ys:=by
  obtain ⟨its,r,⟨o,n,e,_,_,d⟩,_⟩:=I.list h
  obtain ⟨its',r',⟨o',n',e',_,_,d'⟩,_⟩:=I.list h'
  rw [e] at e'; cases e'
  rw [d] at d'
  injection d' with d1 _
  have:its=its':=by simpa using congrArg Array.toList d1
  subst this
  exact r.inj r'
theorem Inv.tuple_inj (I:Inv X pins σ H s) (h:SqT X.K H a xs) (h':SqT X.K H a ys):xs=ys:=by
  obtain ⟨its,r,⟨o,e,_,n,d⟩,_⟩:=I.tuple h
  obtain ⟨its',r',⟨o',e',_,n',d'⟩,_⟩:=I.tuple h'
  rw [e] at e'; cases e'
  rw [d] at d'
  injection d' with d1 _
  have:its=its':=by simpa using congrArg Array.toList d1
  subst this
  exact r.inj r'
end
noncomputable abbrev Cx.wish (X:Cx) (E:Value→Shared→Prop):Cx:={ X with xe:=E }
noncomputable abbrev Cx.nox (X:Cx):Cx:=X.wish fun _ _=>False
theorem Cx.Ok.wish {X:Cx} (ok:X.Ok) (E:Value→Shared→Prop):(X.wish E).Ok :=
  ⟨ok.mod,ok.kind,ok.glob,ok.blt,ok.above,ok.inj,ok.has,ok.cab,ok.hd,ok.frames,ok.stk,ok.exf,ok.bs,ok.bsz,ok.noex,ok.exfs,ok.funs,ok.frf⟩
theorem Cx.Ok.unwish {X:Cx} {E:Value→Shared→Prop} (ok:(X.wish E).Ok):X.Ok :=
  ⟨ok.mod,ok.kind,ok.glob,ok.blt,ok.above,ok.inj,ok.has,ok.cab,ok.hd,ok.frames,ok.stk,ok.exf,ok.bs,ok.bsz,ok.noex,ok.exfs,ok.funs,ok.frf⟩
section
variable {X:Cx} {pins:List (Addr × Obj)} {σ:St} {H:Hp} {s:Shared} {E:Value→Shared→Prop}
theorem Inv.wish (I:Inv X pins σ H s) (E:Value→Shared→Prop):Inv (X.wish E) pins σ H s:=⟨I.ok.wish E,I.os,I.bare,I.base,I.loc,I.cell,I.free,I.freeC,I.pin,I.hok,I.len⟩
theorem Inv.unwish (I:Inv (X.wish E) pins σ H s):Inv X pins σ H s:=⟨I.ok.unwish,I.os,I.bare,I.base,I.loc,I.cell,I.free,I.freeC,I.pin,I.hok,I.len⟩
theorem SP.unwish {D:Ends} {f:Flow} {s':Shared} (h:SP (X.wish E) pins D f s'):SP X pins D f s':=by
  cases f with
  | next=>obtain ⟨σ',H',I,q⟩:=h; exact ⟨σ',H',I.unwish,q⟩
  | brk=>obtain ⟨σ',H',I,q⟩:=h; exact ⟨σ',H',I.unwish,q⟩
  | cont=>obtain ⟨σ',H',I,q⟩:=h; exact ⟨σ',H',I.unwish,q⟩
  | ret u=>obtain ⟨v,σ',H',I,r,q⟩:=h; exact ⟨v,σ',H',I.unwish,r,q⟩
theorem PSs.nox {st:List Stmt} {t:TS} (h:PSs X.nox st t):PSs X st t:=fun pins s σ H D I hw =>
  wpAny_mono (h pins s σ H D (I.wish _) hw) (fun _ _ q=>q.unwish) fun _ _ z=>False.elim z
end
section
variable {X:Cx} {st:Stmt} {rest:List Stmt} {t u:TS} {e:Expr} {te:TE} {pos:Pos}
noncomputable def tNext:TS:=fun D σ H=>D.nx σ H
noncomputable def tSeq (t u:TS):TS:=fun D σ H=>t { D with nx:=u D } σ H
theorem pss_nil:PSs X [] tNext:=fun _ _ σ H _ I h=>wpAny_execs_nil ⟨σ,H,I,h⟩
theorem pss_cons (h1:PS X st t) (h2:PSs X rest u):PSs X (st :: rest) (tSeq t u):=by
  intro pins s σ H D I h
  refine wpAny_execs_cons (thn (h1 pins s σ H { D with nx:=u D } I h) fun f s1 q=>?_)
  cases f with
  | next =>
    obtain ⟨σ',H',I',q⟩:=q
    exact h2 pins s1 σ' H' D I' q
  | ret v=>exact q
  | brk=>exact q
  | cont=>exact q
theorem pss_one (h1:PS X st t):PSs X [st] t:=by
  intro pins s σ H D I h
  refine wpAny_execs_cons (thn (h1 pins s σ H D I h) fun f s1 q=>?_)
  cases f with
  | next=>exact wpAny_execs_nil q
  | ret v=>exact q
  | brk=>exact q
  | cont=>exact q
theorem Inv.quiet {pins:List (Addr × Obj)} {σ:St} {H:Hp} {s:Shared} (I:Inv X pins σ H s):interactive X.env=false:=by simp [interactive,I.ok.kind]
noncomputable def tDrop (te:TE):TS:=fun D σ H=>te σ H fun _ H1=>D.nx σ H1
theorem ps_expr (he:PE X e te) (hs:swapsWith e none pos.line X.env=pure false:=by rfl):PS X (.Expr e pos) (tDrop te):=by
  intro pins s σ H D I h
  exact wpAny_Expr_any (thn (he pins s σ H _ I h) fun v s1 ⟨x,H1,I1,r1,q1⟩=>⟨σ,H1,I1,q1⟩) I.quiet hs
noncomputable def tRet (te:TE):TS:=fun D σ H=>te σ H D.rt
theorem ps_ret (he:PE X e te):PS X (.Return (some e) pos) (tRet te):=by
  intro pins s σ H D I h
  exact wpAny_Return_some (thn (he pins s σ H _ I h) fun v s1 ⟨x,H1,I1,r1,q1⟩=>⟨x,σ,H1,I1,r1,q1⟩)
noncomputable def tIfS (c:TT) (t u:TS):TS:=fun D σ H=>c σ H fun b H1=>if b=true then t D σ H1 else u D σ H1
theorem ps_if {c:Expr} {a b:List Stmt} {tc:TT} (hc:PT X c tc) (ha:PSs X a t) (hb:PSs X b u):PS X (.If c a b pos) (tIfS tc t u):=by
  intro pins s σ H D I h
  refine wpAny_If (thn (hc pins s σ H _ I h) fun d s1 ⟨H1,I1,q1⟩=>?_)
  cases d with
  | true=>exact ha pins s1 σ H1 D I1 q1
  | false=>exact hb pins s1 σ H1 D I1 q1
end
noncomputable abbrev TG:=V→St→Hp→(St→Hp→Prop)→Prop
noncomputable abbrev TGs:=List V→St→Hp→(St→Hp→Prop)→Prop
noncomputable def PG (X:Cx) (target:Expr) (t:TG):Prop :=
  ∀ (pins:List (Addr × Obj)) (s:Shared) (σ:St) (H:Hp) (v:V) (u:Value) (Q:St→Hp→Prop),Inv X pins σ H s→RelV v u→t v σ H Q →
    wpAny (model X.prog X.w) X.A (assign target X.env u) (fun _ s'=>∃ σ' H',Inv X pins σ' H' s'∧Q σ' H') X.xe s
noncomputable def PGs (X:Cx) (ts:List Expr) (t:TGs):Prop :=
  ∀ (pins:List (Addr × Obj)) (s:Shared) (σ:St) (H:Hp) (vs:List V) (us:List Value) (Q:St→Hp→Prop),Inv X pins σ H s→Vals vs us→t vs σ H Q →
    wpAny (model X.prog X.w) X.A (assignInOrder ((assignEach ts X.env).map (·.2)) us) (fun _ s'=>∃ σ' H',Inv X pins σ' H' s'∧Q σ' H') X.xe s
noncomputable abbrev TSet:=V→V→V→Hp→(Hp→Prop)→Prop
noncomputable def PSet (X:Cx) (t:TSet):Prop :=
  ∀ (pins:List (Addr × Obj)) (s:Shared) (σ:St) (H:Hp) (o i v:V) (ov iv u:Value) (Q:Hp→Prop),Inv X pins σ H s→RelV o ov→RelV i iv→RelV v u→t o i v H Q →
    wpAny (model X.prog X.w) X.A (setItem ov iv u) (fun _ s'=>∃ H',Inv X pins σ H' s'∧Q H') X.xe s
noncomputable abbrev TIp:=V→V→Hp→VK→Prop
noncomputable def PIp (X:Cx) (op:Operator) (t:TIp):Prop :=
  ∀ (pins:List (Addr × Obj)) (s:Shared) (σ:St) (H:Hp) (x y:V) (v u:Value) (Q:VK),Inv X pins σ H s→RelV x v→RelV y u→t x y H Q →
    wpAny (model X.prog X.w) X.A (inplaceOp op v u) (EP X pins σ Q) X.xe s
section
variable {X:Cx} {pos:Pos}
noncomputable def gName (i:Nat):TG:=fun v σ H Q=>Q (σ.set i (some v)) H
theorem pg_name {i:Nat} {x:Str} (hN:X.N.Nodup) (hi:X.N[i]?=some x) (hx:Loc X.env.scope x) (hf:X.fn x=true∨X.env.scope.names.lookup x=some .local:=by first | exact .inl rfl | exact .inr rfl | assumption):PG X (.Name x pos) (gName i):=by
  intro pins s σ H v u Q I r h
  exact wpAny_assign_Name (store_ok I hN hi hx r (fun s' I'=>⟨_,H,I',h⟩) hf)
noncomputable def gNil:TGs:=fun vs σ H Q=>vs=[]∧Q σ H
noncomputable def gCons (t:TG) (u:TGs):TGs:=fun vs σ H Q=>∃ v r,vs=v :: r∧t v σ H fun σ' H'=>u r σ' H' Q
theorem pgs_nil:PGs X [] gNil:=by
  intro pins s σ H vs us Q I r h
  obtain ⟨e,h⟩:=h
  subst e
  cases r
  exact assignInOrder_nil ⟨σ,H,I,h⟩
theorem pgs_cons {e:Expr} {es:List Expr} {t:TG} {u:TGs} (h1:PG X e t) (h2:PGs X es u)
    (hs:(assignEach (e :: es) X.env).map (·.2)=assign e X.env :: (assignEach es X.env).map (·.2):=by rfl):PGs X (e :: es) (gCons t u):=by
  intro pins s σ H vs us Q I r h
  obtain ⟨v,vr,e1,h⟩:=h
  subst e1
  cases r with
  | cons r rr =>
    rw [hs]
    refine assignInOrder_cons (thn (h1 pins s σ H _ _ _ I r h) fun _ s1 ⟨σ1,H1,I1,q1⟩=>?_)
    exact h2 pins s1 σ1 H1 _ _ Q I1 rr q1
noncomputable def gTup (K:PySem.W.Frag) (n:Nat) (t:TGs):TG:=fun v σ H Q=>∃ a xs,v=.ref a∧SqT K H a xs∧xs.length=n∧t xs σ H Q
theorem pg_tup {es:List Expr} {k:Nat} {t:TGs} {n:Nat} (hc:X.calm=true) (h:PGs X es t)
    (hn:(assignEach es X.env).length=n:=by rfl) (hst:(assignEach es X.env).findIdx? (·.1)=none:=by rfl):PG X (.Tuple es k pos) (gTup X.K n t):=by
  intro pins s σ H v u Q I r hw
  obtain ⟨a,xs,e1,hq,hl,hw⟩:=hw
  subst e1
  cases r
  obtain ⟨its,rv,ht,hz⟩:=I.tuple hq
  refine assign_Tuple_tuple (I.ok.hd hc) ht (by simp [hn,← hl,rv.length]) hst fun h' hx=>?_
  have I1:Inv X pins σ H { s with heap:=h' }:=I.kept (t':=s.toks) fun b o e=>hx b o (Nat.ne_of_lt (Heap.lt_size e)) e
  exact h pins _ σ H xs _ Q I1 (by simpa using rv) hw
noncomputable def gSub (to ti:TE) (t:TSet):TG:=fun v σ H Q=>to σ H fun o H1=>ti σ H1 fun i H2=>t o i v H2 fun H3=>Q σ H3
theorem pg_sub {o i:Expr} {to ti:TE} {t:TSet} (ho:PE X o to) (hi:PE X i ti) (hs:PSet X t)
    (ha:∀ v,assign (.Subscript o i pos) X.env v=(do
      let ov ← holding [v] (eval o X.env)
      let iv ← holding [v,ov] (eval i X.env)
      standAt pos
      holding [v,ov,iv] (setItem ov iv v)
      release [v,ov,iv] []):=by intro _; rfl):PG X (.Subscript o i pos) (gSub to ti t):=by
  intro pins s σ H v u Q I r h
  rw [ha]
  refine wpAny_bind (wpAny_holding (thn (ho pins s σ H _ I h) fun ov s1 ⟨x,H1,I1,r1,q1⟩=>?_))
  refine wpAny_bind (wpAny_holding (thn (hi pins s1 σ H1 _ I1 q1) fun iv s2 ⟨y,H2,I2,r2,q2⟩=>?_))
  refine wpAny_bind (wpAny_standAt (wpAny_bind (wpAny_holding (thn (hs pins s2 σ H2 x y v ov iv u _ I2 r1 r2 r q2) fun _ s3 ⟨H3,I3,q3⟩=>?_))))
  exact wpAny_release ⟨σ,H3,I3,q3⟩
noncomputable def tAsg (te:TE) (g:TG):TS:=fun D σ H=>te σ H fun x H1=>g x σ H1 D.nx
theorem ps_asg {tg e:Expr} {te:TE} {g:TG} (he:PE X e te) (hg:PG X tg g) (hs:swapsWithSole [tg] e pos.line X.env=pure false:=by rfl) (hw:swappedStores [tg] e X.env=pure none:=by rfl)
    (h1:(assignEach [tg] X.env).map (·.2)=[assign tg X.env]:=by rfl):PS X (.Assign [tg] e pos) (tAsg te g):=by
  intro pins s σ H D I h
  refine wpAny_Assign_stores (thn (he pins s σ H _ I h) fun v s1 ⟨x,H1,I1,r1,q1⟩=>?_) hs hw
  rw [h1]
  exact thn (hg pins s1 σ H1 x v _ I1 r1 q1) fun _ s2 q=>q
theorem ps_set {i:Nat} {x:Str} {e:Expr} {te:TE} {pos':Pos} (hN:X.N.Nodup) (hi:X.N[i]?=some x) (hx:Loc X.env.scope x) (he:PE X e te) (hs:swapsWith e (some (.Name x pos')) pos.line X.env=pure false:=by rfl) (hf:X.fn x=true∨X.env.scope.names.lookup x=some .local:=by first | exact .inl rfl | exact .inr rfl | assumption) :
    PS X (.Assign [.Name x pos'] e pos) (tAsg te (gName i)):=by
  intro pins s σ H D I h
  refine wpAny_Assign_Name (thn (he pins s σ H _ I h) fun v s1 ⟨y,H1,I1,r1,q1⟩=>?_) hs
  exact store_ok I1 hN hi hx r1 (fun s2 I2=>⟨_,H1,I2,q1⟩) hf
noncomputable def tPar (i j:Nat) (ta:TA):TS:=fun D σ H=>ta σ H fun vs H1=>∃ v w,vs=[v,w]∧D.nx ((σ.set i (some v)).set j (some w)) H1
theorem ps_par {i j:Nat} {x y:Str} {a b:Expr} {ta:TA} {px py pt:Pos} {kt k2 pt2} (hc:X.calm=true) (hN:X.N.Nodup) (hi:X.N[i]?=some x) (hj:X.N[j]?=some y) (hij:i≠j)
    (hx:X.env.scope.names.lookup x=some .local) (hy:X.env.scope.names.lookup y=some .local) (ha:PA X [a,b] ta)
    (hw:swappedStores [.Tuple [.Name x px,.Name y py] kt pt] (.Tuple [a,b] k2 pt2) X.env=pure (some [x,y]))
    (hs:swapsWithSole [.Tuple [.Name x px,.Name y py] kt pt] (.Tuple [a,b] k2 pt2) pos.line X.env=pure false:=by rfl) :
    PS X (.Assign [.Tuple [.Name x px,.Name y py] kt pt] (.Tuple [a,b] k2 pt2) pos) (tPar i j ta):=by
  intro pins s σ H D I h
  rw [exec_Assign_arm]
  refine wpAny_bind (wpAny_standAt ?_)
  rw [hs]
  refine wpAny_bind (wpAny_pure ?_)
  rw [if_neg (by decide)]
  refine wpAny_bind (Tuple_ (thn (ha _ pins s σ H _ I h) fun us s1 ⟨vs,H1,I1,r1,q1⟩=>?_))
  obtain ⟨v,w,e1,q1⟩:=q1
  subst e1
  obtain ⟨u1,u2,rfl,rv,rw'⟩:∃ u1 u2,us=[u1,u2]∧RelV v u1∧RelV w u2:=by
    cases r1 with
    | cons p q =>
      cases q with
      | cons p' q' =>
        cases q'
        exact ⟨_,_,rfl,p,p'⟩
  refine wpAny_newObj_type ?_ (by show 2≤sizeLine; decide)
  have I2:Inv X pins σ H1 { s1 with heap:=s1.heap.push { cls:=.type "tuple",data:=.seq [u1,u2].toArray } }:=I1.kept (t':=s1.toks) fun b o e=>Heap.get?_push_of_some _ e
  rw [hw]
  refine wpAny_bind (wpAny_pure ?_)
  show wpAny (model X.prog X.w) X.A (do rule "assign.swapped-stores"; let items ← unpackItems (.ref s1.heap.objs.size) 2 none; assignInOrder [fun v=>bindName X.env y v,fun v=>bindName X.env x v] items.reverse; pure Flow.next) _ _ _
  refine wpAny_bind (wpAny_rule (wpAny_bind (unpackItems_tuple (items:=#[u1,u2]) (I.ok.hd hc) (IsTup.new s1.heap _) fun h' hx'=>?_)))
  have I3:=I2.kept (h':=h') (t':=s1.toks) fun b o e=>hx' b o (Nat.ne_of_lt (Heap.lt_size e)) e
  show wpAny _ _ (assignInOrder [fun v=>bindName X.env y v,fun v=>bindName X.env x v] [u2,u1] >>= fun _=>pure Flow.next) _ _ _
  refine wpAny_bind (assignInOrder_cons (wpAny_bindName (store_ok I3 hN hj (.inl hy) rw' (fun s2 I4=>?_) (.inr hy))))
  refine assignInOrder_cons (wpAny_bindName (store_ok I4 hN hi (.inl hx) rv (fun s3 I5=>assignInOrder_nil (wpAny_pure ?_)) (.inr hx)))
  rw [List.set_comm _ _ (Ne.symm hij)] at I5
  exact ⟨_,H1,I5,q1⟩
noncomputable def tAug (i:Nat) (te:TE) (ti:TIp):TS:=fun D σ H=>∃ x,σ[i]?=some (some x)∧te σ H fun y H1=>ti x y H1 fun z H2=>D.nx (σ.set i (some z)) H2
theorem ps_aug {i:Nat} {x:Str} {e:Expr} {te:TE} {op:Operator} {ti:TIp} {pos':Pos} (hN:X.N.Nodup) (hi:X.N[i]?=some x) (hx:Loc X.env.scope x) (he:PE X e te) (ho:PIp X op ti) (hf:X.fn x=true∨X.env.scope.names.lookup x=some .local:=by first | exact .inl rfl | exact .inr rfl | assumption) :
    PS X (.AugAssign (.Name x pos') op e pos) (tAug i te ti):=by
  intro pins s σ H D I h
  obtain ⟨v,e1,h⟩:=h
  obtain ⟨m,hn,hl⟩:=I.loc
  have vis:Vis X.env.scope x:=by rcases hx with k | k; exact .inl k; exact .inr (.inl k)
  obtain ⟨u,r,l⟩:=hl i x v hi e1 vis
  refine wpAny_AugAssign_Name ?_
  have go:wpAny (model X.prog X.w) X.A (eval e X.env) (fun w s₂=>wpAny (model X.prog X.w) X.A (inplaceOp op u w) (fun r s₃=>wpAny (model X.prog X.w) X.A (storeName X.env x r) (fun _=>SP X pins D .next) X.xe s₃) X.xe s₂) X.xe s:=by
    refine thn (he pins s σ H _ I h) fun w s1 ⟨y,H1,I1,r1,q1⟩=>?_
    refine thn (ho pins s1 σ H1 v y u w _ I1 r r1 q1) fun z s2 ⟨zv,H2,I2,r2,q2⟩=>?_
    exact store_ok I2 hN hi hx r2 (fun s3 I3=>⟨_,H2,I3,q2⟩) hf
  rcases l with ⟨hk,hm⟩ | ⟨hk,c,hc,hcell⟩
  · exact wpAny_loadName_local I.ok.kind hk hn hm go
  · rcases hk with hk | hk
    · exact wpAny_loadName_cell I.ok.kind hk hc hcell go
    · rcases hx with k | k
      · have:X.env.scope.names.lookup x=some .free:=hk
        rw [k] at this; cases this
      · have:X.env.scope.names.lookup x=some .free:=hk
        rw [k] at this; cases this
end
section
variable {X:Cx} {pos:Pos}
noncomputable def tWhile (c:TT) (tb:TS):TS:=fun D σ H=>∃ W:Nat→St→Hp→Prop,(∃ m,W m σ H)∧∀ m σ H,W m σ H →
  c σ H fun b H1=>if b=true then ∃ N:St→Hp→Prop,(∀ σ' H',N σ' H'→∃ m',m' < m∧W m' σ' H')∧tb { D with nx:=N,ct:=N,bk:=D.nx } σ H1 else D.nx σ H1
theorem ps_while {c:Expr} {body:List Stmt} {tc:TT} {tb:TS} (hp:PassesOwn (model X.prog X.w) X.A X.env X.xe) (hc:PT X c tc) (hb:PSs X body tb):PS X (.While c body [] pos) (tWhile tc tb):=by
  intro pins s σ H D I h
  obtain ⟨W,⟨m0,w0⟩,turn⟩:=h
  refine wpAny_While (codeAny_whileLoop (fun n s'=>∃ σ' H',Inv X pins σ' H' s'∧W n σ' H') ?_ m0 ⟨σ,H,I,w0⟩)
  rintro n s1 ⟨σ1,H1,I1,w1⟩
  refine wpAny_passesOwn hp (thn (hc pins s1 σ1 H1 _ I1 (turn n σ1 H1 w1)) fun b s2 ⟨H2,I2,q2⟩=>?_)
  cases b with
  | true =>
    obtain ⟨N,hN,q2⟩:=q2
    rw [if_pos rfl]
    refine wpAny_passesOwn hp (thn (hb pins s2 σ1 H2 _ I2 q2) fun f s3 q3=>?_)
    cases f with
    | next =>
      obtain ⟨σ3,H3,I3,n3⟩:=q3
      obtain ⟨m',hm,w3⟩:=hN σ3 H3 n3
      exact ⟨m',hm,σ3,H3,I3,w3⟩
    | cont =>
      obtain ⟨σ3,H3,I3,n3⟩:=q3
      obtain ⟨m',hm,w3⟩:=hN σ3 H3 n3
      exact ⟨m',hm,σ3,H3,I3,w3⟩
    | brk=>exact q3
    | ret v=>exact q3
  | false =>
    rw [if_neg Bool.false_ne_true]
    exact wpAny_execs_nil ⟨σ1,H2,I2,q2⟩
end
structure It where
  go:Nat→Hp→Prop
  yld:Nat→Hp→V→Hp→Prop
  stop:Nat→Hp→Prop
noncomputable def FpOk (X:Cx) (pins:List (Addr × Obj)) (H:Hp) (b:Addr):Prop :=
  H b=none∧b≠X.env.locals∧b ∉ X.fs∧(b∈X.ex∨X.s₀.heap.objs.size≤b)∧(∀ x c,X.env.cells.lookup x=some c→c≠b)∧∀ p∈X.pn++pins,p.1≠b
theorem Inv.fpOk {X:Cx} {pins:List (Addr × Obj)} {σ:St} {H H':Hp} {s:Shared} {b:Addr} (I:Inv X pins σ H s) (hb:s.heap.objs.size≤b) (hn:H' b=none):FpOk X pins H' b:=by
  refine ⟨hn,Nat.ne_of_gt (Nat.lt_of_lt_of_le I.lt hb),I.nofs hb,.inr (Nat.le_trans I.sz hb),fun x c e z=>?_,fun p hp z=>?_⟩
  · obtain ⟨v,q⟩:=I.cell x c e
    exact absurd (Nat.lt_of_lt_of_le q.lt (by rw [z]; exact hb)) (Nat.lt_irrefl _)
  · exact absurd (Nat.lt_of_lt_of_le (Heap.lt_size (I.pin p hp).1) (by rw [z]; exact hb)) (Nat.lt_irrefl _)
structure Turn (P:Program) (w:World) (K:PySem.W.Frag) (tg:Expr) (J:It) (fp:List Addr) (it:Addr) (tn:Nat→Heap→Prop):Prop where
  mem:it∈fp
  obj:∀ i h,tn i h→∀ b∈fp,∃ o,h.get? b=some o∧∀ v,o.data≠.cell v
  keep:∀ i h h',tn i h→(∀ b∈fp,∀ o,h.get? b=some o→h'.get? b=some o)→tn i h'
  item:∀ (X:Cx),X.prog=P→X.w=w→X.K=K→X.calm=true→∀ (i:Nat) (pins:List (Addr × Obj)) (s:Shared) (σ:St) (H:Hp) (E:Value→Shared→Prop),Inv X pins σ H s→(∀ b∈fp,FpOk X pins H b)→tn i s.heap→J.go i H →
    wpAny (model P w) X.A (pyNext (.ref it)) (fun r s1=>∃ u,r=some u ∧
      wpAny (model P w) X.A (letOwnedTupleGo tg (.ref it) u) (fun _ s2=>∃ x H',Inv X pins σ H' s2∧RelV x u∧J.yld i H x H'∧tn (i+1) s2.heap∧∀ b∈fp,H' b=none) E s1) E s
  done:∀ (X:Cx),X.prog=P→X.w=w→X.K=K→X.calm=true→∀ (i:Nat) (pins:List (Addr × Obj)) (s:Shared) (σ:St) (H:Hp) (E:Value→Shared→Prop),Inv X pins σ H s→(∀ b∈fp,FpOk X pins H b)→tn i s.heap→J.stop i H →
    wpAny (model P w) X.A (pyNext (.ref it)) (fun r s1=>r=none∧Inv X pins σ H s1) E s
  self:∀ (A:Around) (i:Nat) (s:Shared) (Q:Value→Shared→Prop) (E:Value→Shared→Prop),tn i s.heap→Q (.ref it) s→wpAny (model P w) A (pyIter (.ref it)) Q E s
noncomputable abbrev TI:=St→Hp→(It→Hp→Prop)→Prop
noncomputable def PIE (X:Cx) (pins:List (Addr × Obj)) (σ:St) (tg:Expr) (R:It→Hp→Prop) (itv:Value) (s2:Shared):Prop :=
  ∃ (it:Addr) (fp:List Addr) (tn:Nat→Heap→Prop) (J:It) (H':Hp),itv=.ref it∧Inv X pins σ H' s2∧Turn X.prog X.w X.K tg J fp it tn∧tn 0 s2.heap∧(∀ b∈fp,FpOk X pins H' b)∧R J H'
noncomputable def PI (X:Cx) (tg iter:Expr) (wi:TI):Prop :=
  ∀ (pins:List (Addr × Obj)) (s:Shared) (σ:St) (H:Hp) (R:It→Hp→Prop),Inv X pins σ H s→wi σ H R →
    wpAny (model X.prog X.w) X.A (eval iter X.env) (fun v s1=>wpAny (model X.prog X.w) X.A (pyIter v) (PIE X pins σ tg R) X.xe s1) X.xe s
theorem go_of {M:Model} {A:Around} {E:Value→Shared→Prop} {s:Shared} {tg:Expr} {it:Addr} {u:Value} {o:Obj} {n:String} {vs:Array Value} {Q:Unit→Shared→Prop} (ho:s.heap.get? it=some o) (hc:o.cls=.type n) (hd:o.data=.fields vs)
    (hn:["enumerate", "zip", "dict_itemiterator", "dict_reverseitemiterator", "odict_iterator", "itertools.zip_longest", "itertools.pairwise"].contains n=false) (hQ:Q () s):wpAny M A (letOwnedTupleGo tg (.ref it) u) Q E s:=by
  unfold letOwnedTupleGo
  cases tg <;> first
    | exact wpAny_pure hQ
    | (cases u <;> first
        | exact wpAny_pure hQ
        | (refine wpAny_bind (wpAny_load ho ?_)
           rw [hc,hd]
           show wpAny M A (if (["enumerate", "zip", "dict_itemiterator", "dict_reverseitemiterator", "odict_iterator", "itertools.zip_longest", "itertools.pairwise"].contains n && vs[0]? == some (rawInt _))=true then _ else _) Q E s
           rw [if_neg (by intro h; rw [hn,Bool.false_and] at h; cases h)]
           exact wpAny_pure hQ))
noncomputable def Itl (K:PySem.W.Frag) (a:Addr):It :=
  ⟨fun i H=>∃ xs x,SqL K H a xs∧xs[i]?=some x,fun i H x H'=>H'=H∧∀ xs,SqL K H a xs→xs[i]?=some x,fun i H=>∃ xs,SqL K H a xs∧xs.length≤i⟩
noncomputable def Itt (K:PySem.W.Frag) (a:Addr):It :=
  ⟨fun i H=>∃ xs x,SqT K H a xs∧xs[i]?=some x,fun i H x H'=>H'=H∧∀ xs,SqT K H a xs→xs[i]?=some x,fun i H=>∃ xs,SqT K H a xs∧xs.length≤i⟩
noncomputable def Itr (lo:Int) (n:Nat):It:=⟨fun i _=>i < n,fun i H x H'=>H'=H∧x=.int (lo+i),fun i _=>n≤i⟩
theorem turn_list {P:Program} {w:World} {K:PySem.W.Frag} {tg:Expr} (a it:Addr):Turn P w K tg (Itl K a) [it] it (fun i h=>h.IsListIter it a i) where
  mem:=by simp
  obj:=fun i h st b hb=>by
    have e:b=it:=by simpa using hb
    subst e
    obtain ⟨o,e,c,d⟩:=st
    exact ⟨o,e,fun v z=>by rw [d] at z; cases z⟩
  keep:=fun i h h' st k=>st.at fun o e=>k it (by simp) o e
  item:=by
    intro X hP hw hK hc i pins s σ H E I hf st hg
    subst hP hw hK
    obtain ⟨xs,x,hq,hx⟩:=hg
    obtain ⟨its,rv,p,hz⟩:=I.list hq
    obtain ⟨u,hu,ru⟩:=rv.get hx
    obtain ⟨f0,f1,f2,f3,f4,f5⟩:=hf it (by simp)
    refine wpAny_pyNext_list_item st p.isList (x:=u) (by simpa using hu) fun h' st' sb=>?_
    have I1:Inv X pins σ H { s with heap:=h' }:=I.turned (t':=s.toks) (fun b o hb e=>(sb.2 b hb).trans e) f0 f1 f3 f4 f5
    obtain ⟨o,e,c,d⟩:=id st'
    exact ⟨u,rfl,go_of (s:={ s with heap:=h' }) e c d (by decide) ⟨x,H,I1,ru,⟨rfl,fun ys hy=>by rw [I.list_inj hy hq]; exact hx⟩,st',fun b hb=>(hf b hb).1⟩⟩
  done:=by
    intro X hP hw hK hc i pins s σ H E I hf st hg
    subst hP hw hK
    obtain ⟨xs,hq,hx⟩:=hg
    obtain ⟨its,rv,p,hz⟩:=I.list hq
    obtain ⟨f0,f1,f2,f3,f4,f5⟩:=hf it (by simp)
    have hl:=rv.length
    exact wpAny_pyNext_list_end (I.ok.hd hc) st p.isList (by simp; omega) fun h' eb=>⟨rfl,I.turned (t':=s.toks) (fun b o hb e=>eb b o hb e) f0 f1 f3 f4 f5⟩
  self:=fun _ _ _ _ _ st h=>wpAny_pyIter_listiter st h
theorem turn_tuple {P:Program} {w:World} {K:PySem.W.Frag} {tg:Expr} (a it:Addr):Turn P w K tg (Itt K a) [it] it (fun i h=>h.IsTupleIter it a i) where
  mem:=by simp
  obj:=fun i h st b hb=>by
    have e:b=it:=by simpa using hb
    subst e
    obtain ⟨o,e,c,d⟩:=st
    exact ⟨o,e,fun v z=>by rw [d] at z; cases z⟩
  keep:=fun i h h' st k=>st.at fun o e=>k it (by simp) o e
  item:=by
    intro X hP hw hK hc i pins s σ H E I hf st hg
    subst hP hw hK
    obtain ⟨xs,x,hq,hx⟩:=hg
    obtain ⟨its,rv,p,hz⟩:=I.tuple hq
    obtain ⟨u,hu,ru⟩:=rv.get hx
    obtain ⟨f0,f1,f2,f3,f4,f5⟩:=hf it (by simp)
    refine wpAny_pyNext_tuple_item st (show s.heap.IsTuple a its.toArray from p) (x:=u) (by simpa using hu) fun h' st' sb=>?_
    have I1:Inv X pins σ H { s with heap:=h' }:=I.turned (t':=s.toks) (fun b o hb e=>(sb.2 b hb).trans e) f0 f1 f3 f4 f5
    obtain ⟨o,e,c,d⟩:=id st'
    exact ⟨u,rfl,go_of (s:={ s with heap:=h' }) e c d (by decide) ⟨x,H,I1,ru,⟨rfl,fun ys hy=>by rw [I.tuple_inj hy hq]; exact hx⟩,st',fun b hb=>(hf b hb).1⟩⟩
  done:=by
    intro X hP hw hK hc i pins s σ H E I hf st hg
    subst hP hw hK
    obtain ⟨xs,hq,hx⟩:=hg
    obtain ⟨its,rv,p,hz⟩:=I.tuple hq
    obtain ⟨f0,f1,f2,f3,f4,f5⟩:=hf it (by simp)
    have hl:=rv.length
    exact wpAny_pyNext_tuple_end (I.ok.hd hc) st (show s.heap.IsTuple a its.toArray from p) (by simp; omega) fun h' eb=>⟨rfl,I.turned (t':=s.toks) (fun b o hb e=>eb b o hb e) f0 f1 f3 f4 f5⟩
  self:=fun _ _ _ _ _ st h=>wpAny_pyIter_tupleiter st h
theorem turn_range {P:Program} {w:World} {K:PySem.W.Frag} {tg:Expr} (it:Addr) (lo:Int) (n:Nat):Turn P w K tg (Itr lo n) [it] it (fun i h=>IsRangeIter h it (lo+(i:Nat) * 1) ((n:Int) - (i:Nat)) 1) where
  mem:=by simp
  obj:=fun i h st b hb=>by
    have e:b=it:=by simpa using hb
    subst e
    exact ⟨_,st,fun v z=>by
      have z':Data.fields _=Data.cell v:=z
      cases z'⟩
  keep:=fun i h h' st k=>k it (by simp) _ st
  item:=by
    intro X hP hw hK hc i pins s σ H E I hf st hg
    subst hP hw hK
    obtain ⟨f0,f1,f2,f3,f4,f5⟩:=hf it (by simp)
    have W:=Walks.range (prog:=X.prog) (w:=X.w) (I.ok.hd hc) it lo 1 n
    refine W.item i s _ _ hg st fun v h' tk hv st' kk=>?_
    obtain ⟨t,rfl⟩:=hv
    have I1:Inv X pins σ H { s with heap:=h',toks:=tk }:=I.turned (fun b o hb e=>kk b o (by simpa using hb) e) f0 f1 f3 f4 f5
    refine ⟨_,rfl,go_of (s:={ s with heap:=h',toks:=tk }) (n:="range_iterator") st' rfl rfl (by decide) ⟨.int (lo+i),H,I1,⟨t,?_⟩,⟨rfl,rfl⟩,st',fun b hb=>(hf b hb).1⟩⟩
    rw [Int.mul_one]
  done:=by
    intro X hP hw hK hc i pins s σ H E I hf st hg
    subst hP hw hK
    obtain ⟨f0,f1,f2,f3,f4,f5⟩:=hf it (by simp)
    exact wpAny_pyNext_range_end (I.ok.hd hc) st (by have:n≤i:=hg; omega) fun h' eb=>⟨rfl,I.turned (t':=s.toks) (fun b o hb e=>eb b o hb e) f0 f1 f3 f4 f5⟩
  self:=fun _ _ _ _ _ st h=>wpAny_pyIter_rangeiter st h
end L2
namespace L2
open PySem PySem.Spec PyProof.Rows
section
variable {X:Cx} {tg:Expr}
noncomputable def iList (K:PySem.W.Frag) (tl:TE):TI:=fun σ H R=>tl σ H fun x H1=>∃ a,x=.ref a∧(∃ xs,SqL K H1 a xs)∧R (Itl K a) H1
noncomputable def iTup (K:PySem.W.Frag) (tl:TE):TI:=fun σ H R=>tl σ H fun x H1=>∃ a,x=.ref a∧(∃ xs,SqT K H1 a xs)∧R (Itt K a) H1
theorem pi_list {l:Expr} {tl:TE} (hl:PE X l tl):PI X tg l (iList X.K tl):=by
  intro pins s σ H R I h
  refine thn (hl pins s σ H _ I h) fun v s1 ⟨x,H1,I1,r1,q1⟩=>?_
  obtain ⟨a,e,⟨xs,hq⟩,q⟩:=q1
  subst e
  cases r1
  obtain ⟨its,rv,p,hz⟩:=I1.list hq
  refine wpAny_pyIter_list p.isList ?_
  refine ⟨s1.heap.objs.size,[s1.heap.objs.size],_,_,H1,rfl,I1.kept (t':=s1.toks) fun b o e=>Heap.get?_push_of_some _ e,turn_list a _,⟨_,Heap.get?_push_size _ rfl,rfl,rfl⟩,fun b hb=>?_,q⟩
  have e:b=s1.heap.objs.size:=by simpa using hb
  subst e
  exact I1.fpOk (Nat.le_refl _) (I1.hok.fresh (Nat.le_refl _))
theorem pi_tup {l:Expr} {tl:TE} (hl:PE X l tl):PI X tg l (iTup X.K tl):=by
  intro pins s σ H R I h
  refine thn (hl pins s σ H _ I h) fun v s1 ⟨x,H1,I1,r1,q1⟩=>?_
  obtain ⟨a,e,⟨xs,hq⟩,q⟩:=q1
  subst e
  cases r1
  obtain ⟨its,rv,p,hz⟩:=I1.tuple hq
  refine wpAny_pyIter_tuple (show s1.heap.IsTuple a its.toArray from p) ?_
  refine ⟨s1.heap.objs.size,[s1.heap.objs.size],_,_,H1,rfl,I1.kept (t':=s1.toks) fun b o e=>Heap.get?_push_of_some _ e,turn_tuple a _,⟨_,Heap.get?_push_size _ rfl,rfl,rfl⟩,fun b hb=>?_,q⟩
  have e:b=s1.heap.objs.size:=by simpa using hb
  subst e
  exact I1.fpOk (Nat.le_refl _) (I1.hok.fresh (Nat.le_refl _))
theorem range_it {pins:List (Addr × Obj)} {σ:St} {H:Hp} {s:Shared} {R:It→Hp→Prop} {E:Value→Shared→Prop} {lo hi:Int} {t u v:Tok} {tk:Nat} (I:Inv X pins σ H s) (h1:-(2 ^ 62)≤lo) (h2:lo < 2 ^ 62) (h3:-(2 ^ 62)≤hi) (h4:hi < 2 ^ 62)
    (q:R (Itr lo (hi - lo).toNat) H):wpAny (model X.prog X.w) X.A (pyIter (.ref s.heap.objs.size)) (PIE X pins σ tg R) E { s with heap:=s.heap.push { cls:=.type "range",data:=.fields #[.int lo t,.int hi u,.int 1 v] },toks:=tk }:=by
  refine wpAny_pyIter_range (IsRange.new ..) (small_one h1 h2 h3 h4) ?_
  have I1:Inv X pins σ H { s with heap:=s.heap.push { cls:=.type "range",data:=.fields #[.int lo t,.int hi u,.int 1 v] },toks:=tk }:=I.kept fun b o e=>Heap.get?_push_of_some _ e
  refine ⟨(s.heap.push { cls:=.type "range",data:=.fields #[.int lo t,.int hi u,.int 1 v] }).objs.size,[(s.heap.push { cls:=.type "range",data:=.fields #[.int lo t,.int hi u,.int 1 v] }).objs.size],_,_,H,rfl,
    I1.kept (t':=tk) fun b o e=>Heap.get?_push_of_some _ e,turn_range _ lo (hi - lo).toNat,?_,fun b hb=>?_,q⟩
  · have e1:lo+((0:Nat):Int) * 1=lo:=by simp
    have e2:(((hi - lo).toNat:Nat):Int) - ((0:Nat):Int)=Builtin.Range.rangeSize lo hi 1:=by rw [rangeSize_one]; split <;> omega
    show IsRangeIter _ _ (lo+((0:Nat):Int) * 1) ((((hi - lo).toNat:Nat):Int) - ((0:Nat):Int)) 1
    rw [e1,e2]
    exact Heap.get?_push_size _ rfl
  · have e:b=(s.heap.push { cls:=.type "range",data:=.fields #[.int lo t,.int hi u,.int 1 v] }).objs.size:=by simpa using hb
    subst e
    exact I1.fpOk (Nat.le_refl _) (I1.hok.fresh (Nat.le_refl _))
noncomputable def iRng1 (ta:TA):TI:=fun σ H R=>ta σ H fun vs H1=>∃ j:Int,vs=[.int j]∧-(2 ^ 62)≤j∧j < 2 ^ 62∧R (Itr 0 j.toNat) H1
theorem pi_range1 {a:Expr} {ta:TA} {p pos:Pos} (hg:Gl X "range") (hm:X.mg "range" = none) (ha:PA X [a] ta) (hs:starEach [a] X.env=[(false,eval a X.env)]:=by rfl):PI X tg (.Call (.Name "range" p) [a] [] pos) (iRng1 ta):=by
  intro pins s σ H R I h
  refine Call_ (ld_blt I hg hm boot_range (PyProof.Rows.callWith_type1 (thn (ha pos pins s σ H _ I h) fun us s1 ⟨vs,H1,I1,r1,q1⟩=>?_) hs rfl))
  obtain ⟨j,e,q1,q2,q⟩:=q1
  subst e
  cases r1 with
  | cons r rr =>
    cases rr
    obtain ⟨t,rfl⟩:=r
    exact call_range_1 (range_it I1 (by omega) (by omega) q1 q2 (by simpa using q))
noncomputable def tFor (wi:TI) (g:TG) (tb:TS):TS:=fun D σ H=>wi σ H fun J H1=>∃ W:Nat→Nat→St→Hp→Prop,(∃ m,W 0 m σ H1)∧∀ i m σ H,W i m σ H →
  (J.stop i H∧D.nx σ H)∨(J.go i H∧∃ N:St→Hp→Prop,(∀ σ' H',N σ' H'→∃ m',m' < m∧W (i+1) m' σ' H')∧∀ x H',J.yld i H x H'→g x σ H' fun σ2 H2=>tb { D with nx:=N,ct:=N,bk:=D.nx } σ2 H2)
noncomputable def pinsAt (fp:List Addr) (h:Heap):List (Addr × Obj):=fp.filterMap fun b=>(h.get? b).map fun o=>(b,o)
theorem mem_pinsAt {fp:List Addr} {h:Heap} {b:Addr} {o:Obj} (hb:b∈fp) (e:h.get? b=some o):(b,o)∈pinsAt fp h:=List.mem_filterMap.mpr ⟨b,hb,by rw [e]; rfl⟩
theorem of_pinsAt {fp:List Addr} {h:Heap} {p:Addr × Obj} (hp:p∈pinsAt fp h):p.1∈fp∧h.get? p.1=some p.2:=by
  obtain ⟨b,hb,e⟩:=List.mem_filterMap.mp hp
  cases q:h.get? b with
  | none=>rw [q] at e; cases e
  | some o =>
    rw [q] at e
    have e':(b,o)=p:=Option.some.inj e
    subst e'
    exact ⟨hb,q⟩
theorem Inv.pinned {pins:List (Addr × Obj)} {σ:St} {H:Hp} {s:Shared} {fp:List Addr} (I:Inv X pins σ H s) (hf:∀ b∈fp,FpOk X pins H b) (ho:∀ b∈fp,∃ o,s.heap.get? b=some o∧∀ v,o.data≠.cell v):Inv X (pins++pinsAt fp s.heap) σ H s :=
  I.pins_of fun p hp=>(List.mem_append.mp hp).elim (fun z=>I.pin p (List.mem_append_right _ z)) fun z=>by
    obtain ⟨hb,e⟩:=of_pinsAt z
    obtain ⟨f0,f1,f2,_⟩:=hf p.1 hb
    obtain ⟨o,e',d⟩:=ho p.1 hb
    rw [e] at e'; cases e'
    exact ⟨e,f0,f1,f2,d⟩
theorem Inv.unpinned {pins pl:List (Addr × Obj)} {σ:St} {H:Hp} {s:Shared} (I:Inv X (pins++pl) σ H s):Inv X pins σ H s:=I.pins_of fun p hp=>I.pin p (List.mem_append_right _ (List.mem_append_left _ hp))
theorem ps_for {iter:Expr} {body:List Stmt} {wi:TI} {g:TG} {tb:TS} {pos:Pos} (hp:PassesOwn (model X.prog X.w) X.A X.env X.xe) (hc:X.calm=true) (hi:PI X tg iter wi) (hg:PG X tg g) (hb:PSs X body tb)
    (hs:∀ x,foldedSetIterable iter X.env x=pure x:=by intro _; rfl):PS X (.For tg iter body [] pos) (tFor wi g tb):=by
  intro pins s σ H D I h
  refine wpAny_For (thn (hi pins s σ H _ I h) fun v s1 h1=>thn h1 fun itv s2 h2=>?_) hs
  obtain ⟨it,fp,tn,J,H2,e,I2,T,st2,f2,W,⟨m0,w0⟩,turn⟩:=h2
  subst e
  have stat:∀ {H':Hp},(∀ b∈fp,H' b=none)→∀ b∈fp,FpOk X pins H' b:=fun hn b hb=>⟨hn b hb,(f2 b hb).2⟩
  refine codeAny_forLoop_any (fun n s'=>∃ i σ' H',Inv X pins σ' H' s'∧tn i s'.heap∧(∀ b∈fp,H' b=none)∧W i n σ' H') ?_ m0 ⟨0,σ,H2,I2,st2,fun b hb=>(f2 b hb).1,w0⟩
  rintro n s3 ⟨i,σ3,H3,I3,st3,fr3,w3⟩
  rcases turn i n σ3 H3 w3 with ⟨stop,qn⟩ | ⟨go,N,hN,step⟩
  · refine wpAny_passesOwn hp (thn (T.done X rfl rfl rfl hc i pins s3 σ3 H3 X.xe I3 (stat fr3) st3 stop) fun r s4 ⟨hr,I4⟩=>?_)
    subst hr
    exact wpAny_execs_nil ⟨σ3,H3,I4,qn⟩
  · refine wpAny_passesOwn hp (thn (T.item X rfl rfl rfl hc i pins s3 σ3 H3 X.xe I3 (stat fr3) st3 go) fun r s4 ⟨u,hr,h4⟩=>?_)
    subst hr
    refine wpAny_passesOwn hp (thn h4 fun _ s5 ⟨x,H5,I5,r5,y5,st5,fr5⟩=>?_)
    have I5':=I5.pinned (stat fr5) (T.obj _ _ st5)
    refine wpAny_passesOwn hp (thn (hg _ s5 σ3 H5 x u _ I5' r5 (step x H5 y5)) fun _ s6 ⟨σ6,H6,I6,q6⟩=>?_)
    refine wpAny_passesOwn hp (thn (hb _ s6 σ6 H6 _ I6 q6) fun f s7 q7=>?_)
    have again:∀ {σ7:St} {H7:Hp},Inv X (pins++pinsAt fp s5.heap) σ7 H7 s7→N σ7 H7→∃ m,m < n∧∃ i σ' H',Inv X pins σ' H' s7∧tn i s7.heap∧(∀ b∈fp,H' b=none)∧W i m σ' H':=fun {σ7 H7} I7 n7=>by
      obtain ⟨m',hm,w7⟩:=hN σ7 H7 n7
      refine ⟨m',hm,i+1,σ7,H7,I7.unpinned,T.keep _ _ _ st5 fun b hb o e=>(I7.pin (b,o) (List.mem_append_right _ (List.mem_append_right _ (mem_pinsAt hb e)))).1,fun b hb=>?_,w7⟩
      obtain ⟨o,e,d⟩:=T.obj _ _ st5 b hb
      exact (I7.pin (b,o) (List.mem_append_right _ (List.mem_append_right _ (mem_pinsAt hb e)))).2.1
    cases f with
    | next=>obtain ⟨σ7,H7,I7,n7⟩:=q7; exact again I7 n7
    | cont=>obtain ⟨σ7,H7,I7,n7⟩:=q7; exact again I7 n7
    | brk=>obtain ⟨σ7,H7,I7,q7⟩:=q7; exact ⟨σ7,H7,I7.unpinned,q7⟩
    | ret v=>obtain ⟨x7,σ7,H7,I7,r7,q7⟩:=q7; exact ⟨x7,σ7,H7,I7.unpinned,r7,q7⟩
end
theorem for_list {K:PySem.W.Frag} {a:Addr} {xs:List V} {g:TG} {tb:TS} {D:Ends} {σ:St} {H:Hp} (Pv:Nat→St→Hp→Prop) (h0:Pv 0 σ H) (hl:∀ i σ H,i≤xs.length→Pv i σ H→SqL K H a xs)
    (hs:∀ i x σ H,xs[i]?=some x→Pv i σ H→g x σ H fun σ2 H2=>tb { D with nx:=Pv (i+1),ct:=Pv (i+1),bk:=D.nx } σ2 H2) (hd:∀ σ H,Pv xs.length σ H→D.nx σ H) :
    ∃ W:Nat→Nat→St→Hp→Prop,(∃ m,W 0 m σ H)∧∀ i m σ H,W i m σ H →
      ((Itl K a).stop i H∧D.nx σ H)∨((Itl K a).go i H∧∃ N:St→Hp→Prop,(∀ σ' H',N σ' H'→∃ m',m' < m∧W (i+1) m' σ' H')∧∀ x H',(Itl K a).yld i H x H'→g x σ H' fun σ2 H2=>tb { D with nx:=N,ct:=N,bk:=D.nx } σ2 H2):=by
  refine ⟨fun i m σ H=>m=xs.length - i∧i≤xs.length∧Pv i σ H,⟨xs.length,by simp,Nat.zero_le _,h0⟩,?_⟩
  rintro i m σ H ⟨rfl,hi,p⟩
  have q:=hl i σ H hi p
  by_cases hlt:i < xs.length
  · refine .inr ⟨⟨xs,xs[i],q,by simp [hlt]⟩,Pv (i+1),fun σ' H' p'=>⟨xs.length - (i+1),by omega,rfl,hlt,p'⟩,fun x H' y=>?_⟩
    obtain ⟨e,y⟩:=y
    subst e
    exact hs i x σ _ (y xs q) p
  · have e:i=xs.length:=by omega
    subst e
    exact .inl ⟨⟨xs,q,Nat.le_refl _⟩,hd σ H p⟩
theorem for_range {lo:Int} {n:Nat} {g:TG} {tb:TS} {D:Ends} {σ:St} {H:Hp} (Pv:Nat→St→Hp→Prop) (h0:Pv 0 σ H)
    (hs:∀ i σ H,i < n→Pv i σ H→g (.int (lo+i)) σ H fun σ2 H2=>tb { D with nx:=Pv (i+1),ct:=Pv (i+1),bk:=D.nx } σ2 H2) (hd:∀ σ H,Pv n σ H→D.nx σ H) :
    ∃ W:Nat→Nat→St→Hp→Prop,(∃ m,W 0 m σ H)∧∀ i m σ H,W i m σ H →
      ((Itr lo n).stop i H∧D.nx σ H)∨((Itr lo n).go i H∧∃ N:St→Hp→Prop,(∀ σ' H',N σ' H'→∃ m',m' < m∧W (i+1) m' σ' H')∧∀ x H',(Itr lo n).yld i H x H'→g x σ H' fun σ2 H2=>tb { D with nx:=N,ct:=N,bk:=D.nx } σ2 H2):=by
  refine ⟨fun i m σ H=>m=n - i∧i≤n∧Pv i σ H,⟨n,by simp,Nat.zero_le _,h0⟩,?_⟩
  rintro i m σ H ⟨rfl,hi,p⟩
  by_cases hlt:i < n
  · refine .inr ⟨hlt,Pv (i+1),fun σ' H' p'=>⟨n - (i+1),by omega,rfl,hlt,p'⟩,fun x H' y=>?_⟩
    obtain ⟨e,y⟩:=y
    subst e y
    exact hs i σ _ hlt p
  · have e:i=n:=by omega
    subst e
    exact .inl ⟨Nat.le_refl _,hd σ H p⟩
end L2
namespace L2
open PySem PySem.Spec PyProof.Rows
noncomputable abbrev R2:=V→V→Hp→VK→Prop
noncomputable def OpR (X:Cx) (f:Value→Value→Sem Value) (r:R2):Prop :=
  ∀ (pins:List (Addr × Obj)) (s:Shared) (σ:St) (H:Hp) (x y:V) (v u:Value) (Q:VK),Inv X pins σ H s→RelV x v→RelV y u→r x y H Q →
    wpAny (model X.prog X.w) X.A (f v u) (EP X pins σ Q) X.xe s
noncomputable def UnR (X:Cx) (f:Value→Sem Value) (r:V→Hp→VK→Prop):Prop :=
  ∀ (pins:List (Addr × Obj)) (s:Shared) (σ:St) (H:Hp) (x:V) (v:Value) (Q:VK),Inv X pins σ H s→RelV x v→r x H Q →
    wpAny (model X.prog X.w) X.A (f v) (EP X pins σ Q) X.xe s
noncomputable def CallR (X:Cx) (f:Value) (r:List V→Hp→VK→Prop):Prop :=
  ∀ (pins:List (Addr × Obj)) (s:Shared) (σ:St) (H:Hp) (xs:List V) (us:List Value) (Q:VK),Inv X pins σ H s→Vals xs us→r xs H Q →
    wpAny (model X.prog X.w) X.A (call f us) (EP X pins σ Q) X.xe s
noncomputable def TruR (X:Cx) (r:V→Hp→(Bool→Hp→Prop)→Prop):Prop :=
  ∀ (pins:List (Addr × Obj)) (s:Shared) (σ:St) (H:Hp) (x:V) (v:Value) (Q:Bool→Hp→Prop),Inv X pins σ H s→RelV x v→r x H Q →
    wpAny (model X.prog X.w) X.A (truthy v) (TP X pins σ Q) X.xe s
noncomputable def tOp (r:R2) (ta tb:TE):TE:=fun σ H Q=>ta σ H fun x H1=>tb σ H1 fun y H2=>r x y H2 Q
noncomputable def tUn (r:V→Hp→VK→Prop) (ta:TE):TE:=fun σ H Q=>ta σ H fun x H1=>r x H1 Q
noncomputable def rI (C:Int→Int→Prop) (g:Int→Int→V):R2:=fun x y H Q=>∃ i j,x=.int i∧y=.int j∧C i j∧Q (g i j) H
noncomputable def rI0 (g:Int→Int→V):R2:=fun x y H Q=>∃ i j,x=.int i∧y=.int j∧Q (g i j) H
noncomputable def rU (g:Int→V):V→Hp→VK→Prop:=fun x H Q=>∃ i,x=.int i∧Q (g i) H
section
variable {X:Cx} {a b c:Expr} {ta tb tc:TE} {pos:Pos}
theorem binT (ha:PE X a ta) (hb:PE X b tb) {pins:List (Addr × Obj)} {s:Shared} {σ:St} {H:Hp} {R:V→V→Hp→Prop} (I:Inv X pins σ H s)
    (h:ta σ H fun x H1=>tb σ H1 fun y H2=>R x y H2) {Q:Value→Shared→Prop} {f:Value→Value→Sem Value}
    (hf:∀ v u s2 x y H2,Inv X pins σ H2 s2→RelV x v→RelV y u→R x y H2→wpAny (model X.prog X.w) X.A (f v u) Q X.xe s2) :
    wpAny (model X.prog X.w) X.A (eval a X.env) (fun v s₁=>wpAny (model X.prog X.w) X.A (eval b X.env) (fun u s₂=>wpAny (model X.prog X.w) X.A (f v u) Q X.xe s₂) X.xe s₁) X.xe s:=by
  refine thn (ha pins s σ H _ I h) fun v s1 ⟨x,H1,I1,r1,q1⟩=>?_
  refine thn (hb pins s1 σ H1 _ I1 q1) fun u s2 ⟨y,H2,I2,r2,q2⟩=>?_
  exact hf v u s2 x y H2 I2 r1 r2 q2
theorem pe_op {op:Operator} {r:R2} (ho:OpR X (binaryOp op) r) (ha:PE X a ta) (hb:PE X b tb):PE X (.BinOp a op b pos) (tOp r ta tb):=by
  intro pins s σ H Q I h
  exact wpAny_BinOp (binT ha hb I h fun v u s2 x y H2 I2 rx ry q=>ho pins s2 σ H2 x y v u Q I2 rx ry q)
theorem pe_un {op:UnaryOp} {r:V→Hp→VK→Prop} (ho:UnR X (unaryOp op) r) (ha:PE X a ta):PE X (.UnaryOp op a pos) (tUn r ta):=by
  intro pins s σ H Q I h
  exact UnaryOp_ (thn (ha pins s σ H _ I h) fun v s1 ⟨x,H1,I1,r1,q1⟩=>ho pins s1 σ H1 x v Q I1 r1 q1)
theorem opI {f:Value→Value→Sem Value} {C:Int→Int→Prop} {g:Int→Int→Int}
    (rule:∀ (i j:Int) (t u:Tok) (s:Shared) (Q:Value→Shared→Prop) (E:Value→Shared→Prop),C i j→Q (.int (g i j) s.toks) { s with toks:=s.toks+1 }→wpAny (model X.prog X.w) X.A (f (.int i t) (.int j u)) Q E s) :
    OpR X f (rI C fun i j=>.int (g i j)):=by
  intro pins s σ H x y v u Q I rx ry h
  obtain ⟨i,j,rfl,rfl,hc,q⟩:=h
  obtain ⟨t,rfl⟩:=rx
  obtain ⟨t',rfl⟩:=ry
  exact rule i j t t' s _ _ hc ⟨.int (g i j),H,I.tok _,⟨_,rfl⟩,q⟩
theorem opI0 {f:Value→Value→Sem Value} {g:Int→Int→Int}
    (rule:∀ (i j:Int) (t u:Tok) (s:Shared) (Q:Value→Shared→Prop) (E:Value→Shared→Prop),Q (.int (g i j) s.toks) { s with toks:=s.toks+1 }→wpAny (model X.prog X.w) X.A (f (.int i t) (.int j u)) Q E s) :
    OpR X f (rI0 fun i j=>.int (g i j)):=by
  intro pins s σ H x y v u Q I rx ry h
  obtain ⟨i,j,rfl,rfl,q⟩:=h
  obtain ⟨t,rfl⟩:=rx
  obtain ⟨t',rfl⟩:=ry
  exact rule i j t t' s _ _ ⟨.int (g i j),H,I.tok _,⟨_,rfl⟩,q⟩
theorem opB0 {f:Value→Value→Sem Value} {g:Int→Int→Bool}
    (rule:∀ (i j:Int) (t u:Tok) (s:Shared) (Q:Value→Shared→Prop) (E:Value→Shared→Prop),Q (.bool (g i j)) s→wpAny (model X.prog X.w) X.A (f (.int i t) (.int j u)) Q E s) :
    OpR X f (rI0 fun i j=>.bl (g i j)):=by
  intro pins s σ H x y v u Q I rx ry h
  obtain ⟨i,j,rfl,rfl,q⟩:=h
  obtain ⟨t,rfl⟩:=rx
  obtain ⟨t',rfl⟩:=ry
  exact rule i j t t' s _ _ ⟨.bl (g i j),H,I,rfl,q⟩
noncomputable def CPow (i j:Int):Prop:=0≤j∧j≤1000000∧i.natAbs < 2 ^ 64
noncomputable def CMul (i j:Int):Prop:=(-(2 ^ 64) < i∧i < 2 ^ 64)∨(-(2 ^ 64) < j∧j < 2 ^ 64)
theorem CMul.ok {i j:Int} (h:CMul i j):IntMulOk i j:=by
  rcases h with ⟨h1,h2⟩ | ⟨h1,h2⟩
  · exact .of_left (intBits_le_64 h1 h2)
  · exact .of_right (intBits_le_64 h1 h2)
theorem op_add:OpR X (binaryOp .Add) (rI0 fun i j=>.int (i+j)):=opI0 fun _ _ _ _ _ _ _ q=>add_int q
theorem op_sub:OpR X (binaryOp .Sub) (rI0 fun i j=>.int (i - j)):=opI0 fun _ _ _ _ _ _ _ q=>sub_int q
theorem op_mul:OpR X (binaryOp .Mult) (rI CMul fun i j=>.int (i * j)):=opI fun _ _ _ _ _ _ _ hc q=>mul_int q hc.ok
theorem op_mod:OpR X (binaryOp .Mod) (rI (fun _ j=>0 < j) fun i j=>.int (i % j)):=opI fun i j _ _ _ _ _ hc q=>by
  have h1:(0:Int) < j:=hc
  exact mod_int' (by omega) (by rw [Int.fmod_eq_emod_of_nonneg i (by omega)]; exact q)
theorem op_pow:OpR X (binaryOp .Pow) (rI CPow fun i j=>.int (i ^ j.toNat)):=opI fun _ _ _ _ _ _ _ hc q=>pow_int_small hc.1 hc.2.1 hc.2.2 q
theorem iop_add:OpR X (inplaceOp .Add) (rI0 fun i j=>.int (i+j)):=opI0 fun _ _ _ _ _ _ _ q=>iadd_int q
theorem unI {f:Value→Sem Value} {g:Int→Int}
    (rule:∀ (i:Int) (t:Tok) (s:Shared) (Q:Value→Shared→Prop) (E:Value→Shared→Prop),Q (.int (g i) s.toks) { s with toks:=s.toks+1 }→wpAny (model X.prog X.w) X.A (f (.int i t)) Q E s) :
    UnR X f (rU fun i=>.int (g i)):=by
  intro pins s σ H x v Q I rx h
  obtain ⟨i,rfl,q⟩:=h
  obtain ⟨t,rfl⟩:=rx
  exact rule i t s _ _ ⟨.int (g i),H,I.tok _,⟨_,rfl⟩,q⟩
theorem un_neg:UnR X (unaryOp .USub) (rU fun i=>.int (-i)):=unI fun _ _ _ _ _ q=>neg_int q
end
noncomputable def scal:V→V→Bool
  | .non,.non=>true | .non,.int _=>true | .int _,.non=>true | .non,.bl _=>true | .bl _,.non=>true | .non,.str _=>true | .str _,.non=>true
  | .int _,.int _=>true | .bl _,.bl _=>true | .str _,.str _=>true | .byt _,.byt _=>true
  | .int _,.str _=>true | .str _,.int _=>true | .bl _,.str _=>true | .str _,.bl _=>true
  | _,_=>false
noncomputable def rEq:R2:=fun x y H Q=>scal x y=true∧Q (.bl (decide (x=y))) H
noncomputable def rNe:R2:=fun x y H Q=>scal x y=true∧Q (.bl (!decide (x=y))) H
theorem dec_int {i j:Int}:decide (V.int i=V.int j)=(i == j):=by
  rw [Bool.eq_iff_iff]
  simp
theorem dec_bl {i j:Bool}:decide (V.bl i=V.bl j)=(i == j):=by
  rw [Bool.eq_iff_iff]
  simp
theorem dec_str {i j:Str}:decide (V.str i=V.str j)=(i == j):=by
  rw [Bool.eq_iff_iff]
  simp
theorem dec_byt {i j:Array UInt8}:decide (V.byt i=V.byt j)=(i.toList == j.toList):=by
  rw [Bool.eq_iff_iff]
  cases i
  cases j
  simp
section
variable {X:Cx} {a b c:Expr} {ta tb tc:TE} {pos:Pos}
theorem fin_bl {pins:List (Addr × Obj)} {σ:St} {H:Hp} {s:Shared} {Q:VK} {k k':Bool} (I:Inv X pins σ H s) (q:Q (.bl k) H) (e:k=k'):EP X pins σ Q (.bool k') s:=by
  subst e
  exact ⟨.bl k,H,I,rfl,q⟩
theorem op_eq:OpR X (compareOp .Eq) rEq:=by
  intro pins s σ H x y v u Q I rx ry h
  obtain ⟨hs,q⟩:=h
  cases x with
  | non =>
    cases rx
    cases y with
    | non=>cases ry; exact PySem.EqNone.eq_none_none (fin_bl I q (by simp))
    | bl j=>cases ry; exact PySem.EqNone.eq_none_bool (fin_bl I q (by simp))
    | int j=>obtain ⟨t',rfl⟩:=ry; exact PySem.EqNone.eq_none_int (fin_bl I q (by simp))
    | str j=>obtain ⟨t',rfl⟩:=ry; exact PySem.EqNone.eq_none_str (fin_bl I q (by simp))
    | _=>exact absurd (show false=true from hs) Bool.false_ne_true
  | bl i =>
    cases rx
    cases y with
    | non=>cases ry; exact PySem.EqNone.eq_bool_none (fin_bl I q (by simp))
    | bl j=>cases ry; exact eq_bool (fin_bl I q dec_bl)
    | str j=>obtain ⟨t',rfl⟩:=ry; exact PySem.EqMixed.eq_bool_str (fin_bl I q (by simp))
    | _=>exact absurd (show false=true from hs) Bool.false_ne_true
  | int i =>
    obtain ⟨t,rfl⟩:=rx
    cases y with
    | non=>cases ry; exact PySem.EqNone.eq_int_none (fin_bl I q (by simp))
    | int j=>obtain ⟨t',rfl⟩:=ry; exact eq_int (fin_bl I q dec_int)
    | str j=>obtain ⟨t',rfl⟩:=ry; exact PySem.EqMixed.eq_int_str (fin_bl I q (by simp))
    | _=>exact absurd (show false=true from hs) Bool.false_ne_true
  | str i =>
    obtain ⟨t,rfl⟩:=rx
    cases y with
    | non=>cases ry; exact PySem.EqNone.eq_str_none (fin_bl I q (by simp))
    | bl j=>cases ry; exact PySem.EqMixed.eq_str_bool (fin_bl I q (by simp))
    | int j=>obtain ⟨t',rfl⟩:=ry; exact PySem.EqMixed.eq_str_int (fin_bl I q (by simp))
    | str j=>obtain ⟨t',rfl⟩:=ry; exact eq_str (fin_bl I q dec_str)
    | _=>exact absurd (show false=true from hs) Bool.false_ne_true
  | byt i =>
    obtain ⟨t,rfl⟩:=rx
    cases y with
    | byt j=>obtain ⟨t',rfl⟩:=ry; exact PySem.W.eq_bytes (fin_bl I q dec_byt)
    | _=>exact absurd (show false=true from hs) Bool.false_ne_true
  | _=>cases y <;> exact absurd (show false=true from hs) Bool.false_ne_true
theorem op_ne:OpR X (compareOp .NotEq) rNe:=by
  intro pins s σ H x y v u Q I rx ry h
  obtain ⟨hs,q⟩:=h
  cases x with
  | non =>
    cases rx
    cases y with
    | non=>cases ry; exact PySem.EqNone.ne_none_none (fin_bl I q (by simp))
    | bl j=>cases ry; exact PySem.EqNone.ne_none_bool (fin_bl I q (by simp))
    | int j=>obtain ⟨t',rfl⟩:=ry; exact PySem.EqNone.ne_none_int (fin_bl I q (by simp))
    | str j=>obtain ⟨t',rfl⟩:=ry; exact PySem.EqNone.ne_none_str (fin_bl I q (by simp))
    | _=>exact absurd (show false=true from hs) Bool.false_ne_true
  | bl i =>
    cases rx
    cases y with
    | non=>cases ry; exact PySem.EqNone.ne_bool_none (fin_bl I q (by simp))
    | bl j=>cases ry; exact ne_bool (fin_bl I q (congrArg not dec_bl))
    | str j=>obtain ⟨t',rfl⟩:=ry; exact PySem.EqMixed.ne_bool_str (fin_bl I q (by simp))
    | _=>exact absurd (show false=true from hs) Bool.false_ne_true
  | int i =>
    obtain ⟨t,rfl⟩:=rx
    cases y with
    | non=>cases ry; exact PySem.EqNone.ne_int_none (fin_bl I q (by simp))
    | int j=>obtain ⟨t',rfl⟩:=ry; exact ne_int (fin_bl I q (congrArg not dec_int))
    | str j=>obtain ⟨t',rfl⟩:=ry; exact PySem.EqMixed.ne_int_str (fin_bl I q (by simp))
    | _=>exact absurd (show false=true from hs) Bool.false_ne_true
  | str i =>
    obtain ⟨t,rfl⟩:=rx
    cases y with
    | non=>cases ry; exact PySem.EqNone.ne_str_none (fin_bl I q (by simp))
    | bl j=>cases ry; exact PySem.EqMixed.ne_str_bool (fin_bl I q (by simp))
    | int j=>obtain ⟨t',rfl⟩:=ry; exact PySem.EqMixed.ne_str_int (fin_bl I q (by simp))
    | str j=>obtain ⟨t',rfl⟩:=ry; exact ne_str (fin_bl I q (congrArg not dec_str))
    | _=>exact absurd (show false=true from hs) Bool.false_ne_true
  | byt i =>
    obtain ⟨t,rfl⟩:=rx
    cases y with
    | byt j=>obtain ⟨t',rfl⟩:=ry; exact PySem.W.ne_bytes (fin_bl I q (congrArg not dec_byt))
    | _=>exact absurd (show false=true from hs) Bool.false_ne_true
  | _=>cases y <;> exact absurd (show false=true from hs) Bool.false_ne_true
theorem op_lt:OpR X (compareOp .Lt) (rI0 fun i j=>.bl (decide (i < j))):=opB0 fun _ _ _ _ _ _ _ q=>lt_int q
theorem op_gt:OpR X (compareOp .Gt) (rI0 fun i j=>.bl (decide (j < i))):=opB0 fun _ _ _ _ _ _ _ q=>gt_int q
theorem op_ge:OpR X (compareOp .GtE) (rI0 fun i j=>.bl (decide (j≤i))):=opB0 fun _ _ _ _ _ _ _ q=>ge_int q
theorem nomark (b:Expr) {op:CmpOp} (h:op≠.In:=by decide) (h2:op≠.NotIn:=by decide):behindInMarks op b=false:=by
  have e1:(op == CmpOp.In)=false:=by cases op <;> first | rfl | exact absurd rfl h
  have e2:(op == CmpOp.NotIn)=false:=by cases op <;> first | rfl | exact absurd rfl h2
  cases b <;> simp [behindInMarks,e1,e2]
theorem pe_cmpR {op:CmpOp} {r:R2} (ho:OpR X (compareOp op) r) (ha:PE X a ta) (hb:PE X b tb) (hm:behindInMarks op b=false):PE X (.Compare a [op] [b] pos) (tOp r ta tb):=by
  intro pins s σ H Q I h
  exact wpAny_Compare1 (binT ha hb I h fun v u s2 x y H2 I2 rx ry q=>ho pins s2 σ H2 x y v u Q I2 rx ry q) hm
noncomputable def tTest (t:TE):TT:=fun σ H Q=>t σ H fun x H'=>∃ k,x=.bl k∧Q k H'
theorem pt_cmpR {op:CmpOp} {r:R2} (ho:OpR X (compareOp op) r) (ha:PE X a ta) (hb:PE X b tb) (hm:behindInMarks op b=false):PT X (.Compare a [op] [b] pos) (tTest (tOp r ta tb)):=by
  intro pins s σ H Q I h
  refine wpAny_isTrue_Compare1 (thn (ha pins s σ H _ I h) fun v s1 ⟨x,H1,I1,r1,q1⟩=>thn (hb pins s1 σ H1 _ I1 q1) fun u s2 ⟨y,H2,I2,r2,q2⟩ =>
    thn (ho pins s2 σ H2 x y v u _ I2 r1 r2 q2) fun c s3 ⟨z,H3,I3,r3,k,e,q3⟩=>?_) hm
  subst e
  cases r3
  exact wpAny_truthy_bool ⟨H3,I3,q3⟩
noncomputable def TruV (K:PySem.W.Frag) (x:V) (H:Hp) (k:Bool):Prop :=
  match x with
  | .non=>k=false
  | .bl b=>k=b
  | .int i=>k=(i != 0)
  | .str y=>y.length≤sizeLine∧k=((y.length:Int) != 0)
  | .byt y=>y.size≤sizeLine∧k=((y.size:Int) != 0)
  | .ref p=>(∃ xs,SqL K H p xs∧k=!xs.isEmpty)∨(∃ xs,SqT K H p xs∧k=!xs.isEmpty)∨∃ kvs,H p=some (.dK kvs)∧k=!kvs.isEmpty
  | _=>False
theorem isEmpty_kv {κ:Type} {kvs:List (κ × V)} {vs:List (κ × Value)} (r:KV kvs vs):(!vs.isEmpty)=!kvs.isEmpty:=by
  cases r <;> rfl
theorem isEmpty_of {xs:List V} {its:List Value} (r:Vals xs its):(!its.toArray.isEmpty)=!xs.isEmpty:=by
  cases r <;> simp
theorem line63:(sizeLine:Nat) < 2 ^ 63:=by rw [sizeLine_eq]; decide
theorem tru_ok:TruR X (fun x H Q=>∃ k,TruV X.K x H k∧Q k H):=by
  intro pins s σ H x v Q I rx h
  obtain ⟨k,e,q⟩:=h
  have hl:=line63
  have hs:sizeLine=16777216:=sizeLine_eq
  cases x with
  | non =>
    cases rx
    have e':k=false:=e
    subst e'
    exact truthy_none ⟨H,I,q⟩
  | bl b =>
    cases rx
    have e':k=b:=e
    subst e'
    exact wpAny_truthy_bool ⟨H,I,q⟩
  | int i =>
    obtain ⟨t,rfl⟩:=rx
    have e':k=(i != 0):=e
    subst e'
    exact PySem.P.truthy_int ⟨H,I,q⟩
  | str y =>
    obtain ⟨t,rfl⟩:=rx
    obtain ⟨hy,e'⟩:y.length≤sizeLine∧k=((y.length:Int) != 0):=e
    subst e'
    exact PySem.P.truthy_str (by omega) ⟨H,I.tok _,q⟩
  | byt y =>
    obtain ⟨t,rfl⟩:=rx
    obtain ⟨hy,e'⟩:y.size≤sizeLine∧k=((y.size:Int) != 0):=e
    subst e'
    exact PySem.W.truthy_bytes (by omega) ⟨H,I.tok _,q⟩
  | ref p =>
    cases rx
    have e':(∃ xs,SqL X.K H p xs∧k=!xs.isEmpty)∨(∃ xs,SqT X.K H p xs∧k=!xs.isEmpty)∨∃ kvs,H p=some (.dK kvs)∧k=!kvs.isEmpty:=e
    rcases e' with ⟨xs,hx,e'⟩ | ⟨xs,hx,e'⟩ | ⟨kvs,hx,e'⟩
    · subst e'
      obtain ⟨its,r,pl,hz⟩:=I.list hx
      have hlen:=r.length
      exact wpAny_truthy_list pl.isList (by simp only [List.size_toArray]; omega) ⟨H,I.tok _,by rw [isEmpty_of r]; exact q⟩
    · subst e'
      obtain ⟨its,r,pl,hz⟩:=I.tuple hx
      have hlen:=r.length
      exact truthy_tuple pl (by simp only [List.size_toArray]; omega) ⟨H,I.tok _,by rw [isEmpty_of r]; exact q⟩
    · subst e'
      obtain ⟨hz,hS,vs,r,m⟩:kvs.length≤sizeLine∧(p == sysModules)=false∧∃ vs,KV kvs vs∧s.heap.DictOf (mixKind X.prog X.w) p vs:=I.hok p _ hx
      have hlen:kvs.length=vs.length:=Paired.length r
      exact wpAny_truthy_dict hS m (by omega) ⟨H,I.tok _,by rw [isEmpty_kv r]; exact q⟩
  | _=>exact (show False from e).elim
theorem pt_truth (ha:PE X a ta) (he:∀ whole,isTrue a X.env whole=(do let v ← whole; standAt a.pos; holding [v] (truthy v))) :
    PT X a (fun σ H Q=>ta σ H fun x H'=>∃ k,TruV X.K x H' k∧Q k H'):=by
  intro pins s σ H Q I h
  exact isTrue_plain (thn (ha pins s σ H _ I h) fun v s1 ⟨x,H1,I1,r1,q1⟩=>tru_ok pins s1 σ H1 x v Q I1 r1 q1) (he _)
theorem op_add_str:OpR X (binaryOp .Add) (fun x y H Q=>∃ i j,x=.str i∧y=.str j∧i.length+j.length≤sizeLine∧Q (.str (i++j)) H):=by
  intro pins s σ H x y v u Q I rx ry h
  obtain ⟨i,j,rfl,rfl,hz,q⟩:=h
  obtain ⟨t,rfl⟩:=rx
  obtain ⟨t',rfl⟩:=ry
  exact add_str (fun t' tk=>⟨.str (i++j),H,I.tok _,⟨_,rfl⟩,q⟩) hz
theorem vals1 {x:V} {us:List Value} (r:Vals [x] us):∃ u,us=[u]∧RelV x u:=by
  cases r with
  | cons r1 r2=>cases r2; exact ⟨_,rfl,r1⟩
theorem vals2 {x y:V} {us:List Value} (r:Vals [x,y] us):∃ u w',us=[u,w']∧RelV x u∧RelV y w':=by
  cases r with
  | cons r1 r2 =>
    cases r2 with
    | cons r3 r4=>cases r4; exact ⟨_,_,rfl,r1,r3⟩
theorem call_abs:CallR X (.builtin "abs") (fun xs H Q=>∃ i,xs=[.int i]∧Q (.int (if i < 0 then -i else i)) H):=by
  intro pins s σ H xs us Q I r h
  obtain ⟨i,rfl,q⟩:=h
  obtain ⟨u,rfl,t,rfl⟩:=vals1 r
  exact call_abs_int fun u tk=>⟨.int (if i < 0 then -i else i),H,I.tok _,⟨_,rfl⟩,q⟩
theorem call_max2 (hc:X.calm=true):CallR X (.builtin "max") (fun xs H Q=>∃ i j,xs=[.int i,.int j]∧Q (.int (if j > i then j else i)) H):=by
  intro pins s σ H xs us Q I r h
  obtain ⟨i,j,rfl,q⟩:=h
  obtain ⟨u,w',rfl,⟨t,rfl⟩,⟨t',rfl⟩⟩:=vals2 r
  refine max_two_ints (I.ok.hd hc) fun h' tk k=>⟨_,H,I.kept k,?_,q⟩
  by_cases hj:j > i
  · rw [if_pos hj,if_pos hj]; exact ⟨_,rfl⟩
  · rw [if_neg hj,if_neg hj]; exact ⟨_,rfl⟩
theorem call_int1:CallR X (.type "int") (fun xs H Q=>(∃ i,xs=[.int i]∧Q (.int i) H)∨∃ k,xs=[.bl k]∧Q (.int (if k then 1 else 0)) H):=by
  intro pins s σ H xs us Q I r h
  rcases h with ⟨i,rfl,q⟩ | ⟨k,rfl,q⟩
  · obtain ⟨u,rfl,t,rfl⟩:=vals1 r
    exact call_int_int ⟨.int i,H,I,⟨_,rfl⟩,q⟩
  · obtain ⟨u,rfl,r1⟩:=vals1 r
    cases r1
    exact call_int_bool ⟨.int (if k then 1 else 0),H,I.tok _,⟨_,rfl⟩,q⟩
end
end L2
namespace L2
open PySem PySem.Spec PyProof.Rows
structure ObjM (h:Heap) (x dx C:Addr) (mA:Str→Option Value):Prop where
  obj:h.get? x=some (PySem.W.instObj C dx)
  ns:h.Ns1 dx mA
  ne:dx≠x
theorem lookIn_ns {h:Heap} {dx:Addr} {mA:Str→Option Value} (n:h.Ns1 dx mA):∃ od,h.get? dx=some od∧∀ name,PySem.W.lookIn name od=some (mA name):=by
  obtain ⟨o,es,ep,ho,hd,hk,_,hm⟩:=n
  refine ⟨o,ho,fun name=>?_⟩
  have e:=hm name
  unfold nsFind findBy at e
  rw [← Array.find?_toList] at e
  unfold PySem.W.lookIn
  rw [hd]
  dsimp only
  split
  · rename_i y q
    rw [q] at e
    exact congrArg some e
  · rename_i q
    rw [q] at e
    have a:es.toList.any (·.refKey)=false:=by
      rw [List.any_eq_false]
      intro y hy
      obtain ⟨z,t,hkey⟩:=hk y (Array.mem_toList_iff.mp hy)
      simp [DictEntry.refKey,hkey]
    have a':¬ es.toList.any (·.refKey)=true:=by rw [a]; exact Bool.false_ne_true
    rw [if_neg a']
    exact congrArg some e
theorem ObjM.look {h:Heap} {x dx C:Addr} {mA:Str→Option Value} (I:ObjM h x dx C mA):∃ od,PySem.W.InstAt h x (PySem.W.instObj C dx) C (some od)∧∀ name,PySem.W.lookIn name od=some (mA name) :=
  let ⟨od,ho,hl⟩:=lookIn_ns I.ns
  ⟨od,⟨I.obj,rfl,rfl,ho⟩,hl⟩
section
variable {prog:Program} {w:World} {A:Around} {E:Value→Shared→Prop} {s:Shared} {K:PySem.W.Frag} {x dx C f:Addr} {mA:Str→Option Value} {name:Str} {v:Value}
end
theorem RelO.some_of {v:V} {o:Option Value} (r:RelO (some v) o):∃ u,o=some u∧RelV v u:=by
  cases o with
  | none=>exact (show False from r).elim
  | some u=>exact ⟨u,rfl,r⟩
section
variable {P:Program} {w:World} {H H':Hp} {h h':Heap} {a C dx:Addr} {fs fs':List (Str × V)}
theorem ins_get (hok:HOk P w H h) (e:H a=some (.ins C dx fs)):∃ mA,ObjM h a dx C mA∧(∀ f,RelO (fs.lookup f) (mA f))∧PySem.Within mA (fs.map (·.1))∧fs.length≤1000∧H dx=some (.own a):=by
  obtain ⟨d,z,ne,ob,mA,n,r,q⟩:=(show ObjOk P w H h a (.ins C dx fs) from hok a _ e)
  exact ⟨mA,⟨ob,n,ne⟩,r,q,z,d⟩
end
structure Cls (K:PySem.W.Frag) (C:Addr):Prop where
  pg:PySem.W.plainGet K C Str.empty=true
  hd:PySem.W.hasDictIn K C=true
  po:PySem.W.plainOver K C=true
  sa:PySem.W.findIn K (.ref C) "__setattr__" = some (some (.builtin "object.__setattr__"))
theorem Cls.get {K:PySem.W.Frag} {C:Addr} (c:Cls K C) (f:Str):PySem.W.plainGet K C f=true:=c.pg
structure Con (K:PySem.W.Frag) (C:Addr) (f:Str) (v:V) (u:Value):Prop where
  at_:PySem.W.findIn K (.ref C) f=some (some u)
  rel:RelV v u
  get:PySem.W.specialIn K u "__get__" = some none
  cp:PySem.W.copiedNames.contains f=false
structure Meth (K:PySem.W.Frag) (C:Addr) (m:Str) (f:Addr):Prop where
  at_:PySem.W.findIn K (.ref C) m=some (some (.ref f))
  fn:PySem.W.isFn K (.ref f)=true
  kp:PySem.W.keepIn K (.ref f)=true
section
variable {X:Cx} {pins:List (Addr × Obj)} {σ:St} {H:Hp} {s:Shared} {a C dx:Addr} {fs:List (Str × V)} {f:Str} {v:V} {A:Around} {E:Value→Shared→Prop}
end
section
variable {X:Cx} {o e value:Expr} {f:Str} {pos pos' tpos:Pos} {ta tv:TE}
end
section
variable {X:Cx} {pins:List (Addr × Obj)} {σ:St} {H:Hp} {s:Shared} {A:Around} {E:Value→Shared→Prop} {Q:Value→Shared→Prop} {c:Value} {b:Bool}
inductive TyOf (K:PySem.W.Frag) (H:Hp):V→Value→Prop where
  | non:TyOf K H .non (.type "NoneType")
  | bl (x:Bool):TyOf K H (.bl x) (.type "bool")
  | int (i:Int):TyOf K H (.int i) (.type "int")
  | str (x:Str):TyOf K H (.str x) (.type "str")
  | flt (x:UInt64):TyOf K H (.flt x) (.type "float")
  | lst {a:Addr} {xs:List V} (e:H a=some (.lst xs)):TyOf K H (.ref a) (.type "list")
  | frz {a:Addr} {o:Obj} {xs:List V} (e:H a=some (.frz o (.lst xs))):TyOf K H (.ref a) (.type "list")
  | tup {a:Addr} {xs:List V} (e:H a=some (.tup xs)):TyOf K H (.ref a) (.type "tuple")
  | dK {a:Addr} {kvs:List (Key × V)} (e:H a=some (.dK kvs)):TyOf K H (.ref a) (.type "dict")
  | dT {a:Addr} {kvs:List (List Key × V)} (e:H a=some (.dT kvs)):TyOf K H (.ref a) (.type "dict")
  | ins {a C dx:Addr} {fs:List (Str × V)} (e:H a=some (.ins C dx fs)) (cl:Cls K C) (ha:PySem.W.findIn K (.ref C) "__class__" = some (some (.builtin "object.__class__")))
      (hn:PySem.W.specialIn K (.builtin "object.__class__") "__get__" = some (some (.builtin "getset_descriptor.__get__"))) (htk:PySem.W.takesIn K (.builtin "object.__class__")=some true)
      (hm:PySem.W.mroIn K C (.type "object")=some true):TyOf K H (.ref a) (.ref C)
theorem isinst_ok {x:V} {u t:Value} (I:Inv X pins σ H s) (rx:RelV x u) (ty:TyOf X.K H x t) (e:PySem.W.kitOne X.K t c=some b) (h:∀ tk,Q (.bool b) { s with toks:=tk }) :
    wpAny (model X.prog X.w) A (call (.builtin "isinstance") [u,c]) Q E s:=by
  cases ty with
  | non=>cases (show u=Value.none from rx); exact PySem.W.kia_one PySem.W.kitx_none I.kIn True.intro e (fun z=>nomatch z) h
  | bl y=>cases (show u=Value.bool y from rx); exact PySem.W.kia_one PySem.W.kitx_bool I.kIn True.intro e (fun z=>nomatch z) h
  | int i=>obtain ⟨t,q⟩:=(show ∃ t,u=Value.int i t from rx); cases q; exact PySem.W.kia_one PySem.W.kitx_int I.kIn True.intro e (fun z=>nomatch z) h
  | str y=>obtain ⟨t,q⟩:=(show ∃ t,u=Value.str y t from rx); cases q; exact PySem.W.kia_one PySem.W.kitx_str I.kIn True.intro e (fun z=>nomatch z) h
  | flt y=>obtain ⟨t,q⟩:=(show ∃ t,u=Value.float y t from rx); cases q; exact PySem.W.kia_one PySem.W.kitx_float I.kIn True.intro e (fun z=>nomatch z) h
  | @lst a xs ea =>
    cases (show u=Value.ref a from rx)
    obtain ⟨_,_,n,_,h1⟩:=(show ObjOk X.prog X.w H s.heap a (.lst xs) from I.hok a _ ea)
    exact PySem.W.kia_one PySem.W.kitx_list I.kIn ⟨_,h1,rfl⟩ e (fun z=>nomatch z) h
  | @frz a ob xs ea =>
    cases (show u=Value.ref a from rx)
    obtain ⟨_,_,_,n,_,h1⟩:=(show ObjOk X.prog X.w H s.heap a (.frz ob (.lst xs)) from I.hok a _ ea)
    exact PySem.W.kia_one PySem.W.kitx_list I.kIn ⟨_,h1,rfl⟩ e (fun z=>nomatch z) h
  | @tup a xs ea =>
    cases (show u=Value.ref a from rx)
    obtain ⟨_,_,_,p⟩:=(show ObjOk X.prog X.w H s.heap a (.tup xs) from I.hok a _ ea)
    obtain ⟨o,h1,h2,_⟩:=p
    exact PySem.W.kia_one PySem.W.kitx_tuple I.kIn ⟨o,h1,h2⟩ e (fun z=>nomatch z) h
  | @dK a kvs ea =>
    cases (show u=Value.ref a from rx)
    obtain ⟨_,_,vs,_,p⟩:=(show ObjOk X.prog X.w H s.heap a (.dK kvs) from I.hok a _ ea)
    obtain ⟨o,es,ep,h1,h2,_⟩:=p
    exact PySem.W.kia_one PySem.W.kitx_dict I.kIn ⟨o,h1,h2.1⟩ e (fun z=>nomatch z) h
  | @dT a kvs ea =>
    cases (show u=Value.ref a from rx)
    obtain ⟨_,_,xs,_,o,es,ep,h1,h2,_⟩:=(show ObjOk X.prog X.w H s.heap a (.dT kvs) from I.hok a _ ea)
    exact PySem.W.kia_one PySem.W.kitx_dict I.kIn ⟨o,h1,h2.1⟩ e (fun z=>nomatch z) h
  | @ins a C dx fs ea cl ha hn htk hm =>
    cases (show u=Value.ref a from rx)
    obtain ⟨mA,O,_⟩:=ins_get I.hok ea
    obtain ⟨od,J,_⟩:=O.look
    exact PySem.W.kia_one (PySem.W.kitx_own (cl.get _) cl.hd ha hn htk hm) I.kIn J e (fun z=>nomatch z) h
end
end L2
namespace L2
open PySem PySem.Spec PyProof.Rows
structure Room (k:Nat) (A:Around):Prop where
  hd:A.handled=none
  dp:A.depth+3 * k+5 < recursionLimit
  un:A.units+16 * k+200 < cLine
theorem Room.mono {j k:Nat} {A:Around} (r:Room k A) (h:j≤k):Room j A:=⟨r.hd,by have:=r.dp; omega,by have:=r.un; omega⟩
theorem Room.deeper {k:Nat} {A:Around} (r:Room (k+1) A) (env:Env):Room k (A.deeper env) :=
  ⟨r.hd,by have:=r.dp; show A.depth+1+3 * k+5 < _; omega,by have:=r.un; show A.units+3+16 * k+200 < _; omega⟩
theorem Room.depth {k:Nat} {A:Around} (r:Room k A):A.depth < recursionLimit:=by have:=r.dp; omega
theorem Room.units {k:Nat} {A:Around} (r:Room k A):A.units+64 < cLine:=by have:=r.un; omega
noncomputable def tNil:TA:=fun _ H Q=>Q [] H
noncomputable def tCons (ta:TE) (tr:TA):TA:=fun σ H Q=>ta σ H fun x H1=>tr σ H1 fun xs H2=>Q (x :: xs) H2
section
variable {X:Cx} {e:Expr} {es:List Expr} {te:TE} {t:TA} {pos:Pos}
theorem pa_nil:PA X [] tNil:=fun _ _ _ _ H Q I h=>Calls.spliced_nil ⟨[],H,I,.nil,h⟩
theorem pa_cons (ha:PE X e te) (hr:PA X es t) (hs:starEach (e :: es) X.env=(false,eval e X.env) :: starEach es X.env:=by rfl):PA X (e :: es) (tCons te t):=by
  intro pos pins s σ H Q I h
  rw [hs]
  show wpAny _ _ (spliced ((false,eval e X.env) :: backTo pos (starEach es X.env))) _ _ s
  refine Calls.spliced_cons (thn (ha pins s σ H _ I h) fun u s1 ⟨x,H1,I1,r1,q1⟩=>?_)
  exact thn (hr pos pins s1 σ H1 _ I1 q1) fun us s2 ⟨xs,H2,I2,r2,q2⟩=>⟨x :: xs,H2,I2,.cons r1 r2,q2⟩
noncomputable def tTup (t:TA):TE:=fun σ H Q=>t σ H fun xs H1=>xs.length≤sizeLine∧∀ p,H1 p=none→Q (.ref p) (upd H1 p (.tup xs))
noncomputable def tLst (t:TA):TE:=fun σ H Q=>t σ H fun xs H1=>xs.length≤sizeLine∧∀ p,H1 p=none→Q (.ref p) (upd H1 p (.lst xs))
theorem pe_tup {x1} (h:PA X es t):PE X (.Tuple es x1 pos) (tTup t):=by
  intro pins s σ H Q I hq
  refine wpAny_Tuple_spliced (thn (h pos pins s σ H _ I hq) fun us s1 ⟨xs,H1,I1,r,z,q⟩=>⟨by rw [← r.length]; exact z,?_⟩)
  have hf:H1 s1.heap.objs.size=none:=I1.hok.fresh (Nat.le_refl _)
  refine ⟨.ref s1.heap.objs.size,upd H1 s1.heap.objs.size (.tup xs),I1.laid (t':=s1.toks) (fun b u e=>Heap.get?_push_of_some _ e) (Nat.le_refl _) ?_,rfl,q _ hf⟩
  exact ⟨z,us,r,⟨_,Heap.get?_push_size _ rfl,rfl,_,rfl⟩⟩
theorem pe_lst (h:PA X es t):PE X (.List es pos) (tLst t):=by
  intro pins s σ H Q I hq
  refine wpAny_List_spliced (thn (h pos pins s σ H _ I hq) fun us s1 ⟨xs,H1,I1,r,z,q⟩=>⟨by rw [← r.length]; exact z,?_⟩)
  have hf:H1 s1.heap.objs.size=none:=I1.hok.fresh (Nat.le_refl _)
  refine ⟨.ref s1.heap.objs.size,upd H1 s1.heap.objs.size (.lst xs),I1.laid (t':=s1.toks) (fun b u e=>Heap.get?_push_of_some _ e) (Nat.le_refl _) ?_,rfl,q _ hf⟩
  exact ⟨z,us,0,r,Heap.get?_push_size _ rfl⟩
end
noncomputable abbrev Sp:=List V→Hp→VK→XK→Prop
noncomputable abbrev CXT:=List Env→Hp→Shared→XK→Value→Shared→Prop
structure Env0 (P:Program) (w:World) (K:PySem.W.Frag) (mg:Str→Option Value) (base:Heap) (A:Around) (outer:List Env) (s:Shared) (H:Hp):Prop where
  frames:A.frames=some outer
  mod:Mod K mg base
  bs:∀ b o,base.get? b=some o→s.heap.get? b=some o∧H b=none
  bsz:base.objs.size≤s.heap.objs.size
  funs:s.heap.FunFrames base outer
  frf:∀ b∈frs outer,H b=none
  hok:HOk P w H s.heap
  bare:AllBare s.gens
noncomputable def CE (outer:List Env) (P:Program) (w:World) (H:Hp) (s:Shared) (Q:VK) (u:Value) (s':Shared):Prop :=
  ∃ v H',s'.os=s.os∧AllBare s'.gens∧Un (frs outer) [] H H' s.heap s'.heap∧HOk P w H' s'.heap∧RelV v u∧Q v H'
noncomputable def CR (CX:CXT) (outer:List Env) (P:Program) (w:World) (H:Hp) (s:Shared) (Q:VK) (E:XK) (r:Result) (s':Shared):Prop :=
  match r with
  | .ok (.ret u)=>CE outer P w H s Q u s'
  | .ok _=>False
  | .error e=>CX outer H s E e s'
structure FnOk (P:Program) (w:World) (K:PySem.W.Frag) (mg:Str→Option Value) (base:Heap) (CX:CXT) (k:Nat) (f:Addr) (fd:FuncData) (ps:List Str) (sp:Sp):Prop where
  len:∀ vs H Q E,sp vs H Q E→vs.length=ps.length
  run:∀ (A:Around) (outer:List Env) (s:Shared) (H:Hp) (args:Args) (us:List Value) (vs:List V) (Q:VK) (E:XK),Room k A→Env0 P w K mg base A outer s H→BindsTo s fd args (ps.zip us)→Vals vs us→sp vs H Q E →
    codeAny (model P w) A (.call (.ref f) args) (CR CX outer P w H s Q E) s
theorem FnOk.mono {P:Program} {w:World} {K:PySem.W.Frag} {mg:Str→Option Value} {base:Heap} {CX:CXT} {j k:Nat} {f:Addr} {fd:FuncData} {ps:List Str} {sp:Sp} (F:FnOk P w K mg base CX j f fd ps sp) (h:j≤k) :
    FnOk P w K mg base CX k f fd ps sp:=⟨F.len,fun A outer s H args us vs Q E hr=>F.run A outer s H args us vs Q E (hr.mono h)⟩
section
variable {X:Cx} {pins:List (Addr × Obj)} {σ:St} {H:Hp} {s s':Shared}
theorem Inv.env0 (I:Inv X pins σ H s):Env0 X.prog X.w X.K X.mg X.base X.A X.stack s H :=
  ⟨I.ok.frames,I.ok.mod,I.bs,Nat.le_trans I.ok.bsz I.sz,I.stack,I.stkFree,I.hok,I.bare⟩
theorem Inv.after {Q:VK} {u:Value} (I:Inv X pins σ H s) (h:CE X.stack X.prog X.w H s Q u s'):EP X pins σ Q u s':=by
  obtain ⟨v,H',os,bare,un,hok,r,q⟩:=h
  obtain ⟨hh,g,d,t,os'⟩:=s'
  obtain rfl:os'=s.os:=os
  exact ⟨v,H',I.call (h':=hh) (g':=g) (d':=d) (t':=t) (ch:=[]) un hok bare (fun b z=>absurd z (by simp)),r,q⟩
end
noncomputable def tCall (sp:Sp) (dvs:List V) (E:XK) (t:TA):TE:=fun σ H Q=>t σ H fun vs H1=>sp (vs++dvs) H1 Q E
noncomputable def Binds (K:PySem.W.Frag) (fd:FuncData) (ps:List Str) (ds:List Value):Prop :=
  ∀ (s:Shared) (us:List Value),K.In s.heap→(us++ds).length=ps.length→BindsTo s fd ⟨us,[]⟩ (ps.zip (us++ds))
theorem Binds.all {K:PySem.W.Frag} {fd:FuncData} {ps:List Str} (h:∀ us:List Value,us.length=ps.length→bindArgs fd ⟨us,[]⟩=pure (ps.zip us)):Binds K fd ps []:=fun s us _ hl=>by
  rw [List.append_nil] at hl ⊢
  exact .of_eq (h us hl)
noncomputable def Passes (CX:CXT) (X:Cx) (E:XK):Prop:=∀ (pins:List (Addr × Obj)) (σ:St) (H:Hp) (s:Shared) (e:Value) (s':Shared),Inv X pins σ H s→CX X.stack H s E e s'→X.xe e s'
section
variable {X:Cx} {CX:CXT} {k:Nat} {f C:Addr} {fd:FuncData} {ps:List Str} {sp:Sp} {dvs:List V} {ds:List Value} {E:XK} {x m:Str} {p pos apos:Pos} {e o:Expr} {es:List Expr} {ta:TE} {t:TA}
theorem run_fn {pins:List (Addr × Obj)} {σ:St} {H:Hp} {s:Shared} {Q:VK} {us:List Value} {vs:List V} (F:FnOk X.prog X.w X.K X.mg X.base CX k f fd ps sp) (hr:Room k X.A) (hb:Binds X.K fd ps ds) (hd:Vals dvs ds) (hx:Passes CX X E)
    (I:Inv X pins σ H s) (r:Vals vs us) (h:sp (vs++dvs) H Q E):wpAny (model X.prog X.w) X.A (call (.ref f) us) (EP X pins σ Q) X.xe s:=by
  have r2:Vals (vs++dvs) (us++ds):=r.append hd
  have hl:(us++ds).length=ps.length:=by rw [← r2.length]; exact F.len _ _ _ _ h
  refine wpAny_call (codeAny_mono (F.run X.A X.stack s H ⟨us,[]⟩ (us++ds) (vs++dvs) Q E hr I.env0 (hb s us I.kIn hl) r2 h) fun r s' hq=>?_)
  cases r with
  | error e=>exact hx pins σ H s e s' I hq
  | ok fl =>
    cases fl with
    | ret u=>exact I.after hq
    | next=>exact False.elim hq
    | brk=>exact False.elim hq
    | cont=>exact False.elim hq
theorem pe_call (F:FnOk X.prog X.w X.K X.mg X.base CX k f fd ps sp) (hr:Room k X.A) (hg:Gl X x) (hm:X.mg x=some (.ref f)) (hk:PySem.W.keepIn X.K (.ref f)=true) (hb:Binds X.K fd ps ds) (hd:Vals dvs ds) (hx:Passes CX X E)
    (ha:PA X (e :: es) t) (hdb:(x == ("__debug__" : Str))=false:=by decide) (he:starEach (e :: es) X.env=(false,eval e X.env) :: starEach es X.env:=by rfl) (hpl:(backTo pos (starEach es X.env)).any (·.1)=false:=by rfl) :
    PE X (.Call (.Name x p) (e :: es) [] pos) (tCall sp dvs E t):=by
  intro pins s σ H Q I h
  refine wpAny_Call_Name_kw (ld_glob I hg hm ?_ hdb)
  refine PySem.W.callWith_K (h₀:=X.base) I.ok.mod.kin hk (thn (ha pos pins s σ H _ I h) fun us s1 ⟨vs,H1,I1,r,q⟩=>⟨I1.kIn,?_⟩) he hpl
  exact run_fn F hr hb hd hx I1 r q
structure Mk (K:PySem.W.Frag) (C f:Addr):Prop where
  makes:PySem.W.makesIn K C=true
  init:PySem.W.findIn K (.ref C) "__init__" = some (some (.ref f))
  fn:PySem.W.isFn K (.ref f)=true
  kp:PySem.W.keepIn K (.ref C)=true
end
noncomputable def PK (X:Cx) (kws:List Keyword) (t:TA):Prop :=
  ∀ (pos:Pos) (pins:List (Addr × Obj)) (s:Shared) (σ:St) (H:Hp) (Q:List V→Hp→Prop),Inv X pins σ H s→t σ H Q→wpAny (model X.prog X.w) X.A (evalAll ((backToKw pos (keywordEach kws X.env)).map (·.2))) (AP X pins σ Q) X.xe s
section
variable {X:Cx} {CX:CXT} {k:Nat} {f C:Addr} {fd:FuncData} {ps ks:List Str} {sp:Sp} {E:XK} {x m:Str} {p pos apos kpos:Pos} {e o:Expr} {es:List Expr} {kws:List Keyword} {te ta:TE} {t tk:TA} {nm:Option Str}
theorem pk_nil:PK X [] tNil:=fun _ _ _ _ H Q I h=>wpAny_evalAll_nil ⟨[],H,I,.nil,h⟩
theorem pk_cons (ha:PE X e te) (hr:PK X kws t):PK X (⟨nm,e,kpos⟩ :: kws) (tCons te t):=by
  intro pos pins s σ H Q I h
  show wpAny _ _ (evalAll ((do let v ← eval e X.env; standAt pos; pure v) :: (backToKw pos (keywordEach kws X.env)).map (·.2))) _ _ s
  refine wpAny_evalAll_cons (wpAny_bind (thn (ha pins s σ H _ I h) fun u s1 ⟨x,H1,I1,r1,q1⟩=>wpAny_bind (wpAny_standAt (wpAny_pure ?_))))
  exact thn (hr pos pins s1 σ H1 _ I1 q1) fun us s2 ⟨xs,H2,I2,r2,q2⟩=>⟨x :: xs,H2,I2,.cons r1 r2,q2⟩
structure KBinds (K:PySem.W.Frag) (fd:FuncData) (ps ks:List Str) (g:List Value→List Value→List Value) (gV:List V→List V→List V):Prop where
  to:∀ (s:Shared) (us ws:List Value),K.In s.heap→(g us ws).length=ps.length→BindsTo s fd ⟨us,ks.zip ws⟩ (ps.zip (g us ws))
  rel:∀ {vs:List V} {us:List Value} {zs:List V} {ws:List Value},Vals vs us→Vals zs ws→Vals (gV vs zs) (g us ws)
variable {g:List Value→List Value→List Value} {gV:List V→List V→List V}
end
structure FnScope (N P:List Str) (sc:Scope):Prop where
  kind:sc.kind=.function
  co:sc.isCoroutine=false
  gen:sc.isGenerator=false
  nd:N.Nodup
  pre:N.take P.length=P
  par:∀ x∈P,sc.names.lookup x=some .local∨sc.names.lookup x=some .cell
  nofree:∀ y∈sc.names,y.2≠.free
theorem bindL_out {kindOf:Str→Option NameKind} {x:Str}:∀ {binds:List (Str × Value)} {m:Str→Option Value},(∀ v,(x,v) ∉ binds)→bindL kindOf binds m x=m x
  | [],_,_=>rfl
  | (n,v) :: r,m,h=>by
    unfold bindL
    rw [bindL_out fun w hw=>h w (List.mem_cons_of_mem _ hw)]
    split
    · have:x≠n:=by rintro rfl; exact h v List.mem_cons_self
      simp [this]
    · rfl
theorem bindC_out {kindOf:Str→Option NameKind} {x:Str}:∀ {binds:List (Str × Value)} {m:Str→Option Value},(∀ v,(x,v) ∉ binds)→bindC kindOf binds m x=m x
  | [],_,_=>rfl
  | (n,v) :: r,m,h=>by
    unfold bindC
    rw [bindC_out fun w hw=>h w (List.mem_cons_of_mem _ hw)]
    split
    · rfl
    · have:x≠n:=by rintro rfl; exact h v List.mem_cons_self
      simp [this]
theorem bindL_get {kindOf:Str→Option NameKind} {x:Str} {v:Value}:∀ {P:List Str} {vs:List Value} {i:Nat} {m:Str→Option Value},P.Nodup→P[i]?=some x→vs[i]?=some v→kindOf x=some .local →
    bindL kindOf (P.zip vs) m x=some v
  | [],_,_,_,_,h,_,_=>by simp at h
  | _ :: _,[],_,_,_,_,h,_=>by simp at h
  | p :: P,w :: vs,0,m,nd,h1,h2,hk=>by
    simp at h1 h2; subst h1; subst h2
    show bindL kindOf ((p,w) :: P.zip vs) m p=_
    unfold bindL
    rw [bindL_out fun v hv=>(List.nodup_cons.mp nd).1 (List.of_mem_zip hv).1,if_pos hk]
    simp
  | p :: P,w :: vs,i+1,m,nd,h1,h2,hk=>by
    show bindL kindOf ((p,w) :: P.zip vs) m x=_
    unfold bindL
    exact bindL_get (i:=i) (List.nodup_cons.mp nd).2 (by simpa using h1) (by simpa using h2) hk
theorem bindC_get {kindOf:Str→Option NameKind} {x:Str} {v:Value}:∀ {P:List Str} {vs:List Value} {i:Nat} {m:Str→Option Value},P.Nodup→P[i]?=some x→vs[i]?=some v→kindOf x≠some .local →
    bindC kindOf (P.zip vs) m x=some v
  | [],_,_,_,_,h,_,_=>by simp at h
  | _ :: _,[],_,_,_,_,h,_=>by simp at h
  | p :: P,w :: vs,0,m,nd,h1,h2,hk=>by
    simp at h1 h2; subst h1; subst h2
    show bindC kindOf ((p,w) :: P.zip vs) m p=_
    unfold bindC
    rw [bindC_out fun v hv=>(List.nodup_cons.mp nd).1 (List.of_mem_zip hv).1,if_neg hk]
    simp
  | p :: P,w :: vs,i+1,m,nd,h1,h2,hk=>by
    show bindC kindOf ((p,w) :: P.zip vs) m x=_
    unfold bindC
    exact bindC_get (i:=i) (List.nodup_cons.mp nd).2 (by simpa using h1) (by simpa using h2) hk
noncomputable def start (N:List Str) (vs:List V):St:=vs.map some++List.replicate (N.length - vs.length) none
noncomputable def cxOf (CX:CXT) (P:Program) (w:World) (K:PySem.W.Frag) (mg:Str→Option Value) (base:Heap) (N:List Str) (qual:Str) (scope:Scope) (f:Addr) (cd:Value) (A:Around) (outer:List Env) (s:Shared) (H:Hp) (E:XK):Cx where
  prog:=P
  w:=w
  K:=K
  mg:=mg
  base:=base
  A:=A.deeper (envOfC qual scope s.heap.objs.size f cd)
  N:=N
  s₀:=s
  H₀:=H
  env:=envOfC qual scope s.heap.objs.size f cd
  outer:=outer
  stack:=envOfC qual scope s.heap.objs.size f cd :: outer
  ex:=[]
  calm:=true
  fn:=fun _=>true
  pn:=[]
  xe:=fun e s'=>wpAny (model P w) (A.deeper (envOfC qual scope s.heap.objs.size f cd)) (leaving (envOfC qual scope s.heap.objs.size f cd) e) (fun _ s''=>CX outer H s E e s'') (fun e' s''=>CX outer H s E e' s'') s'
theorem cell_has {sc:Scope} {n:Nat} {x:Str} (h:sc.names.lookup x=some .cell):∃ c,(cellsFrom n sc.names []).lookup x=some c:=by
  have q:=PySem.W.cellsFrom_some sc.names n [] (.inl h)
  exact Option.isSome_iff_exists.mp q
theorem inv_start {CX:CXT} {P:Program} {w:World} {K:PySem.W.Frag} {mg:Str→Option Value} {base:Heap} {N ps:List Str} {qual:Str} {scope:Scope} {f:Addr} {cd:Value} {A:Around} {outer:List Env} {s s1:Shared} {H:Hp} {E:XK} {us:List Value} {vs:List V}
    (S:FnScope N ps scope) (hd:A.handled=none) (e0:Env0 P w K mg base A outer s H) (hl:vs.length=ps.length) (r:Vals vs us)
    (x:InCallC s s.heap.objs.size (bindL (envOfC qual scope s.heap.objs.size f cd).kindOf (ps.zip us) fun _=>none) (cellsFrom (s.heap.objs.size+1) scope.names []) (bindC (envOfC qual scope s.heap.objs.size f cd).kindOf (ps.zip us) fun _=>none) s1) :
    Inv (cxOf CX P w K mg base N qual scope f cd A outer s H E) [] (start N vs) H s1:=by
  have hpl:ps.length≤N.length:=by have:=congrArg List.length S.pre; rw [List.length_take] at this; omega
  obtain ⟨h1,tk,rfl,hk⟩:=x.done
  have noA:∀ b:Addr,b ∉ (cxOf CX P w K mg base N qual scope f cd A outer s H E).ex:=fun b z=>absurd (show b∈([]:List Addr) from z) (by simp)
  refine ⟨⟨e0.mod,S.kind,rfl,rfl,Nat.le_refl _,fun y z c h1 h2=>?_,fun y hy=>?_,fun y c _ h=>?_,fun _=>hd,Around.frames_deeper e0.frames,.inr ⟨rfl,rfl⟩,fun b z=>absurd z (noA b),e0.bs,e0.bsz,fun b _ _=>noA b,fun b z=>absurd z (noA b),e0.funs,e0.frf⟩,
    rfl,e0.bare,Un.kept hk,⟨_,x.toInCall.ns,fun i y v h1 h2 h3=>?_⟩,fun y c h=>⟨_,x.cell y c h⟩,e0.hok.fresh (Nat.le_refl _),fun y c h=>?_,fun p hp=>absurd (show p∈([]:List (Addr × Obj)) from hp) (by simp),e0.hok.kept hk,?_⟩
  · exact name_of_addr x.apart (PySem.mem_of_lookup h1) (PySem.mem_of_lookup h2)
  · have hy:scope.names.lookup y=some .cell∨scope.names.lookup y=some .free:=hy
    rcases hy with hy | hy
    · exact cell_has hy
    · exact absurd rfl (S.nofree _ (PySem.mem_of_lookup hy))
  · exact Nat.le_of_lt (x.above y c (PySem.mem_of_lookup h))
  · have hi:i < vs.length:=by
      unfold start at h2
      by_cases hi:i < vs.length
      · exact hi
      · rw [List.getElem?_append_right (by simpa using hi)] at h2
        rw [List.getElem?_replicate] at h2
        split at h2 <;> cases h2
    have ha:vs[i]?=some v:=by
      unfold start at h2
      rw [List.getElem?_append_left (by simpa using hi),List.getElem?_map] at h2
      cases e:vs[i]? with
      | none=>rw [e] at h2; cases h2
      | some a=>rw [e] at h2; cases h2; rfl
    obtain ⟨u,hu,rv⟩:=r.get ha
    have hp:ps[i]?=some y:=by
      rw [← S.pre,List.getElem?_take_of_lt (by omega)]; exact h1
    have ndP:ps.Nodup:=by rw [← S.pre]; exact S.nd.sublist (List.take_sublist _ _)
    refine ⟨u,rv,?_⟩
    rcases S.par y (List.mem_of_getElem? hp) with k | k
    · exact .inl ⟨k,bindL_get ndP hp hu k⟩
    · obtain ⟨c,e⟩:=cell_has (n:=s.heap.objs.size+1) k
      refine .inr ⟨.inl k,c,e,?_⟩
      have q:=x.cell y c e
      rw [bindC_get ndP hp hu (by show scope.names.lookup y≠_; rw [k]; decide)] at q
      exact q
  · exact e0.hok.fresh (Nat.le_of_lt (x.above y c (PySem.mem_of_lookup h)))
  · unfold start
    show _=N.length
    rw [List.length_append,List.length_map,List.length_replicate]
    omega
theorem fn_of {CX:CXT} {P:Program} {w:World} {K:PySem.W.Frag} {mg:Str→Option Value} {base:Heap} {k:Nat} {f:Addr} {name qual:Str} {params:Arguments} {body:List Stmt} {scope:Scope} {dV kV doc pm cdv ct oc:Value} {an od:Option Addr}
    {osl:Array (Option Value)} {N ps:List Str} {sp:Sp} (lk:K.lookup f=some ⟨oc,od,.func (PySem.W.fnOf name qual params body scope dV kV doc pm an cdv ct),osl⟩) (hcd:PySem.W.codeIn K cdv qual=true) (S:FnScope N ps scope)
    (len:∀ vs H Q E,sp vs H Q E→vs.length=ps.length)
    (hbody:∀ (A:Around) (outer:List Env) (s:Shared) (H:Hp) (vs:List V) (Q:VK) (E:XK),Room k (A.deeper (envOfC qual scope s.heap.objs.size f cdv))→sp vs H Q E →
      ∃ t,PSs (cxOf CX P w K mg base N qual scope f cdv A outer s H E) body t∧t { nx:=fun _ H'=>Q .non H',rt:=Q } (start N vs) H) :
    FnOk P w K mg base CX (k+1) f (PySem.W.fnOf name qual params body scope dV kV doc pm an cdv ct) ps sp:=by
  refine ⟨len,fun A outer s H args us vs Q E hr e0 hb r hsp=>?_⟩
  have hl:=len _ _ _ _ hsp
  have KX:K.In s.heap:=e0.mod.kin.keeps fun b o e=>(e0.bs b o e).1
  have lim:s.heap.NoLimit:=e0.mod.nolimit.keeps fun b o e=>(e0.bs b o e).1
  have hkind:∀ y∈ps.zip us,scope.names.lookup y.1=some .local∨(scope.names.lookup y.1=some .cell∧((cellsFrom (s.heap.objs.size+1) scope.names []).lookup y.1).isSome=true):=fun ⟨n,v⟩ hy=>by
    rcases S.par n (List.of_mem_zip hy).1 with q | q
    · exact .inl q
    · exact .inr ⟨q,PySem.W.cellsFrom_some _ _ _ (.inl q)⟩
  refine codeAny_call_function hr.depth (KX _ _ lk) rfl S.co S.gen rfl (PySem.W.codeRec_of KX hcd) (hb _ _ _ _ ?_)
  refine wpAny_newFunctionEnv_cells S.kind hkind fun env he s1 x=>?_
  subst he
  refine ⟨lim.keeps x.toInCall.keep,codeAny_func ?_⟩
  obtain ⟨t,ht,hq⟩:=hbody A outer s H vs Q E (hr.deeper _) hsp
  have I:Inv (cxOf CX P w K mg base N qual scope f cdv A outer s H E) [] (start N vs) H s1:=inv_start S hr.hd e0 hl r x
  refine wpAny_mono (ht [] s1 (start N vs) H _ I hq) (fun fl s' hs=>?_) fun e s' hs=>hs
  have fin:∀ {σ':St} {H':Hp} {v:V} {u:Value},Inv (cxOf CX P w K mg base N qual scope f cdv A outer s H E) [] σ' H' s'→RelV v u→Q v H'→CE outer P w H s Q u s' :=
    fun {σ' H' v u} J rv q=>⟨v,H',J.os,J.bare,J.base,J.hok,rv,q⟩
  cases fl with
  | ret u =>
    obtain ⟨v,σ',H',J,rv,q⟩:=hs
    exact fin J rv q
  | next =>
    obtain ⟨σ',H',J,q⟩:=hs
    exact fin (v:=V.non) (u:=Value.none) J rfl q
  | brk =>
    obtain ⟨_,_,_,q⟩:=hs
    exact False.elim q
  | cont =>
    obtain ⟨_,_,_,q⟩:=hs
    exact False.elim q
end L2
namespace L2
open PySem PySem.Spec PyProof.Rows
section
variable {X:Cx} {x:Str} {p pos:Pos} {e:Expr} {es:List Expr} {t:TA} {id T:String} {r:List V→Hp→VK→Prop}
noncomputable def tCB (r:List V→Hp→VK→Prop) (t:TA):TE:=fun σ H Q=>t σ H fun vs H1=>r vs H1 Q
theorem pe_callB (hc:CallR X (.builtin id) r) (hg:Gl X x) (hm:X.mg x=none) (hv:bootBuiltins x=some (.builtin id)) (ha:PA X (e :: es) t) (hn:x ≠ "__name__":=by decide) (hdb:(x == ("__debug__" : Str))=false:=by decide)
    (he:starEach (e :: es) X.env=(false,eval e X.env) :: starEach es X.env:=by rfl) (hpl:(backTo pos (starEach es X.env)).any (·.1)=false:=by rfl):PE X (.Call (.Name x p) (e :: es) [] pos) (tCB r t):=by
  intro pins s σ H Q I h
  refine wpAny_Call_Name_kw (ld_blt I hg hm hv ?_ hn hdb)
  exact PyProof.Rows.callWith_builtin1 (thn (ha pos pins s σ H _ I h) fun us s1 ⟨vs,H1,I1,r1,q1⟩=>hc pins s1 σ H1 vs us Q I1 r1 q1) he hpl
theorem pe_callTy (hc:CallR X (.type T) r) (hg:Gl X x) (hm:X.mg x=none) (hv:bootBuiltins x=some (.type T)) (ha:PA X (e :: es) t) (hn:x ≠ "__name__":=by decide) (hdb:(x == ("__debug__" : Str))=false:=by decide)
    (he:starEach (e :: es) X.env=(false,eval e X.env) :: starEach es X.env:=by rfl) (hpl:(backTo pos (starEach es X.env)).any (·.1)=false:=by rfl):PE X (.Call (.Name x p) (e :: es) [] pos) (tCB r t):=by
  intro pins s σ H Q I h
  refine wpAny_Call_Name_kw (ld_blt I hg hm hv ?_ hn hdb)
  exact PyProof.Rows.callWith_type1 (thn (ha pos pins s σ H _ I h) fun us s1 ⟨vs,H1,I1,r1,q1⟩=>hc pins s1 σ H1 vs us Q I1 r1 q1) he hpl
end
end L2
namespace HT
open PySem PyProof.Rows
section
open PySem.SeqAt
open PySem.AutoSeq1 (wpAny_loadPart')
open PySem.MeetsSeq PySem.MeetsSeq2 PySem.MeetsSeq3
end
section
variable {prog:Program} {w:World} {A:Around} {E:Value→Shared→Prop} {s:Shared}
theorem cat_tup {t b:Addr} {vs ws:List Value} {Q:Value→Shared→Prop} (ht:IsTup s.heap t vs.toArray) (hb:IsTup s.heap b ws.toArray) (hv:vs≠[])
    (h1:ws=[]→Q (.ref t) s) (h2:ws≠[]→Q (.ref s.heap.objs.size) { s with heap:=s.heap.push { cls:=.type "tuple",data:=.seq (vs++ws).toArray } })
    (hsz:vs.length+ws.length≤sizeLine):wpAny (model prog w) A (binaryOp .Add (.ref t) (.ref b)) Q E s:=by
  obtain ⟨⟨cls,dd,data,sl⟩,ho,hc,n,hd⟩:=id ht
  obtain ⟨⟨cls2,dd2,data2,sl2⟩,ho2,hc2,n2,hd2⟩:=id hb
  simp only at hc hd hc2 hd2
  subst hc hd hc2 hd2
  have e:vs.toArray++ws.toArray=(vs++ws).toArray:=by simp
  by_cases hw:ws=[]
  · exact concat_meets ⟨_,ho,rfl⟩ ⟨_,ho2,rfl⟩ noFill_tuple_add seq_tuple_add PySem.F.slot_tuple_add PySem.F.entry_tuple_add (PySem.F.args_tuple_add_2 _ _)
      (tuple_addW1 t b vs.toArray ws.toArray n n2 dd dd2 sl sl2 (by simpa using hv) (by simp [hw])) ⟨ho,ho2,h1 hw⟩
  · refine concat_meets ⟨_,ho,rfl⟩ ⟨_,ho2,rfl⟩ noFill_tuple_add seq_tuple_add PySem.F.slot_tuple_add PySem.F.entry_tuple_add (PySem.F.args_tuple_add_2 _ _)
      (tuple_addW2 t b vs.toArray ws.toArray n n2 dd dd2 sl sl2 (by simpa using hv) (by simpa using hw) (by rw [List.size_toArray,List.size_toArray]; exact hsz)) ⟨ho,ho2,?_⟩
    rw [e]
    exact h2 hw
noncomputable def sIx (n d:Nat):Option Int→Nat
  | none=>d
  | some v=>if v < 0 then (v+(n:Int)).toNat else min v.toNat n
theorem sIx_none (n d:Nat):sIx n d none=d:=rfl
theorem sIx_nat (n d k:Nat):sIx n d (some (k:Int))=min k n:=by
  show (if (k:Int) < 0 then ((k:Int)+(n:Int)).toNat else min (k:Int).toNat n)=min k n
  rw [if_neg (by omega),Int.toNat_natCast]
theorem sIx_le (n d:Nat) (hd:d≤n) (o:Option Int):sIx n d o≤n:=by
  cases o with
  | none=>exact hd
  | some v =>
    show (if v < 0 then (v+(n:Int)).toNat else min v.toNat n)≤n
    by_cases hv:v < 0
    · rw [if_pos hv]; omega
    · rw [if_neg hv]; exact Nat.min_le_right _ _
theorem clip_eq (v:Int) (n d:Nat):(if v < 0 then max (v+(n:Int)) 0 else min v (n:Int))=((sIx n d (some v):Nat):Int):=by
  show (if v < 0 then max (v+(n:Int)) 0 else min v (n:Int))=(((if v < 0 then (v+(n:Int)).toNat else min v.toNat n):Nat):Int)
  by_cases hv:v < 0
  · simp only [if_pos hv]; omega
  · simp only [if_neg hv]; omega
theorem adjust_gen (lo hi:Option Int) (n:Nat):Builtin.Slice.sliceAdjust lo hi 1 (n:Int)=(((sIx n 0 lo:Nat):Int),((sIx n n hi:Nat):Int)):=by
  have h1:¬ ((1:Int) < 0):=by omega
  unfold Builtin.Slice.sliceAdjust
  simp only [h1,if_false]
  refine Prod.ext ?_ ?_
  · cases lo with
    | none=>rfl
    | some v=>exact clip_eq v n 0
  · cases hi with
    | none=>rfl
    | some v=>exact clip_eq v n n
theorem places_gen (i j:Nat):Builtin.Slice.slicePlaces (i:Int) (j:Int) 1=j - i:=by
  unfold Builtin.Slice.slicePlaces
  have h1:(1:Int) > 0:=by omega
  simp only [h1,if_true,Int.ediv_one]
  split <;> omega
theorem slicePart_ {v:Value} {o:Option Int} {Q:Option Int→Shared→Prop} (p:IsPart v o) (h:Q o s):wpAny (model prog w) A (Builtin.Slice.slicePartIndex v) Q E s:=by
  cases p with
  | none=>exact slicePart_none h
  | int i t=>exact slicePart_int h
theorem sliceApplied_gen {sl:Addr} {vl vu:Value} {lo hi:Option Int} {n:Nat} {Q:Int × Int × Nat→Shared→Prop} (hs:s.heap.IsSliceOf sl vl vu .none) (pl:IsPart vl lo) (pu:IsPart vu hi)
    (h:Q (((sIx n 0 lo:Nat):Int),1,sIx n n hi - sIx n 0 lo) s):wpAny (model prog w) A (Builtin.Slice.sliceApplied (.ref sl) (pure (n:Int))) Q E s:=by
  obtain ⟨os,hos,hcs,hds⟩:=id hs
  unfold Builtin.Slice.sliceApplied Builtin.Slice.sliceFields
  refine wpAny_bind (wpAny_bind (wpAny_field hos hds (x:=vl) rfl (wpAny_bind (wpAny_field hos hds (x:=vu) rfl (wpAny_bind (wpAny_field hos hds (x:=.none) rfl (wpAny_pure ?_)))))))
  refine wpAny_bind (slicePart_none ?_)
  show wpAny _ _ (if ((1:Int) == 0)=true then _ else _) _ _ s
  rw [if_neg (by decide)]
  refine wpAny_bind (slicePart_ pl (wpAny_bind (slicePart_ pu (wpAny_bind (wpAny_pure ?_)))))
  show wpAny _ _ (match Builtin.Slice.sliceAdjust lo hi 1 (n:Int) with | (lo,hi)=>pure (lo,(1:Int),Builtin.Slice.slicePlaces lo hi 1)) _ _ s
  rw [adjust_gen lo hi n]
  show wpAny _ _ (pure (((sIx n 0 lo:Nat):Int),(1:Int),Builtin.Slice.slicePlaces ((sIx n 0 lo:Nat):Int) ((sIx n n hi:Nat):Int) 1)) _ _ s
  rw [places_gen]
  exact wpAny_pure h
theorem pick_gen (xs:Array Value) (i k:Nat):((List.range k).filterMap fun (m:Nat)=>xs[((i:Int)+(m:Int) * 1).toNat]?).toArray=((xs.toList.drop i).take k).toArray:=by
  have e:(fun (m:Nat)=>xs[((i:Int)+(m:Int) * 1).toNat]?)=fun m=>xs[i+m]?:=by
    funext m
    have:((i:Int)+(m:Int) * 1).toNat=i+m:=by omega
    rw [this]
  rw [e]
  have:=pick_run xs i k
  rw [List.filterMap_map] at this
  have e2:((fun x=>xs[x]?) ∘ fun x=>i+x)=fun m=>xs[i+m]?:=rfl
  rw [e2] at this
  rw [this]
theorem getItem_tuple_cut {t sl:Addr} {items:Array Value} {vl vu:Value} {lo hi:Option Int} {Q:Value→Shared→Prop} (ht:IsTup s.heap t items) (hs:s.heap.IsSliceOf sl vl vu .none) (pl:IsPart vl lo) (pu:IsPart vu hi)
    (hw:¬ (sIx items.size 0 lo=0∧sIx items.size items.size hi=items.size))
    (h:Q (.ref s.heap.objs.size) { s with heap:=s.heap.push { cls:=.type "tuple",data:=.seq ((items.toList.drop (sIx items.size 0 lo)).take (sIx items.size items.size hi - sIx items.size 0 lo)).toArray } })
    (hsz:items.size≤sizeLine):wpAny (model prog w) A (getItem (.ref t) (.ref sl)) Q E s:=by
  have htake:sizeOk (.seq ((items.toList.drop (sIx items.size 0 lo)).take (sIx items.size items.size hi - sIx items.size 0 lo)).toArray):=by
    show ((items.toList.drop (sIx items.size 0 lo)).take (sIx items.size items.size hi - sIx items.size 0 lo)).toArray.size≤sizeLine
    rw [List.size_toArray,List.length_take,List.length_drop,Array.length_toList]
    omega
  have hj:sIx items.size items.size hi≤items.size:=sIx_le _ _ (Nat.le_refl _) hi
  obtain ⟨os,hos,hcs,hds⟩:=id hs
  have hTs:s.TypeIs (.ref sl) "slice":=⟨os,hos,hcs⟩
  unfold getItem
  try with_reducible refine wpAny_holding ?_
  first | refine wpAny_bind (wpAny_pure ?_) | skip
  refine wpAny_bind (wpAny_sequenceKey ht.typeIs (by decide) ?_)
  refine wpAny_bind (wpAny_callSpecial?_slot (name:=Str.ofString "__getitem__") ht.typeIs PyProof.Rows.slot_tuple_getitem
    (wpAny_call_entry PyProof.Rows.slot_tuple_getitem ht.typeIs entry_tuple_getitem ?_ (args_tuple_getitem _ _)))
  show wpAny _ _ (Builtin.Tuple.tupleItemsOf (.ref t) >>= _) _ _ s
  refine wpAny_bind (tupleItemsOf_ ht ?_)
  refine wpAny_bind (wpAny_typeOf hTs ?_)
  rw [if_pos (by decide)]
  refine wpAny_bind (sliceApplied_gen hs pl pu ?_)
  have hno:¬ ((((sIx items.size 0 lo:Nat):Int) == 0 && (1:Int) == 1 && (sIx items.size items.size hi - sIx items.size 0 lo) == items.size)=true):=by
    intro q
    rw [Bool.and_eq_true,Bool.and_eq_true] at q
    have q1:((sIx items.size 0 lo:Nat):Int)=0:=eq_of_beq q.1.1
    have q2:sIx items.size items.size hi - sIx items.size 0 lo=items.size:=eq_of_beq q.2
    exact hw ⟨by omega,by omega⟩
  show wpAny _ _ (if (((sIx items.size 0 lo:Nat):Int) == 0 && (1:Int) == 1 && (sIx items.size items.size hi - sIx items.size 0 lo) == items.size)=true then _ else _) _ _ s
  rw [if_neg hno,pick_gen]
  first
    | exact wpAny_bind (m:=Builtin.Tuple.tupleExact _) (wpAny_newObj_type (wpAny_pure ⟨_,rfl,wpAny_pure h⟩) htake)
    | exact wpAny_bind (m:=Builtin.Tuple.tupleExact _) (wpAny_newObj_type (wpAny_bind (wpAny_pure (wpAny_pure ⟨_,rfl,wpAny_pure h⟩))) htake)
    | exact wpAny_bind (wpAny_bind (m:=Builtin.Tuple.tupleExact _) (wpAny_newObj_type (wpAny_pure (wpAny_pure ⟨_,rfl,wpAny_pure h⟩)) htake))
    | exact wpAny_bind (wpAny_bind (m:=Builtin.Tuple.tupleExact _) (wpAny_newObj_type (wpAny_pure ⟨_,rfl,wpAny_pure h⟩) htake))
end
end HT
namespace L2
open PySem PySem.Spec PyProof.Rows
noncomputable abbrev TO:=St→Hp→(Option Int→Hp→Prop)→Prop
noncomputable def PO (X:Cx) (e:Option Expr) (t:TO):Prop :=
  ∀ (pins:List (Addr × Obj)) (s:Shared) (σ:St) (H:Hp) (Q:Option Int→Hp→Prop),Inv X pins σ H s→t σ H Q →
    wpAny (model X.prog X.w) X.A (evalPart e X.env) (fun u s'=>∃ o H',Inv X pins σ H' s'∧IsPart u o∧Q o H') X.xe s
noncomputable def tNoPart:TO:=fun _ H Q=>Q none H
noncomputable def tPart (t:TE):TO:=fun σ H Q=>t σ H fun x H1=>∃ i,x=.int i∧Q (some i) H1
section
variable {X:Cx} {e:Expr} {te:TE} {lo hi:Option Expr} {tl th:TO} {pos p2:Pos}
theorem po_none:PO X none tNoPart:=by
  intro pins s σ H Q I h
  rw [evalPart_none]
  exact wpAny_pure ⟨none,H,I,.none,h⟩
theorem po_some (h:PE X e te):PO X (some e) (tPart te):=by
  intro pins s σ H Q I hw
  rw [evalPart_some]
  refine thn (h pins s σ H _ I hw) fun u s1 ⟨x,H1,I1,r1,q1⟩=>?_
  obtain ⟨i,rfl,q⟩:=q1
  obtain ⟨t,rfl⟩:=r1
  exact ⟨some i,H1,I1,.int i t,q⟩
noncomputable def SlR (X:Cx) (r:V→Option Int→Option Int→Hp→VK→Prop):Prop :=
  ∀ (pins:List (Addr × Obj)) (s:Shared) (σ:St) (H:Hp) (x:V) (v vl vu:Value) (lo hi:Option Int) (sl:Addr) (Q:VK),Inv X pins σ H s→RelV x v→s.heap.IsSliceOf sl vl vu .none→IsPart vl lo→IsPart vu hi→r x lo hi H Q →
    ∃ T id,typeLookup (.type T) "__getitem__" = pure (some (.builtin id))∧s.TypeIs v T∧wpAny (model X.prog X.w) X.A (getItem v (.ref sl)) (EP X pins σ Q) X.xe s
noncomputable def tSl (r:V→Option Int→Option Int→Hp→VK→Prop) (te:TE) (tl th:TO):TE:=fun σ H Q=>te σ H fun x H1=>tl σ H1 fun l H2=>th σ H2 fun u H3=>r x l u H3 Q
theorem pe_slice {r:V→Option Int→Option Int→Hp→VK→Prop} (hr:SlR X r) (he:PE X e te) (hl:PO X lo tl) (hu:PO X hi th):PE X (.Subscript e (.Slice lo hi none p2) pos) (tSl r te tl th):=by
  intro pins s σ H Q I h
  refine Subscript_ (thn (he pins s σ H _ I h) fun v s1 ⟨x,H1,I1,r1,q1⟩=>?_)
  refine wpAny_Slice (thn (hl pins s1 σ H1 _ I1 q1) fun vl s2 ⟨l,H2,I2,pl,q2⟩=>thn (hu pins s2 σ H2 _ I2 q2) fun vu s3 ⟨u,H3,I3,pu,q3⟩=>?_)
  rw [evalPart_none]
  refine wpAny_pure ?_
  have I4:Inv X pins σ H3 { s3 with heap:=s3.heap.push { cls:=.type "slice",data:=.fields #[vl,vu,.none] } }:=I3.kept (t':=s3.toks) fun b ob q=>Heap.get?_push_of_some _ q
  obtain ⟨T,id,hT,ht,hg⟩:=hr pins { s3 with heap:=s3.heap.push { cls:=.type "slice",data:=.fields #[vl,vu,.none] } } σ H3 x v vl vu l u s3.heap.objs.size Q I4 r1 (Heap.IsSliceOf.new ..) pl pu q3
  show wpAny (model X.prog X.w) X.A (subscriptTail e (.Slice lo hi none p2) v (.ref s3.heap.objs.size)) (EP X pins σ Q) X.xe { s3 with heap:=s3.heap.push { cls:=.type "slice",data:=.fields #[vl,vu,.none] } }
  exact tail_any (ops:=[.ref s3.heap.objs.size,v]) ht hT hg (by with_unfolding_all rfl)
noncomputable def cutV (xs:List V) (lo hi:Option Int):List V:=(xs.drop (HT.sIx xs.length 0 lo)).take (HT.sIx xs.length xs.length hi - HT.sIx xs.length 0 lo)
theorem cutV_length (xs:List V) (lo hi:Option Int):(cutV xs lo hi).length≤xs.length:=by
  unfold cutV
  rw [List.length_take,List.length_drop]
  omega
noncomputable def rSlT (K:PySem.W.Frag):V→Option Int→Option Int→Hp→VK→Prop:=fun x lo hi H Q=>∃ a xs,x=.ref a∧SqT K H a xs ∧
  ¬ (HT.sIx xs.length 0 lo=0∧HT.sIx xs.length xs.length hi=xs.length)∧∀ p,H p=none→Q (.ref p) (upd H p (.tup (cutV xs lo hi)))
theorem sl_tup:SlR X (rSlT X.K):=by
  intro pins s σ H x v vl vu lo hi sl Q I rx hs pl pu h
  obtain ⟨a,xs,rfl,hx,hw,q⟩:=h
  cases rx
  obtain ⟨its,r,ht,hz⟩:=I.tuple hx
  have hlen:its.toArray.size=xs.length:=by rw [List.size_toArray]; exact r.length.symm
  refine ⟨"tuple",_,PyProof.Rows.slot_tuple_getitem.lookup,ht.typeIs,?_⟩
  refine HT.getItem_tuple_cut ht hs pl pu (by rw [hlen]; exact hw) ?_ (by rw [hlen]; exact hz)
  rw [hlen]
  refine ⟨.ref s.heap.objs.size,_,I.laid (t':=s.toks) (o:=.tup (cutV xs lo hi)) (fun b ob q=>Heap.get?_push_of_some _ q) (Nat.le_refl _) ?_,rfl,q _ (I.hok.fresh (Nat.le_refl _))⟩
  exact ⟨Nat.le_trans (cutV_length xs lo hi) hz,_,(r.drop (HT.sIx xs.length 0 lo)).take (HT.sIx xs.length xs.length hi - HT.sIx xs.length 0 lo),IsTup.new _ _⟩
noncomputable def rCatT (K:PySem.W.Frag):R2:=fun x y H Q=>∃ a b xs ys,x=.ref a∧y=.ref b∧SqT K H a xs∧SqT K H b ys∧xs≠[]∧xs.length+ys.length≤sizeLine ∧
  (ys=[]→Q (.ref a) H)∧(ys≠[]→∀ p,H p=none→Q (.ref p) (upd H p (.tup (xs++ys))))
theorem Vals.nil_iff {xs:List V} {us:List Value} (r:Vals xs us):us=[]↔xs=[]:=by
  cases r with
  | nil=>simp
  | cons _ _=>simp
theorem op_catT:OpR X (binaryOp .Add) (rCatT X.K):=by
  intro pins s σ H x y v u Q I rx ry h
  obtain ⟨a,b,xs,ys,rfl,rfl,ha,hb,hx,hz,q1,q2⟩:=h
  cases rx
  cases ry
  obtain ⟨its,r1,p1,_⟩:=I.tuple ha
  obtain ⟨its2,r2,p2,_⟩:=I.tuple hb
  refine HT.cat_tup p1 p2 (fun z=>hx (r1.nil_iff.mp z)) (fun z=>⟨.ref a,H,I,rfl,q1 (r2.nil_iff.mp z)⟩) (fun z=>?_) (by rw [← r1.length,← r2.length]; exact hz)
  refine ⟨.ref s.heap.objs.size,_,I.laid (t':=s.toks) (o:=.tup (xs++ys)) (fun b ob q=>Heap.get?_push_of_some _ q) (Nat.le_refl _) ?_,rfl,q2 (fun w=>z (r2.nil_iff.mpr w)) _ (I.hok.fresh (Nat.le_refl _))⟩
  exact ⟨by rw [List.length_append]; exact hz,_,r1.append r2,IsTup.new _ _⟩
end
end L2
namespace L2
open PySem PySem.Spec PyProof.Rows
noncomputable def ixN (n:Nat) (i:Int):Option Nat:=if 0≤i then (if i < n then some i.toNat else none) else if -(n:Int)≤i then some (i+n).toNat else none
noncomputable def atI {α:Type} (xs:List α) (i:Int):Option α:=(ixN xs.length i).bind fun j=>xs[j]?
theorem ixN_seq {n:Nat} {i:Int} {j:Nat} (h:ixN n i=some j):seqIndex? i n=some j∧j < n∧-(n:Int)≤i∧i < n:=by
  unfold ixN at h
  by_cases h0:0≤i
  · rw [if_pos h0] at h
    by_cases h1:i < n
    · rw [if_pos h1] at h
      have e:i.toNat=j:=Option.some.inj h
      exact ⟨by rw [seqIndex_of h0 h1,e],by omega,by omega,h1⟩
    · rw [if_neg h1] at h; cases h
  · rw [if_neg h0] at h
    by_cases h1:-(n:Int)≤i
    · rw [if_pos h1] at h
      have e:(i+n).toNat=j:=Option.some.inj h
      exact ⟨by rw [seqIndex_neg (by omega) h1,e],by omega,h1,by omega⟩
    · rw [if_neg h1] at h; cases h
theorem atI_get {α:Type} {xs:List α} {i:Int} {v:α} (h:atI xs i=some v):∃ j,seqIndex? i xs.length=some j∧xs[j]?=some v∧j < xs.length∧-(xs.length:Int)≤i∧i < xs.length:=by
  unfold atI at h
  cases e:ixN xs.length i with
  | none=>rw [e] at h; cases h
  | some j =>
    rw [e] at h
    obtain ⟨h1,h2,h3,h4⟩:=ixN_seq e
    exact ⟨j,h1,h,h2,h3,h4⟩
theorem atI_nat {α:Type} {xs:List α} {j:Nat} {v:α} (h:xs[j]?=some v):atI xs (j:Int)=some v:=by
  have hj:j < xs.length:=(List.getElem?_eq_some_iff.mp h).1
  have e:ixN xs.length (j:Int)=some j:=by
    unfold ixN
    rw [if_pos (by omega),if_pos (by omega)]; simp
  unfold atI; rw [e]; exact h
noncomputable def PlainIx (b:Expr):Prop:=∀ o i,subscripted b false o i=operate [o,i] (getItem o i)
noncomputable def IxR (X:Cx) (r:R2):Prop :=
  ∀ (value slice:Expr) (pins:List (Addr × Obj)) (s:Shared) (σ:St) (H:Hp) (x y:V) (v u:Value) (Q:VK),Inv X pins σ H s→RelV x v→RelV y u→r x y H Q →
    subscripted slice false v u=operate [v,u] (getItem v u)→wpAny (model X.prog X.w) X.A (subscriptTail value slice v u) (EP X pins σ Q) X.xe s
noncomputable def MtR (X:Cx) (id:String) (r:V→List V→Hp→VK→Prop):Prop :=
  ∀ (pins:List (Addr × Obj)) (s:Shared) (σ:St) (H:Hp) (x:V) (xs:List V) (v:Value) (us:List Value) (Q:VK),Inv X pins σ H s→RelV x v→Vals xs us→r x xs H Q →
    wpAny (model X.prog X.w) X.A (call (.builtin id) (v :: us)) (EP X pins σ Q) X.xe s
section
variable {X:Cx} {a b:Expr} {ta tb:TE} {pos:Pos}
theorem pe_ix {r:R2} (hr:IxR X r) (ha:PE X a ta) (hb:PE X b tb) (hs:PlainIx b):PE X (.Subscript a b pos) (tOp r ta tb):=by
  intro pins s σ H Q I h
  exact Subscript_ (binT ha hb I h fun v u s2 x y H2 I2 rx ry q=>hr a b pins s2 σ H2 x y v u Q I2 rx ry q (hs _ _))
noncomputable def rIxL (K:PySem.W.Frag):R2:=fun x y H Q=>∃ p xs i v,x=.ref p∧y=.int i∧SqL K H p xs∧atI xs i=some v∧Q v H
noncomputable def rIxT (K:PySem.W.Frag):R2:=fun x y H Q=>∃ p xs i v,x=.ref p∧y=.int i∧SqT K H p xs∧atI xs i=some v∧Q v H
noncomputable def rIxS:R2:=fun x y H Q=>∃ z i c,x=.str z∧y=.int i∧z.length≤sizeLine∧atI z.cps.toList i=some c∧Q (.str ⟨#[c]⟩) H
theorem ix_list:IxR X (rIxL X.K):=by
  intro value slice pins s σ H x y v u Q I rx ry h hs
  obtain ⟨p,xs,i,z,rfl,rfl,hq,he,q⟩:=h
  cases rx
  obtain ⟨t,rfl⟩:=ry
  obtain ⟨its,r,pl,hz⟩:=I.list hq
  obtain ⟨j,h1,h2,h3,h4,h5⟩:=atI_get he
  obtain ⟨w,ew,rw'⟩:=r.get h2
  have hl:=r.length
  have hn:=line63
  have fin:EP X pins σ Q w s:=⟨z,H,I,rw',q⟩
  by_cases h0:0≤i
  · have hj:i.toNat=j:=by
      rw [seqIndex_of h0 h5] at h1
      exact Option.some.inj h1
    exact item_listR pl.isList h0 (by omega) (by rw [hj]; simpa using ew) fin hs
  · have hj:(i+(its.toArray.size:Int)).toNat=j:=by
      rw [seqIndex_neg (by omega) h4] at h1
      rw [List.size_toArray,← hl]
      exact Option.some.inj h1
    exact subscriptTail_builtinR (x:=w) pl.isList.typeIs slot_list_getitem.lookup
      (wpAny_getItem_list_neg (Q:=fun r s'=>r=w∧EP X pins σ Q r s') pl.isList (by omega) (by rw [List.size_toArray] <;> omega) (by omega) (by rw [hj]; simpa using ew) ⟨rfl,fin⟩) hs
theorem ix_tup:IxR X (rIxT X.K):=by
  intro value slice pins s σ H x y v u Q I rx ry h hs
  obtain ⟨p,xs,i,z,rfl,rfl,hq,he,q⟩:=h
  cases rx
  obtain ⟨t,rfl⟩:=ry
  obtain ⟨its,r,pl,hz⟩:=I.tuple hq
  obtain ⟨j,h1,h2,h3,h4,h5⟩:=atI_get he
  obtain ⟨w,ew,rw'⟩:=r.get h2
  have hl:=r.length
  have hn:=line63
  have fin:EP X pins σ Q w s:=⟨z,H,I,rw',q⟩
  exact subscriptTail_builtinR (x:=w) pl.typeIs slot_tuple_getitem.lookup
    (getItem_tuple (j:=j) (Q:=fun r s'=>r=w∧EP X pins σ Q r s') pl (by omega) (by omega) (by rw [List.size_toArray,← hl]; exact h1) (by simpa using ew) ⟨rfl,fin⟩) hs
theorem ix_str:IxR X rIxS:=by
  intro value slice pins s σ H x y v u Q I rx ry h hs
  obtain ⟨z,i,c,rfl,rfl,hz,he,q⟩:=h
  obtain ⟨t,rfl⟩:=rx
  obtain ⟨t',rfl⟩:=ry
  obtain ⟨j,h1,h2,h3,h4,h5⟩:=atI_get he
  have hl:z.cps.toList.length=z.length:=by simp [Str.length]
  rw [hl] at h1 h4 h5
  have hn:=line63
  exact tail_any (typeIs_str s z t) slot_str_getitem.lookup (getItem_str (c:=c) (by
    have e1:decide (i < -(2 ^ 63:Int))=false:=decide_eq_false (by omega)
    have e2:decide (i ≥ 2 ^ 63)=false:=decide_eq_false (by omega)
    rw [e1,e2,Bool.or_false]) (by rw [h1]; simpa using h2) ⟨.str ⟨#[c]⟩,H,I.tok _,⟨_,rfl⟩,q⟩) hs
theorem mapSeq_set (its:List Value) (n j:Nat) (u:Value):Obj.mapSeq (·.setIfInBounds j u) { cls:=.type "list",data:=.seq its.toArray n }={ cls:=.type "list",data:=.seq (its.set j u).toArray n }:=by
  simp [Obj.mapSeq]
theorem Inv.lst {pins:List (Addr × Obj)} {σ:St} {H:Hp} {s:Shared} {p:Addr} {xs:List V} (I:Inv X pins σ H s) (h:H p=some (.lst xs)) :
    ∃ (its:List Value) (n:Nat),Vals xs its∧s.heap.get? p=some { cls:=.type "list",data:=.seq its.toArray n }∧xs.length≤sizeLine:=by
  obtain ⟨z,its,n,r,e⟩:=I.hok p _ h
  exact ⟨its,n,r,e,z⟩
theorem Inv.lstUpd {pins:List (Addr × Obj)} {σ:St} {H:Hp} {s:Shared} {p:Addr} {xs ys:List V} {its its':List Value} {n n':Nat} {f:Obj→Obj} (I:Inv X pins σ H s) (h:H p=some (.lst xs))
    (ho:s.heap.get? p=some { cls:=.type "list",data:=.seq its.toArray n }) (hf:f { cls:=.type "list",data:=.seq its.toArray n }={ cls:=.type "list",data:=.seq its'.toArray n' }) (r:Vals ys its') (hz:ys.length≤sizeLine) (t:Nat) :
    Inv X pins σ (upd H p (.lst ys)) { s with heap:=s.heap.update p f,toks:=t }:=by
  have e:(s.heap.update p f).get? p=some { cls:=.type "list",data:=.seq its'.toArray n' }:=by
    rw [Heap.get?_update_self f ho (by rw [hf] <;> rfl),hf]
  refine I.write (x:=p) (e:=p) (by rw [h]; trivial) (.inl rfl) (fun b u hb q=>(Heap.get?_update_other _ _ (Ne.symm hb)).trans q) ⟨_,e⟩ ?_
  exact ⟨hz,its',n',r,e⟩
noncomputable def rSetL:V→V→V→Hp→(Hp→Prop)→Prop:=fun o i v H Q=>∃ p xs k j,o=.ref p∧i=.int k∧H p=some (.lst xs)∧ixN xs.length k=some j∧Q (upd H p (.lst (xs.set j v)))
theorem set_list:PSet X rSetL:=by
  intro pins s σ H o i v ov iv u Q I ro ri rv h
  obtain ⟨p,xs,k,j,rfl,rfl,hp,hj,q⟩:=h
  cases ro
  obtain ⟨t,rfl⟩:=ri
  obtain ⟨its,n,r,ho,hz⟩:=I.lst hp
  obtain ⟨h1,h2,h3,h4⟩:=ixN_seq hj
  have hl:=r.length
  have hn:=line63
  have I':Inv X pins σ (upd H p (.lst (xs.set j v))) { s with heap:=s.heap.update p (Obj.mapSeq (·.setIfInBounds j u)) } :=
    I.lstUpd hp ho (mapSeq_set its n j u) (r.set rv j) (by rw [List.length_set]; exact hz) s.toks
  by_cases h0:0≤k
  · have hk:k.toNat=j:=by
      rw [seqIndex_of h0 h4] at h1
      exact Option.some.inj h1
    exact PySem.W.ki_setAt ho h0 (by omega) (by rw [List.size_toArray,← hl]; exact h4) (by rw [hk]; exact ⟨_,I',q⟩)
  · have hk:(k+(its.toArray.size:Int)).toNat=j:=by
      rw [seqIndex_neg (by omega) h3] at h1
      rw [List.size_toArray,← hl]
      exact Option.some.inj h1
    exact PySem.W.ki_setBack ho (by omega) (by rw [List.size_toArray,← hl]; exact h3) (by omega) (by rw [hk]; exact ⟨_,I',q⟩)
theorem slice_bounds (lo hi:Option Int) (n:Nat):(sliceBounds lo hi none n).1=((HT.sIx n 0 lo:Nat):Int)∧(sliceBounds lo hi none n).2.1=((HT.sIx n n hi:Nat):Int)∧(sliceBounds lo hi none n).2.2=1:=by
  refine ⟨?_,?_,rfl⟩
  · cases lo with
    | none=>simp [sliceBounds,HT.sIx]
    | some i =>
      simp only [sliceBounds,HT.sIx,Option.getD_none,show (1:Int) > 0 by decide,if_true]
      by_cases h:i < 0
      · simp only [h,if_true] <;> omega
      · simp only [h,if_false] <;> omega
  · cases hi with
    | none=>simp [sliceBounds,HT.sIx]
    | some i =>
      simp only [sliceBounds,HT.sIx,Option.getD_none,show (1:Int) > 0 by decide,if_true]
      by_cases h:i < 0
      · simp only [h,if_true] <;> omega
      · simp only [h,if_false] <;> omega
theorem slicePick_cut (its:List Value) (lo hi:Option Int):slicePick its.toArray lo hi none=((its.drop (HT.sIx its.length 0 lo)).take (HT.sIx its.length its.length hi - HT.sIx its.length 0 lo)).toArray:=by
  obtain ⟨h1,h2,h3⟩:=slice_bounds lo hi its.toArray.size
  unfold slicePick
  rw [h1,h2,h3]
  simp only [sliceRange_one,pick_run,List.size_toArray] <;> rfl
noncomputable def rSlL (K:PySem.W.Frag):V→Option Int→Option Int→Hp→VK→Prop:=fun x lo hi H Q=>∃ a xs,x=.ref a∧SqL K H a xs∧∀ p,H p=none→Q (.ref p) (upd H p (.lst (cutV xs lo hi)))
theorem sl_list:SlR X (rSlL X.K):=by
  intro pins s σ H x v vl vu lo hi sl Q I rx hs pl pu h
  obtain ⟨a,xs,rfl,hx,q⟩:=h
  cases rx
  obtain ⟨its,r,ht,hz⟩:=I.list hx
  have hlen:=r.length
  refine ⟨"list",_,slot_list_getitem.lookup,ht.isList.typeIs,?_⟩
  refine wpAny_getItem_list_slice ht.isList hs pl pu .none (by simp) ?_ (by rw [List.size_toArray] <;> omega)
  rw [slicePick_cut,← hlen]
  refine ⟨.ref s.heap.objs.size,_,I.laid (t':=s.toks) (o:=.lst (cutV xs lo hi)) (fun b ob q=>Heap.get?_push_of_some _ q) (Nat.le_refl _) ?_,rfl,q _ (I.hok.fresh (Nat.le_refl _))⟩
  exact ⟨Nat.le_trans (cutV_length xs lo hi) hz,_,0,(r.drop (HT.sIx xs.length 0 lo)).take (HT.sIx xs.length xs.length hi - HT.sIx xs.length 0 lo),Heap.get?_push_size _ rfl⟩
theorem call_len_seq:CallR X (.builtin "len") (fun xs H Q=>∃ p ys,xs=[.ref p]∧(SqL X.K H p ys∨SqT X.K H p ys)∧Q (.int ys.length) H):=by
  intro pins s σ H xs us Q I r h
  obtain ⟨p,ys,rfl,hq,q⟩:=h
  obtain ⟨u,rfl,rx⟩:=vals1 r
  cases rx
  have hn:=line63
  rcases hq with hq | hq
  · obtain ⟨its,r',pl,hz⟩:=I.list hq
    have hlen:=r'.length
    exact Calls.call_len_list pl.isList (by simp only [List.size_toArray] <;> omega) ⟨.int ys.length,H,I.tok _,⟨s.toks+1,by rw [List.size_toArray,hlen]⟩,q⟩
  · obtain ⟨its,r',pl,hz⟩:=I.tuple hq
    have hlen:=r'.length
    exact len_tuple pl (by simp only [List.size_toArray] <;> omega) ⟨.int ys.length,H,I.tok _,⟨s.toks+1,by rw [List.size_toArray,hlen]⟩,q⟩
theorem call_len_str:CallR X (.builtin "len") (fun xs H Q=>∃ z,xs=[.str z]∧z.length≤sizeLine∧Q (.int z.length) H):=by
  intro pins s σ H xs us Q I r h
  obtain ⟨z,rfl,hz,q⟩:=h
  obtain ⟨u,rfl,t,rfl⟩:=vals1 r
  have hn:=line63
  exact len_str (by omega) ⟨.int z.length,H,I.tok _,⟨_,rfl⟩,q⟩
theorem call_list_of:CallR X (.type "list") (fun xs H Q=>∃ p ys,xs=[.ref p]∧(SqL X.K H p ys∨SqT X.K H p ys)∧∀ l,H l=none→Q (.ref l) (upd H l (.lst ys))):=by
  intro pins s σ H xs us Q I r h
  obtain ⟨p,ys,rfl,hq,q⟩:=h
  obtain ⟨u,rfl,rx⟩:=vals1 r
  cases rx
  have fin:∀ (its:List Value),Vals ys its→ys.length≤sizeLine→∀ (h':Heap) (c':Nat),(∀ b o',s.heap.get? b=some o'→h'.get? b=some o') →
      h'.get? s.heap.objs.size=some { cls:=.type "list",dict:=none,data:=.seq its.toArray c',slots:=#[] }→EP X pins σ Q (.ref s.heap.objs.size) { s with heap:=h' }:=fun its r' hz h' c' kp e =>
    ⟨.ref s.heap.objs.size,_,I.laid (t':=s.toks) kp (Nat.le_refl _) (show ObjOk X.prog X.w _ h' _ (.lst ys) from ⟨hz,its,c',r',e⟩),rfl,q _ (I.hok.fresh (Nat.le_refl _))⟩
  rcases hq with hq | hq
  · obtain ⟨its,r',pl,hz⟩:=I.list hq
    have hlen:=r'.length
    obtain ⟨o,ho,hc,n,hd⟩:=pl.isList
    exact call_list_seq p (.inl rfl) ho hc hd (fun h' c' kp e=>fin its r' hz h' c' kp e) (by simp only [List.size_toArray] <;> omega)
  · obtain ⟨its,r',pl,hz⟩:=I.tuple hq
    have hlen:=r'.length
    obtain ⟨o,ho,hc,n,hd⟩:=pl
    exact call_list_seq p (.inr rfl) ho hc hd (fun h' c' kp e=>fin its r' hz h' c' kp e) (by simp only [List.size_toArray] <;> omega)
theorem call_tuple_of:CallR X (.type "tuple") (fun xs H Q=>∃ p ys,xs=[.ref p]∧((SqL X.K H p ys∧∀ l,H l=none→Q (.ref l) (upd H l (.tup ys)))∨(SqT X.K H p ys∧Q (.ref p) H))):=by
  intro pins s σ H xs us Q I r h
  obtain ⟨p,ys,rfl,h⟩:=h
  obtain ⟨u,rfl,rx⟩:=vals1 r
  cases rx
  rcases h with ⟨hq,q⟩ | ⟨hq,q⟩
  · obtain ⟨its,r',pl,hz⟩:=I.list hq
    have hlen:=r'.length
    refine call_tuple_list pl.isList (fun h' kp=>?_) (by simp only [List.size_toArray] <;> omega)
    have I1:Inv X pins σ H { s with heap:=h' }:=I.kept (t':=s.toks) kp
    have I2:Inv X pins σ (upd H h'.objs.size (.tup ys)) { s with heap:=h'.push { cls:=.type "tuple",data:=.seq its.toArray } } :=
      I1.laid (t':=s.toks) (fun b o e=>Heap.get?_push_of_some _ e) (Nat.le_refl _) (show ObjOk X.prog X.w _ _ _ (.tup ys) from ⟨hz,its,r',IsTup.new _ _⟩)
    exact ⟨.ref h'.objs.size,_,I2,rfl,q _ (I1.hok.fresh (Nat.le_refl _))⟩
  · obtain ⟨its,r',pl,hz⟩:=I.tuple hq
    exact call_tuple_same pl ⟨.ref p,H,I,rfl,q⟩
noncomputable def tyV (K:PySem.W.Frag) (T:String) (x:V) (H:Hp):Prop:=match x with
  | .str _=>T = "str"
  | .int _=>T = "int"
  | .ref p=>(T = "list"∧∃ xs,SqL K H p xs)∨(T = "tuple"∧∃ o,K.lookup p=some o∧o.cls=.type "tuple"∧o.dict=none) ∨
      (T = "dict"∧((∃ kvs,H p=some (.dK kvs))∨∃ kvs,H p=some (.dT kvs)))∨(T = "set"∧∃ S n,H p=some (.set S n))
  | _=>False
theorem tyV_is {pins:List (Addr × Obj)} {σ:St} {H:Hp} {s:Shared} {T:String} {x:V} {v:Value} (I:Inv X pins σ H s) (r:RelV x v) (ty:tyV X.K T x H) :
    s.TypeIs v T∧∀ a,v=.ref a→∃ ob,s.heap.get? a=some ob∧ob.dict=none:=by
  cases x with
  | str z =>
    obtain ⟨t,rfl⟩:=r
    cases (show T = "str" from ty)
    exact ⟨typeIs_str s z t,fun _ e=>nomatch e⟩
  | int i =>
    obtain ⟨t,rfl⟩:=r
    cases (show T = "int" from ty)
    exact ⟨typeIs_int s i t,fun _ e=>nomatch e⟩
  | ref p =>
    cases r
    rcases ty with ⟨rfl,xs,hq⟩ | ⟨rfl,o,hk,hc,hd⟩ | ⟨rfl,hk⟩ | ⟨rfl,S,n,hk⟩
    · obtain ⟨its,_,pl,_⟩:=I.list hq
      refine ⟨pl.isList.typeIs,fun a e=>?_⟩
      cases e
      obtain ⟨o,n,e,c,hd,_⟩:=pl
      exact ⟨o,e,hd⟩
    · refine ⟨⟨o,I.kIn p o hk,hc⟩,fun a e=>?_⟩
      cases e
      exact ⟨o,I.kIn _ o hk,hd⟩
    · have z:∃ o,s.heap.get? p=some o∧o.ExactDict:=by
        rcases hk with ⟨kvs,hk⟩ | ⟨kvs,hk⟩
        · obtain ⟨_,_,_,_,o,_,_,e,ex,_⟩:=I.hok p _ hk
          exact ⟨o,e,ex⟩
        · obtain ⟨_,_,_,_,o,_,_,e,ex,_⟩:=I.hok p _ hk
          exact ⟨o,e,ex⟩
      obtain ⟨o,e,ex⟩:=z
      refine ⟨⟨o,e,ex.1⟩,fun a e2=>?_⟩
      cases e2
      exact ⟨o,e,ex.2.1⟩
    · obtain ⟨o,_,_,_,e,ex,_⟩:=I.hok p _ hk
      refine ⟨⟨o,e,ex.1⟩,fun a e2=>?_⟩
      cases e2
      exact ⟨o,e,ex.2.1⟩
  | _=>exact False.elim ty
noncomputable def tBM0 (K:PySem.W.Frag) (T:String) (r:V→List V→Hp→VK→Prop) (to:TE):TE:=fun σ H Q=>to σ H fun x H1=>tyV K T x H1∧r x [] H1 Q
noncomputable def tBM (K:PySem.W.Frag) (T:String) (r:V→List V→Hp→VK→Prop) (to:TE) (t:TA):TE:=fun σ H Q=>to σ H fun x H1=>tyV K T x H1∧t σ H1 fun xs H2=>r x xs H2 Q
variable {o e:Expr} {es:List Expr} {to:TE} {t:TA} {name:Str} {apos cpos:Pos} {T id:String} {r:V→List V→Hp→VK→Prop}
theorem pe_bm0 (pa:PlainAttrs T) (slot:Slot T name id) (hty:typeOf (.builtin id)=pure (.type "method_descriptor")) (hm:MtR X id r) (ho:PE X o to)
    (hbase:attributeBase o name X.env (eval o X.env)=eval o X.env:=by rfl) (hline:(apos.endLine == cpos.line)=true:=by rfl):PE X (.Call (.Attribute o name apos) [] [] cpos) (tBM0 X.K T r to):=by
  intro pins s σ H Q I h
  refine wpAny_Call_method0_late hbase hline (thn (ho pins s σ H _ I h) fun v s1 ⟨x,H1,I1,r1,ty,q1⟩=>?_)
  obtain ⟨h1,h2⟩:=tyV_is I1 r1 ty
  exact ⟨T,id,pa,slot,hty,h1,h2,Calls.callWith_builtin rfl (PySem.evalArgs_none (hm pins s1 σ H1 x [] v [] Q I1 r1 .nil q1))⟩
theorem pe_bm (pa:PlainAttrs T) (slot:Slot T name id) (hty:typeOf (.builtin id)=pure (.type "method_descriptor")) (hm:MtR X id r) (ho:PE X o to) (ha:PA X (e :: es) t)
    (hbase:attributeBase o name X.env (eval o X.env)=eval o X.env:=by rfl)
    (hfew:((backTo cpos (starEach (e :: es) X.env)).all (fun x=>!x.1) && (backToKw cpos (keywordEach [] X.env)).all (fun x=>x.1.isSome)
      && decide ((e :: es).length+([]:List Keyword).length+(if ([]:List Keyword).isEmpty then 0 else 1) < 30))=true:=by rfl)
    (hline:(apos.endLine == cpos.line)=true:=by rfl) (hs:starEach (e :: es) X.env=(false,eval e X.env) :: starEach es X.env:=by rfl) (hplain:(backTo cpos (starEach es X.env)).any (·.1)=false:=by rfl) :
    PE X (.Call (.Attribute o name apos) (e :: es) [] cpos) (tBM X.K T r to t):=by
  intro pins s σ H Q I h
  refine wpAny_Call_method_late hbase hfew hline rfl (thn (ho pins s σ H _ I h) fun v s1 ⟨x,H1,I1,r1,ty,q1⟩=>?_)
  obtain ⟨h1,h2⟩:=tyV_is I1 r1 ty
  refine ⟨T,id,pa,slot,hty,h1,h2,?_⟩
  have hA:=ha cpos pins s1 σ H1 _ I1 q1
  rw [hs] at hA ⊢
  refine Calls.callWith_builtin (by show (false || (backTo cpos (starEach es X.env)).any (·.1))=false; rw [hplain] <;> rfl) (Calls.evalArgs_plain ?_)
  exact thn hA fun us s2 ⟨vs,H2,I2,r2,q2⟩=>hm pins s2 σ H2 x vs v us Q I2 r1 r2 q2
end
end L2
namespace L2
open PySem PySem.Spec PyProof.Rows
noncomputable def MtM (X:Cx) (id:String) (r:V→List V→Hp→VK→Prop):Prop :=
  ∀ (pins:List (Addr × Obj)) (s:Shared) (σ:St) (H:Hp) (x:V) (xs:List V) (v:Value) (us:List Value) (Q:VK),Inv X pins σ H s→RelV x v→Vals xs us→r x xs H Q →
    wpAny (model X.prog X.w) X.A (call (.builtin id) (v :: us)) (EP X pins σ Q) X.xe s
theorem Vals.one {x:V} {us:List Value} (h:Vals [x] us):∃ u,us=[u]∧RelV x u:=by
  cases h with
  | cons r t=>
    cases t
    exact ⟨_,rfl,r⟩
theorem Vals.zero:∀ {us:List Value},Vals [] us→us=[]
  | _,.nil=>rfl
theorem Vals.dropLast {xs:List V} {us:List Value} (h:Vals xs us):Vals xs.dropLast us.dropLast:=by
  induction h with
  | nil=>exact .nil
  | cons r t ih =>
    cases t with
    | nil=>exact .nil
    | cons q t'=>exact .cons r ih
theorem erase_last {α:Type} (l:List α):l.eraseIdx (l.length - 1)=l.dropLast:=by
  induction l with
  | nil=>rfl
  | cons a r ih =>
    cases r with
    | nil=>rfl
    | cons b r =>
      have e:(a :: b :: r).length - 1=((b :: r).length - 1)+1:=by
        have h1:(a :: b :: r).length=r.length+2:=rfl
        have h2:(b :: r).length=r.length+1:=rfl
        omega
      rw [e,List.eraseIdx_cons_succ,ih]
      all_goals rfl
section
variable {X:Cx} {pins:List (Addr × Obj)} {σ:St} {H:Hp} {s:Shared} {l b:Addr} {xs ys zs:List V}
theorem Inv.lset {its its':List Value} {n:Nat} {f:Array Value→Array Value} {t':Nat} (I:Inv X pins σ H s) (hH:H l=some (.lst xs))
    (e:s.heap.get? l=some { cls:=.type "list",data:=.seq its.toArray n }) (hf:f its.toArray=its'.toArray) (hv:Vals ys its') (hz:ys.length≤sizeLine) :
    Inv X pins σ (upd H l (.lst ys)) { s with heap:=s.heap.update l (Obj.mapSeq f),toks:=t' }:=by
  have q:=PySem.IsL.update e f
  rw [hf] at q
  refine I.write (x:=l) (e:=l) (by rw [hH]; exact trivial) (.inl rfl) (fun b' u hb hu=>(Heap.get?_update_other s.heap (Obj.mapSeq f) (Ne.symm hb)).trans hu) ⟨_,q⟩ ?_
  exact ⟨hz,its',_,hv,q⟩
theorem Inv.lnew {its:List Value} {t':Nat} (I:Inv X pins σ H s) (hv:Vals ys its) (hz:ys.length≤sizeLine) :
    Inv X pins σ (upd H s.heap.objs.size (.lst ys)) { s with heap:=s.heap.push { cls:=.type "list",data:=.seq its.toArray },toks:=t' } :=
  I.laid (fun _ _ q=>Heap.get?_push_of_some _ q) (Nat.le_refl _) ⟨hz,its,0,hv,Heap.get?_push_size _ rfl⟩
theorem Inv.fresh (I:Inv X pins σ H s):H s.heap.objs.size=none:=I.hok.fresh (Nat.le_refl _)
theorem Inv.lstM (I:Inv X pins σ H s) (hH:H l=some (.lst xs)):xs.length≤sizeLine∧∃ (its:List Value) (n:Nat),Vals xs its∧xs.length=its.length∧s.heap.get? l=some { cls:=.type "list",data:=.seq its.toArray n }:=by
  obtain ⟨z,its,n,r,e⟩:=I.hok l _ hH
  exact ⟨z,its,n,r,r.length,e⟩
theorem notLongL {n:Nat} (h:n≤sizeLine):Builtin.List.listTooLong n=false:=by
  unfold Builtin.List.listTooLong
  exact decide_eq_false (by omega)
end
section
variable {X:Cx}
noncomputable def rAppend:V→List V→Hp→VK→Prop:=fun x vs H Q=>∃ l xs y,x=.ref l∧vs=[y]∧H l=some (.lst xs)∧xs.length < sizeLine∧Q .non (upd H l (.lst (xs++[y])))
theorem mt_append:MtM X "list.append" rAppend:=by
  intro pins s σ H x vs v us Q I rx rv h
  obtain ⟨l,xs,y,rfl,rfl,hH,hz,q⟩:=h
  cases rx
  obtain ⟨u,rfl,ru⟩:=rv.one
  obtain ⟨z,its,n,r,hl,e⟩:=I.lstM hH
  refine call_meets F.slot_list_append ⟨_,e,rfl⟩ F.entry_list_append (F.args_list_append_2 _ _) (PySem.list_append l its.toArray n u (by rw [List.size_toArray]; omega)) ⟨e,?_⟩
  refine ⟨.non,_,I.lset (its':=its++[u]) hH e (by simp) (r.append (.cons ru .nil)) ?_,rfl,q⟩
  rw [List.length_append,List.length_singleton]
  omega
noncomputable def rExtend:V→List V→Hp→VK→Prop:=fun x vs H Q=>∃ l b xs zs,x=.ref l∧vs=[.ref b]∧H l=some (.lst xs)∧H b=some (.lst zs)∧xs.length+zs.length≤sizeLine∧Q .non (upd H l (.lst (xs++zs)))
theorem mt_extend:MtM X "list.extend" rExtend:=by
  intro pins s σ H x vs v us Q I rx rv h
  obtain ⟨l,b,xs,zs,rfl,rfl,hH,hB,hz,q⟩:=h
  cases rx
  obtain ⟨u,rfl,ru⟩:=rv.one
  cases ru
  obtain ⟨z,its,n,r,hl,e⟩:=I.lstM hH
  obtain ⟨z2,its2,n2,r2,hl2,e2⟩:=I.lstM hB
  have hsz:its.toArray.size+its2.toArray.size≤sizeLine:=by rw [List.size_toArray,List.size_toArray]; omega
  have hlong:¬ (!its.toArray.isEmpty && Builtin.List.listTooLong (its.toArray.size+its2.toArray.size))=true:=by
    rw [notLongL hsz,Bool.and_false]
    exact Bool.false_ne_true
  refine call_meets F.slot_list_extend ⟨_,e,rfl⟩ F.entry_list_extend (F.args_list_extend_2 _ _)
    (AutoSeq1.list_extend_list_list_0 l its.toArray n b its2.toArray n2 hlong (by rw [List.size_toArray]; omega) (by omega)) ⟨e,e2,?_⟩
  refine ⟨.non,_,I.lset (its':=its++its2) hH e (by simp) (r.append r2) ?_,rfl,q⟩
  rw [List.length_append]
  omega
noncomputable def rPop:V→List V→Hp→VK→Prop:=fun x vs H Q=>∃ l xs y,x=.ref l∧vs=[]∧H l=some (.lst xs)∧xs[xs.length - 1]?=some y∧Q y (upd H l (.lst xs.dropLast))
theorem mt_pop:MtM X "list.pop" rPop:=by
  intro pins s σ H x vs v us Q I rx rv h
  obtain ⟨l,xs,y,rfl,rfl,hH,hy,q⟩:=h
  cases rx
  have hus:=rv.zero
  subst hus
  obtain ⟨z,its,n,r,hl,e⟩:=I.lstM hH
  obtain ⟨u,hu,ru⟩:=r.get hy
  have hy':its.toArray[its.toArray.size - 1]?=some u:=by
    show its.toArray[its.length - 1]?=some u
    rw [← Array.getElem?_toList,← hl]
    exact hu
  refine call_meets F.slot_list_pop ⟨_,e,rfl⟩ F.entry_list_pop (F.args_list_pop_1 _) (MeetsSeq.list_pop_last l its.toArray n u hy' (by rw [List.size_toArray]; omega)) ⟨e,?_⟩
  refine ⟨y,_,I.lset (its':=its.dropLast) hH e ?_ r.dropLast ?_,ru,q⟩
  · show its.toArray.eraseIdxIfInBounds (its.toArray.size - 1)=its.dropLast.toArray
    rw [List.size_toArray,List.eraseIdxIfInBounds_toArray,erase_last]
  · rw [List.length_dropLast]
    omega
noncomputable def rCat:R2:=fun x y H Q=>∃ l b xs zs,x=.ref l∧y=.ref b∧H l=some (.lst xs)∧H b=some (.lst zs)∧xs.length+zs.length≤sizeLine∧∀ p,H p=none→Q (.ref p) (upd H p (.lst (xs++zs)))
theorem op_cat:OpR X (binaryOp .Add) rCat:=by
  intro pins s σ H x y v u Q I rx ry h
  obtain ⟨l,b,xs,zs,rfl,rfl,hH,hB,hz,q⟩:=h
  cases rx
  cases ry
  obtain ⟨z,its,n,r,hl,e⟩:=I.lstM hH
  obtain ⟨z2,its2,n2,r2,hl2,e2⟩:=I.lstM hB
  refine PySem.P.add_list e e2 ?_ (by rw [List.size_toArray,List.size_toArray]; omega)
  have ea:its.toArray++its2.toArray=(its++its2).toArray:=by simp
  rw [ea]
  exact ⟨.ref _,_,I.lnew (t':=s.toks) (r.append r2) (by rw [List.length_append]; omega),rfl,q _ I.fresh⟩
end
section
variable {prog:Program} {w:World} {A:Around} {E:Value→Shared→Prop} {s:Shared}
end
section
variable {X:Cx}
end
end L2
namespace Att
open PySem PySem.W PySem.Calls PyProof.Rows
theorem ints_of_wellAll {P:Params} {h:Heap}:∀ (ns:List Int) (vs:List Value),WellAll P h vs (ns.map WData.int)→IntsAre vs ns:=by
  intro ns
  induction ns with
  | nil =>
    intro vs w
    rw [List.map_nil] at w
    cases w
    exact .nil
  | cons n ns ih =>
    intro vs w
    rw [List.map_cons] at w
    cases w with
    | cons a b =>
      cases a
      exact .cons _ _ (ih _ b)
theorem script_of {l:OpenLaw} {n:Nat} (hn:l.most=some n) {P:Params} {h:Heap} {args:List WData} {vals:List Value}
    (hpre:l.row.toRowW.claim.pre args=true) (hwl:WellAll P h vals args) :
    ∃ a vs ns,vals=[Value.ref a]∧args=[WData.list (ns.map WData.int)]∧h.get? a=some { cls:=.type "list",data:=.seq vs.toArray }∧IntsAre vs ns∧ns.length≤n:=by
  have hsh:WShape.hasAll [] args [.list .int]=true:=(pre_splitW hpre).1
  have hc:l.pre.holds [] { args:=args }=true:=(pre_splitW hpre).2
  obtain ⟨d,r,rfl,h1,h2⟩:=hasAllW_cons hsh
  obtain rfl:=hasAllW_nil h2
  obtain ⟨xs,rfl,h3⟩:=hasW_list h1
  obtain ⟨ns,rfl⟩:=items_int h3
  have hlen:ns.length≤n:=by
    unfold OpenLaw.pre at hc
    have h4:(WTm.not (.lt (.lit (.int (n:Int))) (.len (.arg 0)))).holds [] { args:=[.list (ns.map .int)] }=true:=by
      have h4:=(holds_andW hc).1
      rw [hn] at h4
      exact h4
    have h5:=condW_of h4 (w_not (w_lt w_lit (w_len_list (w_arg rfl))))
    rw [List.length_map] at h5
    refine Nat.le_of_not_lt fun q=>?_
    have q':(n:Int) < ((ns.length:Nat):Int):=by omega
    first
      | (rw [decide_eq_true q'] at h5; exact absurd h5 (by decide))
      | (simp at h5; omega)
  cases hwl with
  | cons w1 w2 =>
    cases w2
    cases w1 with
    | list ho hall=>exact ⟨_,_,ns,rfl,rfl,ho,ints_of_wellAll ns _ hall,hlen⟩
theorem post_true (l:OpenLaw) (args:List WData):l.row.toRowW.claim.post args (.bool true) args=true :=
  postW_of (r:=l.row.toRowW) (X:=(true == true))
    (show WShape.has [] (.bool true) .bool=true by first | rfl | decide | simp [WShape.has,WShape.arms,WShape.armsAll])
    (show (WTm.eq .res (.lit (.bool true))).value [] { args:=args,res:=some (.bool true),after:=args }=some (.bool (true == true)) from w_eq_bool (w_res rfl) w_lit) rfl
theorem attach_call {l:OpenLaw} {n:Nat} {q:Program} {loose:List Str} {XP:(Str→Option Value)→Heap→Prop} {YP:World→Heap→Prop} {d:DefRec}
    (hn:l.most=some n) (hdf:d.params.defaults=[])
    (call:∀ (w:World) (s₀ s₁:Shared) (mg mb:Str→Option Value) (fa:Addr) (o:Obj) (pm cd doc:Value) (a:Addr) (vs:List Value) (ns:List Int),
      Ground q loose [] XP w s₀ mg mb s₁.heap→YP w s₁.heap →
      s₁.heap.get? fa=some o→o.data=.func (docDef d.name d.params d.body d.scope pm cd doc)→s₁.heap.CodeRec cd d.name→mg d.name=some (.ref fa) →
      s₁.heap.get? a=some { cls:=.type "list",data:=.seq vs.toArray }→IntsAre vs ns→ns.length≤n→s₁.gens = #[] →
      codeAny (model l.prog w) callerA (.call (.ref fa) ⟨[.ref a],[]⟩) (fun r s'=>r=.ok (.ret (.bool true))∧OldK s₁.heap s'.heap∧s'.os=s₁.os∧AllBare s'.gens) s₁) :
    WalkO q loose XP YP l.row.toRowW d [] (fun f vs=>PySem.call f vs):=by
  intro w s₀ s₁ mg mb G Y fa o pm cd doc dV kV ho hd hcd hD hmg hg args vals as hpre hlay hrd hwl hlo
  obtain rfl:dV=.none:=Dflts.none hD hdf
  obtain rfl:kV=.none:=Dflts.noKw hD
  obtain ⟨a,vs,ns,rfl,rfl,hobj,hints,hlen⟩:=script_of hn hpre hwl
  refine enter_call (codeAny_mono (call w s₀ s₁ mg mb fa o pm cd doc a vs ns G Y ho (fd_plain hd) hcd hmg hobj hints hlen hg) fun r s' hq=>?_)
  obtain ⟨rfl,h2,h3,h4⟩:=hq
  exact ⟨.inl ⟨.bool true,.bool true,[],rfl,fun _=>rfl,.bool true,post_true l _,fun _=>⟨List.Pairwise.nil,fun _ hm=>(nomatch hm)⟩⟩,h2,h3,h4⟩
section
variable {prog:Program} {w:World} {A:Around} {E:Value→Shared→Prop} {s:Shared} {K:Frag}
noncomputable def ledger (h:Heap) (L d:Addr):List (Addr × Obj):=(List.range h.objs.size).filterMap fun a=>if a=L∨a=d then none else (h.get? a).map fun o=>(a,o)
end
end Att
namespace L2
open PySem PySem.Spec PyProof.Rows
theorem vals_ints:∀ {vs:List Value} {ns:List Int},IntsAre vs ns→Vals (ns.map V.int) vs
  | _,_,.nil=>.nil
  | _,_,.cons n t h=>.cons ⟨t,rfl⟩ (vals_ints h)
noncomputable def Only (H:Hp):Prop:=∀ b,H b=none∨∃ o xs,H b=some (.frz o (.lst xs))
theorem law_call {P:Program} {w:World} {K:PySem.W.Frag} {mg mb:Str→Option Value} {CX:CXT} {k:Nat} {fa a:Addr} {fd:FuncData} {x:Str} {sp:Sp} {s₁:Shared} {vs:List Value} {ns:List Int}
    (KX:K.In s₁.heap) (hns:s₁.heap.Ns mainGlobals mg) (hb:s₁.heap.Ns builtinsNs mb) (hbb:∀ x:Str,x ≠ "__name__"→mb x=bootBuiltins x) (hlim:s₁.heap.NoLimit) (hg:s₁.gens = #[])
    (ha:s₁.heap.get? a=some { cls:=.type "list",data:=.seq vs.toArray }) (hi:IntsAre vs ns) (hl:ns.length≤sizeLine) (hr:Room k callerA)
    (F:∀ base:Heap,K.In base→base.Ns mainGlobals mg→FnOk P w K mg base CX k fa fd [x] sp) (hbind:∀ (s:Shared) (u:Value),BindsTo s fd ⟨[u],[]⟩ [(x,u)])
    (hsp:∀ H:Hp,Only H→SqL K H a (ns.map V.int)→sp [.ref a] H (fun v _=>v=.bl true) fun _ _ _=>False)
    (hCX:∀ H e s',CX [] H s₁ (fun _ _ _=>False) e s'→False) :
    codeAny (model P w) callerA (.call (.ref fa) ⟨[.ref a],[]⟩) (fun r s'=>r=.ok (.ret (.bool true))∧OldK s₁.heap s'.heap∧s'.os=s₁.os∧AllBare s'.gens) s₁:=by
  have rv:=vals_ints hi
  have lenV:=hi.length
  have core:∀ H:Hp,Only H→SqL K H a (ns.map V.int)→HOk P w H s₁.heap→(∀ b,H b≠none→b=a)→(H a≠none→K.lookup a=none) →
      codeAny (model P w) callerA (.call (.ref fa) ⟨[.ref a],[]⟩) (fun r s'=>r=.ok (.ret (.bool true))∧OldK s₁.heap s'.heap∧s'.os=s₁.os∧AllBare s'.gens) s₁:=by
    intro H hO hS hok hA hK
    have base_of:∀ {b:Addr} {o:Obj},s₁.heap.get? b=some o→H b=none→(hidT s₁.heap H).get? b=some o:=fun e n=>hidT_get e n
    have noA:∀ {b:Addr} {o:Obj} {es:Array DictEntry} {ep:Nat},s₁.heap.get? b=some o→o.data=.dict es ep→H b=none:=fun {b o es ep} e d=>by
      cases q:H b with
      | none=>rfl
      | some u =>
        have e':b=a:=hA b (by rw [q]; simp)
        subst e'
        rw [ha] at e; cases e
        have d':Data.seq vs.toArray _=Data.dict es ep:=d
        cases d'
    have nsK:∀ {b:Addr} {m:Str→Option Value},s₁.heap.Ns b m→(hidT s₁.heap H).Ns b m:=fun {b m} ⟨o,es,ep,e,d,r⟩=>⟨o,es,ep,base_of e (noA e d),d,r⟩
    have hKb:K.In (hidT s₁.heap H):=fun b o e=>base_of (KX b o e) (by
      cases q:H b with
      | none=>rfl
      | some u =>
        have e':b=a:=hA b (by rw [q]; simp)
        subst e'
        rw [hK (by rw [q]; simp)] at e; cases e)
    have hM:Mod K mg (hidT s₁.heap H):=⟨hKb,nsK hns,⟨mb,nsK hb,hbb⟩,let ⟨mc,h1,h2⟩:=hlim; ⟨mc,nsK h1,h2⟩⟩
    have e0:Env0 P w K mg (hidT s₁.heap H) callerA [] s₁ H:=⟨rfl,hM,fun b o e=>of_hidT e,Nat.le_of_eq (hidT_size _ _),trivial,fun b hb=>absurd (show b∈([]:List Addr) from hb) (by simp),hok,.of_eq hg⟩
    refine codeAny_mono ((F _ hKb (nsK hns)).run callerA [] s₁ H ⟨[.ref a],[]⟩ [.ref a] [.ref a] _ _ hr e0 (hbind s₁ (.ref a)) (.cons rfl .nil) (hsp H hO hS)) fun r s' h=>?_
    cases r with
    | error e=>exact (hCX H e s' h).elim
    | ok fl =>
      cases fl with
      | next=>exact False.elim h
      | brk=>exact False.elim h
      | cont=>exact False.elim h
      | ret u =>
        obtain ⟨v,H',os,bare,un,hok',r',q⟩:=h
        have q':v=.bl true:=q
        subst q'
        obtain rfl:u=Value.bool true:=r'
        refine ⟨rfl,OldK.of_keep fun b o e=>?_,os,bare⟩
        cases q:H b with
        | none=>exact un.keep b o e q (by intro z; exact absurd (show b∈([]:List Addr) from z) (by simp)) (by simp)
        | some u =>
          rcases hO b with z | ⟨ob,xs,z⟩
          · rw [q] at z; cases z
          · have z2:=un.frzs b ob _ z
            obtain ⟨e1,_⟩:=hok b _ z
            obtain ⟨e2,_⟩:=hok' b _ z2
            rw [e] at e1; cases e1
            exact e2
  cases hk:K.lookup a with
  | some o =>
    have e:=KX a o hk
    rw [ha] at e
    cases e
    refine core (fun _=>none) (fun _=>.inl rfl) (.inr ⟨_,vs.toArray,_,hk,rfl,rfl,rfl,by rw [List.size_toArray,lenV]; exact hl,by simpa using rv⟩) (fun b u z=>by have z':(none:Option HO)=some u:=z; cases z') (fun b z=>absurd rfl z) fun z=>absurd rfl z
  | none =>
    refine core (fun b=>if b=a then some (.frz { cls:=.type "list",data:=.seq vs.toArray } (.lst (ns.map V.int))) else none) (fun b=>?_) (.inl (.inr ⟨{ cls:=.type "list",data:=.seq vs.toArray },if_pos rfl⟩)) (fun b u z=>?_) (fun b z=>?_) fun _=>hk
    · by_cases hb:b=a
      · exact .inr ⟨_,_,if_pos hb⟩
      · exact .inl (if_neg hb)
    · by_cases hb:b=a
      · have z':=(if_pos hb).symm.trans z
        cases z'
        subst hb
        exact ⟨ha,by rw [List.length_map]; exact hl,vs,_,rv,ha⟩
      · have z':=(if_neg hb).symm.trans z
        cases z'
    · by_cases hb:b=a
      · exact hb
      · exact absurd (if_neg hb) z
end L2
namespace L2
open PySem PySem.Spec PyProof.Rows
noncomputable abbrev KOf {K:PySem.W.Frag} {h:Heap} (_:K.In h):PySem.W.Frag:=K
theorem walk_of {l:PySem.W.OpenLaw} {n k:Nat} {q:Program} {loose:List Str} {XP:(Str→Option Value)→Heap→Prop} {YP:World→Heap→Prop} {d:DefRec} {K:Params→PySem.W.Frag} {CX:World→CXT} {sp:World→Sp} {x:Str}
    (hn:l.most=some n) (hn2:n≤sizeLine) (hdf:d.params.defaults=[]) (hr:Room k callerA)
    (hY:∀ (w:World) (h:Heap),YP w h→(K w.params).In h)
    (F:∀ (w:World) (mg:Str→Option Value) (fa:Addr) (h:Heap),(K w.params).In h→h.Ns mainGlobals mg→mg d.name=some (.ref fa) →
      ∃ fd:FuncData,(∀ (s:Shared) (u:Value),BindsTo s fd ⟨[u],[]⟩ [(x,u)]) ∧
        ∀ base:Heap,(K w.params).In base→base.Ns mainGlobals mg→FnOk l.prog w (K w.params) mg base (CX w) k fa fd [x] (sp w))
    (hsp:∀ (w:World) (H:Hp) (a:Addr) (ns:List Int),ns.length≤n→Only H→SqL (K w.params) H a (ns.map V.int)→sp w [.ref a] H (fun v _=>v=.bl true) fun _ _ _=>False)
    (hCX:∀ (w:World) (H:Hp) (s:Shared) (e:Value) (s':Shared),CX w [] H s (fun _ _ _=>False) e s'→False) :
    PySem.W.WalkO q loose XP YP l.row.toRowW d [] (fun f vs=>PySem.call f vs):=by
  refine Att.attach_call hn hdf fun w s₀ s₁ mg mb fa o pm cd doc a vs ns G Y ho hd hcd hmg hobj hints hlen hg=>?_
  have KX:=hY w _ Y
  obtain ⟨fd,hb,hF⟩:=F w mg fa _ KX G.T.g hmg
  exact law_call KX G.T.g G.T.b G.T.builtins G.T.nolimit hg hobj hints (Nat.le_trans hlen hn2) hr hF hb (fun H hO hS=>hsp w H a ns hlen hO hS) fun H e s'=>hCX w H s₁ e s'
end L2
namespace L2
open PySem PySem.Spec PyProof.Rows
noncomputable def defArgs (s:Stmt):Arguments:=match s with
  | .FunctionDef _ a _ _ _ _ _ _ _ _=>a
  | _=>{ posonlyargs:=[],args:=[],vararg:=none,kwonlyargs:=[],kw_defaults:=[],kwarg:=none,defaults:=[] }
noncomputable def defBody (s:Stmt):List Stmt:=match s with
  | .FunctionDef _ _ b _ _ _ _ _ _ _=>b
  | _=>[]
noncomputable def defScope (s:Stmt):Scope:=match s with
  | .FunctionDef _ _ _ _ _ _ sc _ _ _=>sc
  | _=>{ kind:=.function,names:=[],isGenerator:=false,isCoroutine:=false }
noncomputable abbrev CX0:CXT:=fun _ _ _ _ _ _=>False
noncomputable abbrev E0:XK:=fun _ _ _=>False
theorem pass0 {X:Cx}:Passes CX0 X E0:=fun _ _ _ _ _ _ _ h=>h.elim
structure Fun (K:PySem.W.Frag) (x qual:Str) (st:Stmt) (f:Addr) (fd:FuncData):Prop where
  ex:∃ (oc:Value) (od:Option Addr) (kV doc pm:Value) (an:Option Addr) (cdv ct:Value) (osl:Array (Option Value)),
    fd=PySem.W.fnOf x qual (defArgs st) (defBody st) (defScope st) .none kV doc pm an cdv ct∧K.lookup f=some ⟨oc,od,.func fd,osl⟩∧PySem.W.codeIn K cdv qual=true
  kp:PySem.W.keepIn K (.ref f)=true
section
variable {P:Program} {w:World} {K:PySem.W.Frag} {mg:Str→Option Value} {base:Heap}
theorem Fun.ok {x qual:Str} {st:Stmt} {f:Addr} {fd:FuncData} {N ps:List Str} {k:Nat} {sp:Sp} (F:Fun K x qual st f fd) (S:FnScope N ps (defScope st)) (len:∀ vs H Q E,sp vs H Q E→vs.length=ps.length)
    (hbody:∀ (cdv:Value) (A:Around) (outer:List Env) (s:Shared) (H:Hp) (vs:List V) (Q:VK) (E:XK),Room k (A.deeper (envOfC qual (defScope st) s.heap.objs.size f cdv))→sp vs H Q E →
      ∃ t,PSs (cxOf CX0 P w K mg base N qual (defScope st) f cdv A outer s H E).nox (defBody st) t∧t { nx:=fun _ H'=>Q .non H',rt:=Q } (start N vs) H):FnOk P w K mg base CX0 (k+1) f fd ps sp:=by
  obtain ⟨oc,od,kV,doc,pm,an,cdv,ct,osl,rfl,lk,hcd⟩:=F.ex
  refine fn_of lk hcd S len fun A outer s H vs Q E hr hsp=>?_
  obtain ⟨t,h,q⟩:=hbody cdv A outer s H vs Q E hr hsp
  exact ⟨t,h.nox,q⟩
theorem Fun.binds {x qual:Str} {st:Stmt} {f:Addr} {fd:FuncData} {ps:List Str} (F:Fun K x qual st f fd)
    (h:∀ (kV doc pm:Value) (an:Option Addr) (cdv ct:Value) (us:List Value),us.length=ps.length→bindArgs (PySem.W.fnOf x qual (defArgs st) (defBody st) (defScope st) .none kV doc pm an cdv ct) ⟨us,[]⟩=pure (ps.zip us)):Binds K fd ps []:=by
  obtain ⟨oc,od,kV,doc,pm,an,cdv,ct,osl,rfl,lk,hcd⟩:=F.ex
  exact .all (h kV doc pm an cdv ct)
theorem fun_mk {x qual:Str} {st:Stmt} {f:Addr} {oc:Value} {od an:Option Addr} {osl:Array (Option Value)} {kV doc pm cdv ct:Value} (l:K.lookup f=some ⟨oc,od,.func (PySem.W.fnOf x qual (defArgs st) (defBody st) (defScope st) .none kV doc pm an cdv ct),osl⟩)
    (c:PySem.W.codeIn K cdv qual=true) (k:PySem.W.keepIn K (.ref f)=true):Fun K x qual st f (PySem.W.fnOf x qual (defArgs st) (defBody st) (defScope st) .none kV doc pm an cdv ct):=⟨⟨oc,od,kV,doc,pm,an,cdv,ct,osl,rfl,l,c⟩,k⟩
end
theorem hu_of {A:Around} {k:Nat} (hr:Room k A):A.units+1 < cLine:=Nat.lt_of_le_of_lt (Nat.add_le_add_left (by decide:1≤64) _) hr.units
theorem small1000 {n:Nat} (h:n≤1000):n < sizeLine:=Nat.lt_of_le_of_lt h (by decide)
section
variable {X:Cx}
theorem pv (i:Nat) {x:Str} {pos:Pos} (hN:X.N[i]?=some x:=by rfl) (hv:Vis X.env.scope x:=by first | exact Or.inl rfl | exact Or.inr (Or.inl rfl) | exact Or.inr (Or.inr rfl)) (hd:(x == ("__debug__" : Str))=false:=by decide)
    (hcd:(x == ("__classdict__" : Str))=false:=by decide):PE X (.Name x pos) (tVar i):=pe_var hN hv hd hcd
end
theorem iteF {A B:Prop} (h:B):if false=true then A else B:=by
  rw [if_neg Bool.false_ne_true]
  exact h
theorem iteT {A B:Prop} (h:A):if true=true then A else B:=by
  rw [if_pos rfl]
  exact h
theorem ite2 {c A B:Prop} [Decidable c] (h1:c→A) (h2:¬ c→B):if c then A else B:=by
  by_cases h:c
  · rw [if_pos h]
    exact h1 h
  · rw [if_neg h]
    exact h2 h
noncomputable def Same (H H':Hp):Prop:=∀ b o,H b=some o→H' b=some o
theorem Same.refl (H:Hp):Same H H:=fun _ _ h=>h
theorem Same.trans {H H1 H2:Hp} (a:Same H H1) (b:Same H1 H2):Same H H2:=fun c o h=>b c o (a c o h)
theorem Same.seq {K:PySem.W.Frag} {H H':Hp} {a:Addr} {xs:List V} (e:Same H H') (h:SqL K H a xs):SqL K H' a xs:=by
  rcases h with (h | ⟨o,h⟩) | h
  · exact .inl (.inl (e _ _ h))
  · exact .inl (.inr ⟨o,e _ _ h⟩)
  · exact .inr h
end L2
set_option Elab.async false
set_option linter.all false
set_option maxRecDepth 100000
set_option maxHeartbeats 4000000
namespace L2
open PySem PySem.Spec PyProof.Rows
theorem closure_walk {env:Env}:∀ (names:List (Str × NameKind)) (acc:List (Str × Addr)),(∀ y∈names,y.2=.free→∃ c,env.cells.lookup y.1=some c) →
    ∃ cl,(forIn names acc (fun (x:Str × NameKind) (cs:List (Str × Addr))=>(if x.2 == .free then (do let c ← cellOf env x.1; pure (ForInStep.yield ((x.1,c) :: cs))) else pure (ForInStep.yield cs):Sem (ForInStep (List (Str × Addr))))))=pure cl ∧
      (∀ y∈names,y.2=.free→∃ c,cl.lookup y.1=some c)∧(∀ y c,acc.lookup y=some c→∃ d,cl.lookup y=some d)∧(∀ y c,cl.lookup y=some c→env.cells.lookup y=some c∨acc.lookup y=some c)
  | [],acc,_=>⟨acc,rfl,(fun _ h=>nomatch h),(fun y c h=>⟨c,h⟩),(fun y c h=>.inr h)⟩
  | (n,k) :: r,acc,h=>by
    rw [List.forIn_cons]
    by_cases hk:k=.free
    · subst hk
      obtain ⟨c,hc⟩:=h (n,.free) List.mem_cons_self rfl
      obtain ⟨cl,e,h1,h2,h3⟩:=closure_walk r ((n,c) :: acc) fun y hy=>h y (List.mem_cons_of_mem _ hy)
      refine ⟨cl,?_,?_,?_,?_⟩
      · have e0:cellOf env n=pure c:=by unfold cellOf; rw [hc]
        simp only [beq_self_eq_true,if_true,e0,pure_bind]
        exact e
      · intro y hy hf
        rcases List.mem_cons.mp hy with rfl | hy
        · exact h2 n c (by simp)
        · exact h1 y hy hf
      · intro y d hd
        by_cases e1:y=n
        · subst e1; exact h2 y c (by simp)
        · exact h2 y d (by rw [List.lookup_cons,beq_eq_false_iff_ne.mpr e1]; exact hd)
      · intro y d hd
        rcases h3 y d hd with q | q
        · exact .inl q
        · by_cases e1:y=n
          · subst e1
            simp at q
            exact .inl (by rw [← q]; exact hc)
          · rw [List.lookup_cons,beq_eq_false_iff_ne.mpr e1] at q
            exact .inr q
    · have hb:(k == NameKind.free)=false:=by simpa using hk
      obtain ⟨cl,e,h1,h2,h3⟩:=closure_walk r acc fun y hy=>h y (List.mem_cons_of_mem _ hy)
      refine ⟨cl,?_,?_,h2,h3⟩
      · simp only [hb,Bool.false_eq_true,if_false,pure_bind]
        exact e
      · intro y hy hf
        rcases List.mem_cons.mp hy with rfl | hy
        · exact absurd hf hk
        · exact h1 y hy hf
theorem closure_of {scope:Scope} {env:Env} (h:∀ y∈scope.names,y.2=.free→∃ c,env.cells.lookup y.1=some c) :
    ∃ cl,closureFor scope env=pure cl∧(∀ y∈scope.names,y.2=.free→∃ c,cl.lookup y.1=some c)∧∀ y c,cl.lookup y=some c→env.cells.lookup y=some c:=by
  obtain ⟨cl,e,h1,_,h3⟩:=closure_walk scope.names [] h
  refine ⟨cl,?_,h1,fun y c q=>(h3 y c q).elim id fun z=>by simp at z⟩
  rw [← e]
  unfold closureFor
  simp only [bind_pure]
theorem relabel_free {env:Env}:∀ {names:List (Str × NameKind)} {x:Str},names.lookup x=some .free →
    (names.map fun (n,k)=>if (k == NameKind.free && env.scope.kind == .function && env.kindOf n == some .cell) then (n,NameKind.cell) else (n,k)).lookup x=some .cell ∨
    (names.map fun (n,k)=>if (k == NameKind.free && env.scope.kind == .function && env.kindOf n == some .cell) then (n,NameKind.cell) else (n,k)).lookup x=some .free
  | [],_,h=>by simp at h
  | (n,k) :: r,x,h=>by
    have ih:=@relabel_free env r x
    rw [List.map_cons]
    cases hx:x == n with
    | true =>
      simp only [List.lookup_cons,hx] at h
      cases h
      by_cases hc:(NameKind.free == NameKind.free && env.scope.kind == .function && env.kindOf n == some .cell)=true
      · left; simp only [if_pos hc,List.lookup_cons,hx]
      · right; simp only [if_neg hc,List.lookup_cons,hx]
    | false =>
      simp only [List.lookup_cons,hx] at h
      by_cases hc:(k == NameKind.free && env.scope.kind == .function && env.kindOf n == some .cell)=true
      · simp only [if_pos hc,List.lookup_cons,hx]; exact ih h
      · simp only [if_neg hc,List.lookup_cons,hx]; exact ih h
theorem relabel_inv {env:Env}:∀ {names:List (Str × NameKind)} {x:Str} {k':NameKind},
    (names.map fun (n,k)=>if (k == NameKind.free && env.scope.kind == .function && env.kindOf n == some .cell) then (n,NameKind.cell) else (n,k)).lookup x=some k'→(k'=.cell∨k'=.free) →
    ∃ k,(x,k)∈names∧(k=.cell∨k=.free)
  | [],_,_,h,_=>by simp at h
  | (n,k) :: r,x,k',h,hk=>by
    have ih:=@relabel_inv env r x k'
    rw [List.map_cons] at h
    cases hx:x == n with
    | true =>
      have e:x=n:=by simpa using hx
      subst e
      by_cases hc:(k == NameKind.free && env.scope.kind == .function && env.kindOf x == some .cell)=true
      · refine ⟨k,List.mem_cons_self,.inr ?_⟩
        simp only [Bool.and_eq_true,beq_iff_eq] at hc
        exact hc.1.1
      · simp only [if_neg hc,List.lookup_cons,beq_self_eq_true] at h
        cases h
        exact ⟨k,List.mem_cons_self,hk⟩
    | false =>
      have h':(r.map fun (n,k)=>if (k == NameKind.free && env.scope.kind == .function && env.kindOf n == some .cell) then (n,NameKind.cell) else (n,k)).lookup x=some k':=by
        by_cases hc:(k == NameKind.free && env.scope.kind == .function && env.kindOf n == some .cell)=true
        · simpa only [if_pos hc,List.lookup_cons,hx] using h
        · simpa only [if_neg hc,List.lookup_cons,hx] using h
      obtain ⟨q,m,z⟩:=ih h' hk
      exact ⟨q,List.mem_cons_of_mem _ m,z⟩
noncomputable abbrev blockCx (X:Cx) (scope:Scope) (N:List Str) (cl:List (Str × Addr)) (C:Addr) (s:Shared) (H:Hp) (ex:List Addr) (pn:List (Addr × Obj)) (E:Value→Shared→Prop):Cx :=
  { X with N:=N,s₀:=s,H₀:=H,env:=compEnvC scope cl C X.env,outer:=X.stack,stack:=X.stack,ex:=ex,fn:=fun _=>false,pn:=pn,xe:=E }
theorem block_ok {X:Cx} {pins:List (Addr × Obj)} {σ σ':St} {H:Hp} {s:Shared} {scope:Scope} {N:List Str} {cl:List (Str × Addr)} {fp:List Addr} {E:Value→Shared→Prop} {h1:Heap} {t:Nat}
    (I:Inv X pins σ H s) (hkind:scope.kind=.function) (hcell:∀ y∈scope.names,y.2≠.cell) (hfree:∀ y∈scope.names,y.2=.free→X.env.kindOf y.1=some .cell∨X.env.kindOf y.1=some .free)
    (hcl1:∀ y∈scope.names,y.2=.free→∃ c,cl.lookup y.1=some c) (hcl2:∀ y c,cl.lookup y=some c→X.env.cells.lookup y=some c)
    (hf:∀ b∈fp,FpOk X pins H b) (hfo:∀ b∈fp,∃ o,s.heap.get? b=some o)
    (hl:σ'.length=N.length) (hσ:∀ (i:Nat) (x:Str) (v:V),N[i]?=some x→σ'[i]?=some (some v)→scope.names.lookup x=some .free∧∃ j:Nat,X.N[j]?=some x∧σ[j]?=some (some v))
    (hns:h1.Ns s.heap.objs.size (fun _=>none)) (hold:∀ b o,s.heap.get? b=some o→h1.get? b=some o) :
    Inv (blockCx X scope N cl s.heap.objs.size s H fp (X.pn++pins) E) [] σ' H { s with heap:=h1,toks:=t }:=by
  have szc:∀ b o,s.heap.get? b=some o→b≠s.heap.objs.size:=fun b o e=>Nat.ne_of_lt (Heap.lt_size e)
  have okY:(blockCx X scope N cl s.heap.objs.size s H fp (X.pn++pins) E).Ok:=by
    refine ⟨I.ok.mod,hkind,I.ok.glob,I.ok.blt,Nat.le_refl _,fun x y c e1 e2=>I.ok.inj x y c (hcl2 _ _ e1) (hcl2 _ _ e2),fun x hx=>?_,fun x c hfn _=>?_,I.ok.hd,I.ok.frames,.inl rfl,fun b hb=>⟨?_,fun x c e z=>?_⟩,I.bs,Nat.le_trans I.ok.bsz I.sz,fun b o e hb=>?_,fun b hb z=>?_,I.stack,I.stkFree⟩
    · have hx':(relabel scope X.env).names.lookup x=some .cell∨(relabel scope X.env).names.lookup x=some .free:=hx
      have q:∃ k,(x,k)∈scope.names∧(k=.cell∨k=.free):=by
        rcases hx' with z | z
        · exact relabel_inv z (.inl rfl)
        · exact relabel_inv z (.inr rfl)
      obtain ⟨k,hm,hk⟩:=q
      rcases hk with rfl | rfl
      · exact absurd rfl (hcell _ hm)
      · exact hcl1 _ hm rfl
    · exact absurd (show false=true from hfn) (by decide)
    · obtain ⟨o,e⟩:=hfo b hb
      exact szc b o e
    · exact (hf b hb).2.2.2.2.1 x c (hcl2 _ _ e) z
    · rcases (hf b hb).2.2.2.1 with z | z
      · exact I.ok.noex b o e z
      · exact absurd (Nat.lt_of_lt_of_le (Heap.lt_size e) (Nat.le_trans I.ok.bsz z)) (Nat.lt_irrefl _)
    · rcases List.mem_cons.mp (I.stkSub b z) with q | q
      · exact (hf b hb).2.1 q
      · exact (hf b hb).2.2.1 q
  obtain ⟨m,hn,hlook⟩:=id I.loc
  refine ⟨okY,rfl,I.bare,Un.kept hold,⟨_,hns,fun i x v e1 e2 _=>?_⟩,fun x c e=>?_,I.hok.fresh (Nat.le_refl _),fun x c e=>I.freeC x c (hcl2 _ _ e),fun p hp=>?_,I.hok.kept hold,hl⟩
  · obtain ⟨hfr,j,ej,es⟩:=hσ i x v e1 e2
    have hm:(x,NameKind.free)∈scope.names:=PySem.mem_of_lookup hfr
    have hk:=hfree _ hm rfl
    have hv:Vis X.env.scope x:=by
      rcases hk with z | z
      · exact .inr (.inl z)
      · exact .inr (.inr z)
    obtain ⟨u,r,l⟩:=hlook j x v ej es hv
    refine ⟨u,r,.inr ⟨?_,?_⟩⟩
    · exact relabel_free hfr
    · rcases l with ⟨k,_⟩ | ⟨_,c,ec,hc⟩
      · rcases hk with z | z <;> (rw [k] at z; cases z)
      · obtain ⟨d,hd⟩:=hcl1 _ hm rfl
        have e:=hcl2 _ _ hd
        have ec':X.env.cells.lookup x=some d:=e
        rw [ec] at ec'; cases ec'
        obtain ⟨o,ho,hod⟩:=hc
        exact ⟨c,hd,o,hold c o ho,hod⟩
  · obtain ⟨v,o,ho,hod⟩:=I.cell x c (hcl2 _ _ e)
    exact ⟨v,o,hold c o ho,hod⟩
  · have hp':p∈X.pn++pins:=by simpa using hp
    obtain ⟨a1,a2,a3,a4,a5⟩:=I.pin p hp'
    refine ⟨hold _ _ a1,a2,szc _ _ a1,fun z=>?_,a5⟩
    rcases List.mem_cons.mp (I.stkSub _ z) with q | q
    · exact a3 q
    · exact a4 q
noncomputable def PIfs (X:Cx) (ifs:List Expr) (t:TT):Prop :=
  ∀ (pins:List (Addr × Obj)) (s:Shared) (σ:St) (H:Hp) (Q:Bool→Hp→Prop),Inv X pins σ H s→t σ H Q →
    wpAny (model X.prog X.w) X.A (forIn ifs true fun c r=>if r=true then do let ok ← isTrue c X.env (eval c X.env); pure (ForInStep.yield ok) else pure (ForInStep.yield r)) (TP X pins σ Q) X.xe s
noncomputable def tYes:TT:=fun _ H Q=>Q true H
theorem pifs_nil {X:Cx}:PIfs X [] tYes:=fun _ _ _ H _ I h=>wpAny_tests_nil ⟨H,I,h⟩
theorem pifs_one {X:Cx} {c:Expr} {t:TT} (h:PT X c t):PIfs X [c] t:=fun pins s σ H Q I hw=>wpAny_tests_one (h pins s σ H Q I hw)
section
variable {prog:Program} {w:World} {A:Around} {R:Result→Shared→Prop} {s:Shared}
theorem codeAny_compLoop_any {elt target iter:Expr} {ifs:List Expr} {scope:Scope} {pos:Pos} {it acc:Value} {env:Env} (I:Nat→Shared→Prop)
    (turn:∀ n s,I n s→wpAny (model prog w) A (pyNext it) (fun r s₁=>match r with
      | none=>R (.ok .next) s₁
      | some v=>wpAny (model prog w) A (letOwnedTupleGo target it v) (fun _ s₁'=>wpAny (model prog w) A (assign target env v) (fun _ s₂ =>
          wpAny (model prog w) A (forIn ifs true fun c r=>if r=true then do let ok ← isTrue c env (eval c env); pure (ForInStep.yield ok) else pure (ForInStep.yield r)) (fun ok s₃ =>
            if ok=true then wpAny (model prog w) A (eval elt env) (fun x s₄ =>
              wpAny (model prog w) A (call (.builtin "list.append") [acc,x]) (fun _ s₅=>∃ m,m < n∧I m s₅) (notedBy (model prog w) A env fun e s'=>R (.error e) s') s₄) (notedBy (model prog w) A env fun e s'=>R (.error e) s') s₃
            else ∃ m,m < n∧I m s₃) (notedBy (model prog w) A env fun e s'=>R (.error e) s') s₂) (notedBy (model prog w) A env fun e s'=>R (.error e) s') s₁') (notedBy (model prog w) A env fun e s'=>R (.error e) s') s₁)
        (notedBy (model prog w) A env fun e s'=>R (.error e) s') s)
    (n:Nat) (h:I n s) :
    codeAny (model prog w) A (.compLoop (.ListComp elt [⟨target,iter,ifs,0⟩] scope pos) 0 it acc env) R s:=by
  refine codeAny_loop rfl I (fun n s hI=>?_) n h
  show wpAny _ A ((compTurn (.ListComp elt [⟨target,iter,ifs,0⟩] scope pos) 0 it acc env).onRaise (fun x=>do noteFrame x env; theTreesLotGoes x)) _ _ s
  refine wpAny_noted ?_
  rw [compTurn_list]
  refine wpAny_bind (wpAny_standAt (wpAny_bind (wpAny_mono (turn n s hI) (fun r s₁ h₁=>?_) fun _ _ h'=>h')))
  cases r with
  | none=>exact wpAny_pure h₁
  | some v =>
    refine wpAny_bind (wpAny_mono h₁ (fun _ s₁' h₁'=>?_) fun _ _ h'=>h')
    refine wpAny_bind (wpAny_mono h₁' (fun _ s₂ h₂=>wpAny_bind (wpAny_mono h₂ (fun ok s₃ h₃=>?_) fun _ _ h'=>h')) fun _ _ h'=>h')
    cases ok with
    | false=>exact wpAny_pure ⟨rfl,h₃⟩
    | true =>
      exact wpAny_bind (wpAny_bind (wpAny_mono h₃ (fun x s₄ h₄=>wpAny_bind (wpAny_mono h₄ (fun _ s₅ h₅=>wpAny_pure (wpAny_pure ⟨rfl,h₅⟩)) fun _ _ h'=>h')) fun _ _ h'=>h'))
end
noncomputable def tComp (wi:TI) (g:TG) (tc:TT) (te:TE) (lift:St→St):TE:=fun σ H Q=>wi σ H fun J H1=>∀ l,H1 l=none→∃ W:Nat→Nat→St→Hp→Prop,(∃ m,W 0 m (lift σ) (upd H1 l (.lst [])))∧∀ i m σ H,W i m σ H →
  (J.stop i H∧Q (.ref l) H)∨(J.go i H∧∃ N:St→Hp→Prop,(∀ σ' H',N σ' H'→∃ m',m' < m∧W (i+1) m' σ' H') ∧
    ∀ x H',J.yld i H x H'→g x σ H' fun σ2 H2=>tc σ2 H2 fun b H3=>if b=true then te σ2 H3 fun v H4=>∃ ys,H4 l=some (.lst ys)∧ys.length < sizeLine∧N σ2 (upd H4 l (.lst (ys++[v]))) else N σ2 H3)
theorem pe_comp {X:Cx} {elt tg iter:Expr} {ifs:List Expr} {scope:Scope} {pos:Pos} {wi:TI} {g:TG} {tc:TT} {te:TE} (N:List Str) (lift:St→St) (hc:X.calm=true) (hi:PI X tg iter wi)
    (hkind:scope.kind=.function) (hcell:∀ y∈scope.names,y.2≠.cell) (hfree:∀ y∈scope.names,y.2=.free→X.env.kindOf y.1=some .cell∨X.env.kindOf y.1=some .free)
    (hnames:∀ y∈scope.names,y.2=.local→scope.names.lookup y.1=some .local)
    (hlen:∀ σ:St,σ.length=X.N.length→(lift σ).length=N.length)
    (hσ:∀ (σ:St) (i:Nat) (x:Str) (v:V),σ.length=X.N.length→N[i]?=some x→(lift σ)[i]?=some (some v)→scope.names.lookup x=some .free∧∃ j:Nat,X.N[j]?=some x∧σ[j]?=some (some v))
    (hg:∀ cl C s H ex pn E,PG (blockCx X scope N cl C s H ex pn E) tg g) (ht:∀ cl C s H ex pn E,PIfs (blockCx X scope N cl C s H ex pn E) ifs tc) (he:∀ cl C s H ex pn E,PE (blockCx X scope N cl C s H ex pn E) elt te)
    (hs:∀ x,foldedSetIterable iter X.env x=pure x:=by intro _; rfl) :
    PE X (.ListComp elt [⟨tg,iter,ifs,0⟩] scope pos) (tComp wi g tc te lift):=by
  intro pins s σ H Q I h
  rw [eval_ListComp]
  obtain ⟨cl,hclos,hcl1,hcl2⟩:=closure_of (scope:=scope) (env:=X.env) fun y hy hf=>I.ok.has y.1 (hfree y hy hf)
  refine wpAny_comprehension_free (use:=none) rfl hs hclos hkind hnames (thn (hi pins s σ H _ I h) fun v s1 h1=>thn h1 fun itv s2 h2=>?_)
  obtain ⟨it,fp,tn,J,H2,e,I2,T,st2,f2,q⟩:=h2
  subst e
  refine wpAny_newObj_type (wpAny_newFunctionEnv hcell (by intro y hy; simp at hy) (fun h₁ hns₁ hsb₁=>?_) hkind)
  have I3:Inv X pins σ (upd H2 s2.heap.objs.size (.lst [])) { s2 with heap:=s2.heap.push { cls:=.type "list",data:=.seq ([]:List Value).toArray } }:=I2.lnew (its:=[]) (t':=s2.toks) .nil (Nat.zero_le _)
  have fr:H2 s2.heap.objs.size=none:=I2.fresh
  have hold:∀ b o,(s2.heap.push { cls:=.type "list",data:=.seq ([]:List Value).toArray }).get? b=some o→h₁.get? b=some o:=fun b o e=>hsb₁.extBut b o (Nat.ne_of_lt (Heap.lt_size e)) (Heap.get?_push_of_some _ e)
  have f3:∀ b∈fp,FpOk X pins (upd H2 s2.heap.objs.size (.lst [])) b:=fun b hb=>by
    obtain ⟨o,eo,_⟩:=T.obj 0 _ st2 b hb
    exact ⟨by rw [upd_ne (Nat.ne_of_lt (Heap.lt_size eo))]; exact (f2 b hb).1,(f2 b hb).2⟩
  have fo:∀ b∈fp,∃ o,(s2.heap.push { cls:=.type "list",data:=.seq ([]:List Value).toArray }).get? b=some o:=fun b hb=>by
    obtain ⟨o,eo,_⟩:=T.obj 0 _ st2 b hb
    exact ⟨o,Heap.get?_push_of_some _ eo⟩
  generalize hP:s2.heap.push { cls:=.type "list",data:=.seq ([]:List Value).toArray }=P at *
  obtain ⟨W,⟨m0,w0⟩,turn⟩:=q s2.heap.objs.size fr
  generalize hL:s2.heap.objs.size=L at *
  let R:Result→Shared→Prop:=compPost (model X.prog X.w) X.A X.xe none (EP X pins σ Q) (.ref L) P.objs.size
  let Y:Cx:=blockCx X scope N cl P.objs.size { s2 with heap:=P } (upd H2 L (.lst [])) fp (X.pn++pins) (notedBy (model X.prog X.w) X.A (compEnvC scope cl P.objs.size X.env) fun e s'=>R (.error e) s')
  have IY:Inv Y [] (lift σ) (upd H2 L (.lst [])) { s2 with heap:=h₁,toks:=s2.toks+([]:List (Str × Value)).length } :=
    block_ok (s:={ s2 with heap:=P }) I3 hkind hcell hfree hcl1 hcl2 f3 fo (hlen σ I.len) (fun i x v=>hσ σ i x v I.len) hns₁ hold
  have stY:tn 0 h₁:=T.keep _ _ _ st2 fun b hb o e=>hold b o (by rw [← hP]; exact Heap.get?_push_of_some _ e)
  have fC:∀ b∈fp,b≠P.objs.size∧(b∈fp):=fun b hb=>by
    obtain ⟨o,eo⟩:=fo b hb
    exact ⟨Nat.ne_of_lt (Heap.lt_size eo),hb⟩
  have fpY:∀ {H':Hp},(∀ b∈fp,H' b=none)→∀ b∈fp,FpOk Y [] H' b:=fun {H'} hn b hb=>by
    refine ⟨hn b hb,(fC b hb).1,fun z=>?_,.inl hb,fun x c ex=>(f3 b hb).2.2.2.2.1 x c (hcl2 _ _ ex),fun p hp=>?_⟩
    · rcases List.mem_cons.mp (I3.stkSub b z) with y | y
      · exact (f3 b hb).2.1 y
      · exact (f3 b hb).2.2.1 y
    · have hp':p∈(X.pn++pins)++[]:=hp
      rw [List.append_nil] at hp'
      exact (f3 b hb).2.2.2.2.2 p hp'
  have loop:∀ s4:Shared,s4={ s2 with heap:=h₁,toks:=s2.toks+([]:List (Str × Value)).length } →
      codeAny (model X.prog X.w) X.A (.compLoop (.ListComp elt [⟨tg,iter,ifs,0⟩] scope pos) 0 (.ref it) (.ref L) (compEnvC scope cl P.objs.size X.env)) R s4:=by
    rintro s4 rfl
    refine codeAny_compLoop_any (fun n s'=>∃ i σ' H',Inv Y [] σ' H' s'∧tn i s'.heap∧(∀ b∈fp,H' b=none)∧W i n σ' H') ?_ m0 ⟨0,_,_,IY,stY,fun b hb=>(f3 b hb).1,w0⟩
    rintro n s5 ⟨i,σ5,H5,I5,st5,fr5,w5⟩
    rcases turn i n σ5 H5 w5 with ⟨stop,qn⟩ | ⟨go,Nx,hNx,step⟩
    · refine thn (T.done Y rfl rfl rfl hc i [] s5 σ5 H5 Y.xe I5 (fpY fr5) st5 stop) fun r s6 ⟨hr,I6⟩=>?_
      subst hr
      show R (.ok .next) s6
      obtain ⟨m6,hn6,_⟩:=id I6.loc
      have IX:Inv X pins σ H5 s6:=I3.call' (s':=s6) (ch:=fp) I6.os I6.base I6.hok I6.bare fun b hb=>⟨(f3 b hb).2.2.2.1,(f3 b hb).2.1,(f3 b hb).2.2.2.2.1,(f3 b hb).2.2.2.2.2⟩
      refine ⟨m6,hn6,fun h' sb=>⟨.ref L,H5,IX.turned (t':=s6.toks) (it:=P.objs.size) (fun b o hb e=>(sb.2 b hb).trans e) I6.free (Nat.ne_of_gt I3.lt) (.inr I3.sz) (fun x c ec z=>?_) fun p hp z=>?_,rfl,qn⟩⟩
      · obtain ⟨v0,qv⟩:=I3.cell x c ec
        exact absurd qv.lt (by rw [z]; exact Nat.lt_irrefl _)
      · have z0:=Heap.lt_size (I3.pin p hp).1
        exact absurd z0 (by rw [z]; exact Nat.lt_irrefl _)
    · refine thn (T.item Y rfl rfl rfl hc i [] s5 σ5 H5 Y.xe I5 (fpY fr5) st5 go) fun r s6 ⟨u,hr,h6⟩=>?_
      subst hr
      refine thn h6 fun _ s7 ⟨x,H7,I7,r7,y7,st7,fr7⟩=>?_
      have I7':=I7.pinned (fpY fr7) (T.obj _ _ st7)
      refine thn (hg _ _ _ _ _ _ _ _ s7 σ5 H7 x u _ I7' r7 (step x H7 y7)) fun _ s8 ⟨σ8,H8,I8,q8⟩=>?_
      refine thn (ht _ _ _ _ _ _ _ _ s8 σ8 H8 _ I8 q8) fun ok s9 ⟨H9,I9,q9⟩=>?_
      have again:∀ {sx:Shared} {Hx:Hp},Inv Y ([]++pinsAt fp s7.heap) σ8 Hx sx→Nx σ8 Hx→∃ m,m < n∧∃ i σ' H',Inv Y [] σ' H' sx∧tn i sx.heap∧(∀ b∈fp,H' b=none)∧W i m σ' H':=fun {sx Hx} Ix nx=>by
        obtain ⟨m',hm,wx⟩:=hNx σ8 Hx nx
        refine ⟨m',hm,i+1,σ8,Hx,Ix.unpinned,T.keep _ _ _ st7 fun b hb o e=>(Ix.pin (b,o) (List.mem_append_right _ (List.mem_append_right _ (mem_pinsAt hb e)))).1,fun b hb=>?_,wx⟩
        obtain ⟨o,e,d⟩:=T.obj _ _ st7 b hb
        exact (Ix.pin (b,o) (List.mem_append_right _ (List.mem_append_right _ (mem_pinsAt hb e)))).2.1
      cases ok with
      | false =>
        rw [if_neg Bool.false_ne_true] at q9 ⊢
        exact again I9 q9
      | true =>
        rw [if_pos rfl] at q9 ⊢
        refine thn (he _ _ _ _ _ _ _ _ s9 σ8 H9 _ I9 q9) fun y s10 ⟨v10,H10,I10,r10,ys,hys,hz,q10⟩=>?_
        refine thn (mt_append (X:=Y) _ s10 σ8 H10 (.ref L) [v10] (.ref L) [y] (fun _ H'=>Nx σ8 H') I10 rfl (.cons r10 .nil) ⟨L,ys,v10,rfl,rfl,hys,hz,q10⟩) fun _ s11 ⟨_,H11,I11,_,q11⟩=>?_
        exact again I11 q11
  exact codeAny_compStart_list (loop _ rfl) (T.self X.A 0 _ _ _ stY (loop _ rfl))
end L2
set_option Elab.async false
set_option linter.all false
set_option maxRecDepth 100000
set_option maxHeartbeats 4000000
namespace L2
open PySem PySem.Spec PyProof.Rows
theorem comp_by {J:It} {g:TG} {tc:TT} {te:TE} {R:Hp→Prop} {l:Addr} {σ0:St} {H0:Hp} (n:Nat) (Pv:Nat→St→Hp→Prop) (h0:Pv 0 σ0 H0) (hstop:∀ σ H,Pv n σ H→J.stop n H∧R H)
    (hgo:∀ i σ H,i < n→Pv i σ H→J.go i H∧∀ x H',J.yld i H x H'→g x σ H' fun σ2 H2=>tc σ2 H2 fun b H3=>if b=true then te σ2 H3 fun v H4=>∃ ys,H4 l=some (.lst ys)∧ys.length < sizeLine∧Pv (i+1) σ2 (upd H4 l (.lst (ys++[v]))) else Pv (i+1) σ2 H3) :
    ∃ W:Nat→Nat→St→Hp→Prop,(∃ m,W 0 m σ0 H0)∧∀ i m σ H,W i m σ H →
      (J.stop i H∧R H)∨(J.go i H∧∃ N:St→Hp→Prop,(∀ σ' H',N σ' H'→∃ m',m' < m∧W (i+1) m' σ' H') ∧
        ∀ x H',J.yld i H x H'→g x σ H' fun σ2 H2=>tc σ2 H2 fun b H3=>if b=true then te σ2 H3 fun v H4=>∃ ys,H4 l=some (.lst ys)∧ys.length < sizeLine∧N σ2 (upd H4 l (.lst (ys++[v]))) else N σ2 H3):=by
  refine ⟨fun i m σ H=>m=n - i∧i≤n∧Pv i σ H,⟨n,by simp,Nat.zero_le _,h0⟩,?_⟩
  rintro i m σ H ⟨rfl,hi,p⟩
  by_cases hlt:i < n
  · obtain ⟨go,st⟩:=hgo i σ H hlt p
    exact .inr ⟨go,Pv (i+1),fun σ' H' p'=>⟨n - (i+1),by omega,rfl,hlt,p'⟩,st⟩
  · have e:i=n:=by omega
    subst e
    exact .inl (hstop σ H p)
theorem yesT {σ:St} {H:Hp} {F:Bool→Hp→Prop} (h:F true H):tYes σ H F:=h
theorem gN {i:Nat} {v:V} {σ:St} {H:Hp} {Q:St→Hp→Prop} (h:Q (σ.set i (some v)) H):gName i v σ H Q:=h
noncomputable def Ite (K:PySem.W.Frag) (a:Addr):It :=
  ⟨fun i H=>∃ xs x,SqL K H a xs∧xs[i]?=some x,fun i H v H'=>∃ t x,v=.ref t∧H t=none∧H'=upd H t (.tup [.int (i:Nat),x])∧∀ xs,SqL K H a xs→xs[i]?=some x,fun i H=>∃ xs,SqL K H a xs∧xs.length≤i⟩
theorem Inv.turnedT {X:Cx} {pins:List (Addr × Obj)} {σ:St} {H:Hp} {s:Shared} {h':Heap} {t':Nat} {e it:Addr} {xs:List V} {its:List Value} (I:Inv X pins σ H s) (k:∀ b o,b≠e→b≠it→s.heap.get? b=some o→h'.get? b=some o)
    (fe:FpOk X pins H e) (fi:FpOk X pins H it) (he:∃ o,s.heap.get? e=some o) (hi:∃ o,s.heap.get? it=some o) (hv:Vals xs its) (hz:xs.length≤sizeLine)
    (hn:h'.get? s.heap.objs.size=some { cls:=.type "tuple",data:=.seq its.toArray }):Inv X pins σ (upd H s.heap.objs.size (.tup xs)) { s with heap:=h',toks:=t' }:=by
  have fr:H s.heap.objs.size=none:=I.fresh
  have nel:∀ b o,s.heap.get? b=some o→b≠s.heap.objs.size:=fun b o q=>Nat.ne_of_lt (Heap.lt_size q)
  refine I.step (g':=s.gens) (d':=s.drawn) (ch:=[e,it]) (fun b hb=>?_) (fun b o _ _ hc q _=>k b o (fun z=>hc (by simp [z])) (fun z=>hc (by simp [z])) q)
    (fun b o _ _ hc q _=>⟨o.slots,k b o (fun z=>hc (by simp [z])) (fun z=>hc (by simp [z])) q⟩) (fun b o _ q n=>by rw [upd_ne (nel b o q)]; exact n)
    (fun b o hc q=>⟨o,k b o (fun z=>hc (by simp [z])) (fun z=>hc (by simp [z])) q⟩) (fun b ys q=>by rw [upd_ne (ne_of_none q fr)]; exact q) (fun b o u q=>by rw [upd_ne (ne_of_none q fr)]; exact q) (fun b ps q=>⟨#[],by rw [upd_ne (ne_of_none q fr),q]; simp⟩)
    (fun m hm=>?_) (fun b u q=>?_) I.bare
  · have hb':b=e∨b=it:=by simpa using hb
    rcases hb' with rfl | rfl
    · exact ⟨fe.2.2.2.1,fe.2.1,fe.2.2.2.2.1,fe.2.2.2.2.2⟩
    · exact ⟨fi.2.2.2.1,fi.2.1,fi.2.2.2.2.1,fi.2.2.2.2.2⟩
  · obtain ⟨o,es,ep,ho,r⟩:=hm
    exact ⟨o,es,ep,k _ o (Ne.symm fe.2.1) (Ne.symm fi.2.1) ho,r⟩
  · by_cases hb:b=s.heap.objs.size
    · subst hb
      rw [upd_same] at q
      cases q
      exact ⟨hz,its,hv,_,hn,rfl,_,rfl⟩
    · rw [upd_ne hb] at q
      refine (I.hok b u q).stay (fun c v hc q'=>k c v ?_ ?_ q') (fun c q'=>by rw [upd_ne (ne_of_none q' fr)]; exact q') fun c ys q'=>by rw [upd_ne (ne_of_none q' fr)]; exact q'
      · rintro rfl
        rcases hc with z | z
        · rw [← z,fe.1] at q; cases q
        · rw [fe.1] at z; cases z
      · rintro rfl
        rcases hc with z | z
        · rw [← z,fi.1] at q; cases q
        · rw [fi.1] at z; cases z
theorem turn_enum {P:Program} {w:World} {K:PySem.W.Frag} {elts:List Expr} {k1:Nat} {p1:Pos} (a e it:Addr) (hne:e≠it) :
    Turn P w K (.Tuple elts k1 p1) (Ite K a) [e,it] e (fun i h=>(∃ old,IsEnum h e it ((i:Nat):Int) old)∧h.IsListIter it a i) where
  mem:=by simp
  obj:=fun i h st b hb=>by
    obtain ⟨⟨old,he⟩,o,ho,c,d⟩:=st
    have hb':b=e∨b=it:=by simpa using hb
    rcases hb' with rfl | rfl
    · exact ⟨_,he,fun v z=>by
        have z':Data.fields _=Data.cell v:=z
        cases z'⟩
    · exact ⟨o,ho,fun v z=>by rw [d] at z; cases z⟩
  keep:=fun i h h' st k=>by
    obtain ⟨⟨old,he⟩,hit⟩:=st
    exact ⟨⟨old,k e (by simp) _ he⟩,hit.at fun o q=>k it (by simp) o q⟩
  item:=by
    intro X hP hw hK hc i pins s σ H E I hf st hg
    subst hP hw hK
    obtain ⟨xs,x,hq,hx⟩:=hg
    obtain ⟨its,rv,p,hz⟩:=I.list hq
    obtain ⟨u,hu,ru⟩:=rv.get hx
    obtain ⟨⟨old,he⟩,hit⟩:=st
    have fe:=hf e (by simp)
    have fi:=hf it (by simp)
    obtain ⟨oi,hoi,_⟩:=id hit
    refine wpAny_pyNext_enum_item he hit p.isList (x:=u) (by simpa using hu) hne fun h1 heo hit1 ht1 hz1 hk1=>?_
    refine ⟨_,rfl,wpAny_letOwnedTupleGo_enum heo fun h2 he2 hs2=>?_⟩
    have hs2':Heap.SameBut e h1 h2:=hs2
    have hel:e < s.heap.objs.size:=Heap.lt_size he
    have I1:Inv X pins σ (upd H s.heap.objs.size (.tup [.int (i:Nat),x])) { s with heap:=h2,toks:=s.toks+1 } :=
      I.turnedT (its:=[.int i s.toks,u]) (fun b o h1' h2' q=>hs2'.extBut b o h1' (hk1 b o h1' h2' q)) fe fi ⟨_,he⟩ ⟨_,hoi⟩ (.cons ⟨_,rfl⟩ (.cons ru .nil)) (by show 2≤sizeLine; decide) ((hs2'.2 _ (Nat.ne_of_gt hel)).trans ht1)
    refine ⟨.ref s.heap.objs.size,_,I1,rfl,⟨s.heap.objs.size,x,rfl,I.fresh,rfl,fun ys hy=>by rw [I.list_inj hy hq]; exact hx⟩,⟨⟨u,?_⟩,hit1.extBut hs2'.extBut (Ne.symm hne)⟩,fun b hb=>?_⟩
    · have e3:(((i+1:Nat)):Int)=(i:Int)+1:=by push_cast; rfl
      rw [e3]
      exact he2
    · have hb':b=e∨b=it:=by simpa using hb
      have hbl:b≠s.heap.objs.size:=by
        rcases hb' with rfl | rfl
        · exact Nat.ne_of_lt (Heap.lt_size he)
        · exact Nat.ne_of_lt (Heap.lt_size hoi)
      rw [upd_ne hbl]
      exact (hf b hb).1
  done:=by
    intro X hP hw hK hc i pins s σ H E I hf st hg
    subst hP hw hK
    obtain ⟨xs,hq,hx⟩:=hg
    obtain ⟨its,rv,p,hz⟩:=I.list hq
    obtain ⟨⟨old,he⟩,hit⟩:=st
    obtain ⟨f0,f1,f2,f3,f4,f5⟩:=hf it (by simp)
    have hl:=rv.length
    exact wpAny_pyNext_enum_end (I.ok.hd hc) he hit p.isList (by simp; omega) fun h' eb=>⟨rfl,I.turned (t':=s.toks) (fun b o hb e=>eb b o hb e) f0 f1 f3 f4 f5⟩
  self:=fun A i s Q E st h=>by
    obtain ⟨⟨old,he⟩,hit⟩:=st
    exact wpAny_pyIter_enum he h
noncomputable def iEnum (K:PySem.W.Frag) (ta:TA):TI:=fun σ H R=>ta σ H fun vs H1=>∃ a,vs=[.ref a]∧(∃ xs,SqL K H1 a xs)∧R (Ite K a) H1
theorem pi_enum {X:Cx} {elts:List Expr} {k1:Nat} {p1:Pos} {a:Expr} {ta:TA} {p pos:Pos} (hg:Gl X "enumerate") (hm:X.mg "enumerate" = none) (ha:PA X [a] ta) (hs:starEach [a] X.env=[(false,eval a X.env)]:=by rfl)
    (hb:bootBuiltins "enumerate" = some (.type "enumerate"):=by first | exact boot_enumerate | exact PySem.boot_enumerate | rfl):PI X (.Tuple elts k1 p1) (.Call (.Name "enumerate" p) [a] [] pos) (iEnum X.K ta):=by
  intro pins s σ H R I h
  refine Call_ (ld_blt I hg hm hb (PyProof.Rows.callWith_type1 (thn (ha pos pins s σ H _ I h) fun us s1 ⟨vs,H1,I1,r1,q1⟩=>?_) hs rfl))
  obtain ⟨l,e,⟨xs,hq⟩,q⟩:=q1
  subst e
  cases r1 with
  | cons r rr =>
    cases rr
    cases r
    obtain ⟨its,rv,pl,hz⟩:=I1.list hq
    refine call_enumerate_list pl.isList fun h' he hit hsz hk=>?_
    refine wpAny_pyIter_enum he ?_
    have I2:Inv X pins σ H1 { s1 with heap:=h' }:=I1.kept (t':=s1.toks) hk
    refine ⟨s1.heap.objs.size+1,[s1.heap.objs.size+1,s1.heap.objs.size],_,_,H1,rfl,I2,turn_enum l _ _ (Nat.succ_ne_self _),⟨⟨_,he⟩,hit⟩,fun b hb=>?_,q⟩
    have hb':b=s1.heap.objs.size+1∨b=s1.heap.objs.size:=by simpa using hb
    rcases hb' with rfl | rfl
    · exact I1.fpOk (Nat.le_succ _) (I1.hok.fresh (Nat.le_succ _))
    · exact I1.fpOk (Nat.le_refl _) (I1.hok.fresh (Nat.le_refl _))
theorem for_enum {K:PySem.W.Frag} {a:Addr} {xs:List V} {g:TG} {tb:TS} {D:Ends} {σ:St} {H:Hp} (Pv:Nat→St→Hp→Prop) (h0:Pv 0 σ H) (hl:∀ i σ H,i≤xs.length→Pv i σ H→SqL K H a xs)
    (hs:∀ i x t σ H,xs[i]?=some x→Pv i σ H→H t=none→g (.ref t) σ (upd H t (.tup [.int (i:Nat),x])) fun σ2 H2=>tb { D with nx:=Pv (i+1),ct:=Pv (i+1),bk:=D.nx } σ2 H2) (hd:∀ σ H,Pv xs.length σ H→D.nx σ H) :
    ∃ W:Nat→Nat→St→Hp→Prop,(∃ m,W 0 m σ H)∧∀ i m σ H,W i m σ H →
      ((Ite K a).stop i H∧D.nx σ H)∨((Ite K a).go i H∧∃ N:St→Hp→Prop,(∀ σ' H',N σ' H'→∃ m',m' < m∧W (i+1) m' σ' H')∧∀ x H',(Ite K a).yld i H x H'→g x σ H' fun σ2 H2=>tb { D with nx:=N,ct:=N,bk:=D.nx } σ2 H2):=by
  refine ⟨fun i m σ H=>m=xs.length - i∧i≤xs.length∧Pv i σ H,⟨xs.length,by simp,Nat.zero_le _,h0⟩,?_⟩
  rintro i m σ H ⟨rfl,hi,p⟩
  have q:=hl i σ H hi p
  by_cases hlt:i < xs.length
  · refine .inr ⟨⟨xs,xs[i],q,by simp [hlt]⟩,Pv (i+1),fun σ' H' p'=>⟨xs.length - (i+1),by omega,rfl,hlt,p'⟩,fun v H' y=>?_⟩
    obtain ⟨t,x,rfl,ht,rfl,y⟩:=y
    exact hs i x t σ _ (y xs q) p ht
  · have e:i=xs.length:=by omega
    subst e
    exact .inl ⟨⟨xs,q,Nat.le_refl _⟩,hd σ H p⟩
theorem call_isinst {X:Cx}:CallR X (.builtin "isinstance") (fun xs H Q=>∃ x n t b,xs=[x,.ty n]∧TyOf X.K H x t∧PySem.W.kitOne X.K t (.type n)=some b∧Q (.bl b) H):=by
  intro pins s σ H xs us Q I r h
  obtain ⟨x,n,t,b,rfl,ty,e,q⟩:=h
  obtain ⟨u,v,rfl,ru,rv⟩:=vals2 r
  cases rv
  exact isinst_ok I ru ty e fun tk=>⟨.bl b,H,I.tok _,rfl,q⟩
theorem strsAre_of {ys:List Str}:∀ {us:List Value},Vals (ys.map V.str) us→StrsAre us ys:=by
  induction ys with
  | nil=>intro us r; rw [List.map_nil] at r; cases r; exact .nil
  | cons y ys ih =>
    intro us r
    rw [List.map_cons] at r
    cases r with
    | cons r1 r2 =>
      obtain ⟨t,e⟩:=r1
      subst e
      exact .cons y t (ih r2)
theorem mt_join {X:Cx}:MtR X "str.join" (fun x xs H Q=>∃ y l ys,x=.str y∧xs=[.ref l]∧SqL X.K H l (ys.map V.str)∧(ys.map (·.length)).sum+ys.length * y.length≤16777216∧Q (.str (Str.join y ys)) H):=by
  intro pins s σ H x xs v us Q I rx r h
  obtain ⟨y,l,ys,rfl,rfl,hq,hz,q⟩:=h
  obtain ⟨t,rfl⟩:=rx
  obtain ⟨u,rfl,ru⟩:=vals1 r
  cases ru
  obtain ⟨its,rv,p,_⟩:=I.list hq
  refine join_list p.isList (ys:=ys) (by simpa using strsAre_of rv) hz fun t' k=>?_
  have e:Txt.join y ys=Str.join y ys:=StrLaws.glued_eq_join y ys
  rw [e]
  exact ⟨.str _,H,I.tok _,⟨_,rfl⟩,q⟩
noncomputable def CDivB (i j:Int):Prop:=0 < j∧j < 2 ^ 64
theorem op_fdivB {X:Cx}:OpR X (binaryOp .FloorDiv) (rI CDivB fun i j=>.int (i / j)):=opI fun i j _ _ _ _ _ hc q=>by
  have h1:(0:Int) < j:=hc.1
  have h2:j < 2 ^ 64:=hc.2
  refine floordiv_int (by omega) (by rw [Int.fdiv_eq_ediv_of_nonneg i (by omega)]; exact q) (.inl (PyProof.noPylong_of_log2 ?_))
  have h3:j.natAbs≠0:=by omega
  have h4:j.natAbs < 2 ^ 64:=by omega
  have h5:j.natAbs.log2 < 64:=(Nat.log2_lt h3).mpr h4
  omega
end L2
set_option Elab.async false
set_option linter.all false
set_option maxRecDepth 100000
set_option maxHeartbeats 4000000
namespace L2
open PySem PySem.Spec PyProof.Rows
noncomputable def liftBy (js:List (Option Nat)) (σ:St):St:=js.map fun j=>match j with | some j=>σ.getD j none | none=>none
noncomputable def chkLift (N:List Str) (js:List (Option Nat)) (XN:List Str) (names:List (Str × NameKind)):Bool :=
  decide (N.length=js.length) && (N.zip js).all fun p=>match p.2 with | none=>true | some j=>decide (XN[j]?=some p.1) && decide (names.lookup p.1=some .free)
theorem chk_len {N:List Str} {js:List (Option Nat)} {XN:List Str} {names:List (Str × NameKind)} (h:chkLift N js XN names=true) (σ:St):(liftBy js σ).length=N.length:=by
  unfold chkLift at h
  rw [Bool.and_eq_true] at h
  unfold liftBy
  rw [List.length_map]
  exact (of_decide_eq_true h.1).symm
theorem chk_at {N:List Str} {js:List (Option Nat)} {XN:List Str} {names:List (Str × NameKind)} (h:chkLift N js XN names=true) (σ:St) (i:Nat) (x:Str) (v:V) (h1:N[i]?=some x) (h2:(liftBy js σ)[i]?=some (some v)) :
    names.lookup x=some .free∧∃ j:Nat,XN[j]?=some x∧σ[j]?=some (some v):=by
  unfold chkLift at h
  rw [Bool.and_eq_true,List.all_eq_true] at h
  unfold liftBy at h2
  rw [List.getElem?_map] at h2
  cases e:js[i]? with
  | none=>rw [e] at h2; cases h2
  | some j =>
    rw [e] at h2
    cases j with
    | none=>cases h2
    | some j =>
      have h3:σ.getD j none=some v:=Option.some.inj h2
      have hm:(x,some j)∈N.zip js:=by
        refine List.mem_of_getElem? (i:=i) ?_
        rw [List.getElem?_zip_eq_some]
        exact ⟨h1,e⟩
      have q:=h.2 _ hm
      simp only [Bool.and_eq_true,decide_eq_true_eq] at q
      refine ⟨q.2,j,q.1,?_⟩
      rw [List.getD_eq_getElem?_getD] at h3
      cases e2:σ[j]? with
      | none=>rw [e2] at h3; cases h3
      | some o=>rw [e2] at h3; exact congrArg some h3
theorem pe_compL {X:Cx} {elt tg iter:Expr} {ifs:List Expr} {scope:Scope} {pos:Pos} {wi:TI} {g:TG} {tc:TT} {te:TE} (XN:List Str) (sc:Scope) (N:List Str) (js:List (Option Nat)) (hXN:X.N=XN) (hsc:X.env.scope=sc) (hc:X.calm=true) (hi:PI X tg iter wi)
    (hkind:scope.kind=.function) (hchk:chkLift N js XN scope.names=true) (hcell:∀ y∈scope.names,y.2≠.cell) (hfree:∀ y∈scope.names,y.2=.free→sc.names.lookup y.1=some .cell∨sc.names.lookup y.1=some .free)
    (hnames:∀ y∈scope.names,y.2=.local→scope.names.lookup y.1=some .local)
    (hg:∀ cl C s H ex pn E,PG (blockCx X scope N cl C s H ex pn E) tg g) (ht:∀ cl C s H ex pn E,PIfs (blockCx X scope N cl C s H ex pn E) ifs tc) (he:∀ cl C s H ex pn E,PE (blockCx X scope N cl C s H ex pn E) elt te)
    (hs:∀ x,foldedSetIterable iter X.env x=pure x:=by intro _; rfl) :
    PE X (.ListComp elt [⟨tg,iter,ifs,0⟩] scope pos) (tComp wi g tc te (liftBy js)):=by
  subst hXN
  subst hsc
  exact pe_comp N (liftBy js) hc hi hkind hcell hfree hnames (fun σ _=>chk_len hchk σ) (fun σ i x v _ h1 h2=>chk_at hchk σ i x v h1 h2) hg ht he hs
theorem kit_tt (K:PySem.W.Frag) {T U:String} {b:Bool} (h:(if (Value.type T == Value.type U)=true then some true else (if PySem.W.kitMeta U=true then (fastBuiltinMro T).map (·.contains (.type U)) else none))=some b) :
    PySem.W.kitOne K (.type T) (.type U)=some b:=h
theorem kit_int_tuple (K:PySem.W.Frag):PySem.W.kitOne K (.type "int") (.type "tuple")=some false:=kit_tt K (by decide +kernel)
theorem kit_int_bool (K:PySem.W.Frag):PySem.W.kitOne K (.type "int") (.type "bool")=some false:=kit_tt K (by decide +kernel)
theorem kit_int_str (K:PySem.W.Frag):PySem.W.kitOne K (.type "int") (.type "str")=some false:=kit_tt K (by decide +kernel)
theorem kit_int_int (K:PySem.W.Frag):PySem.W.kitOne K (.type "int") (.type "int")=some true:=kit_tt K (by decide +kernel)
theorem atI_lt {α:Type} {xs:List α} {r:Int} (h0:0≤r) (h1:r < xs.length):∃ v,atI xs r=some v∧v∈xs:=by
  have hk:r.toNat < xs.length:=by omega
  have ek:r=((r.toNat:Nat):Int):=by omega
  refine ⟨xs[r.toNat],?_,List.getElem_mem hk⟩
  have q:atI xs ((r.toNat:Nat):Int)=some xs[r.toNat]:=atI_nat (List.getElem?_eq_getElem hk)
  rw [← ek] at q
  exact q
theorem cutV_ints (ns:List Int) (lo hi:Option Int):∃ ms:List Int,cutV (ns.map V.int) lo hi=ms.map V.int∧ms.length≤ns.length:=by
  refine ⟨(ns.drop (HT.sIx ns.length 0 lo)).take (HT.sIx ns.length ns.length hi - HT.sIx ns.length 0 lo),?_,?_⟩
  · unfold cutV
    rw [List.length_map,List.map_take,List.map_drop]
  · rw [List.length_take,List.length_drop]
    omega
theorem same_new {H:Hp} {p:Addr} (h:H p=none) (o:HO):Same H (upd H p o):=fun b u q=>by rw [upd_ne (ne_of_none q h)]; exact q
theorem map_int_at {ns:List Int} {i:Nat} {y:V} (h:(ns.map V.int)[i]?=some y):∃ z,y=V.int z:=by
  rw [List.getElem?_map] at h
  cases e:ns[i]? with
  | none=>rw [e] at h; cases h
  | some z=>rw [e] at h; exact ⟨z,(Option.some.inj h).symm⟩
theorem small {n:Nat} (h:n≤1000):n≤sizeLine:=Nat.le_of_lt (small1000 h)
theorem smn (n:Nat) (h:n≤1000:=by decide):n≤sizeLine:=small h
theorem sizeLine_big:(1000000:Nat)≤sizeLine:=by rw [sizeLine_eq]; decide
structure Pot (H0:Hp) (p:Addr) (H:Hp):Prop where
  at_:∃ a b:Int,H p=some (.lst [.int a,.int b])
  old:∀ c o,H0 c=some o→c≠p→H c=some o
theorem Pot.new {H0 H:Hp} {p l:Addr} {o:HO} (P:Pot H0 p H) (h:H l=none):Pot H0 p (upd H l o):=by
  obtain ⟨a,b,e⟩:=P.at_
  exact ⟨⟨a,b,by rw [upd_ne (ne_of_none e h)]; exact e⟩,fun c u q hc=>by
    have q':=P.old c u q hc
    rw [upd_ne (ne_of_none q' h)]
    exact q'⟩
theorem Pot.turn {H0 H:Hp} {p:Addr} {a b:Int} (P:Pot H0 p H):Pot H0 p (upd H p (.lst [.int a,.int b])) :=
  ⟨⟨a,b,upd_same⟩,fun c u q hc=>by rw [upd_ne hc]; exact P.old c u q hc⟩
end L2
namespace L2
open PySem PySem.Spec PyProof.Rows
theorem Pot.free {H0 H:Hp} {p l:Addr} (P:Pot H0 p H) (h:H l=none):H0 l=none:=by
  cases e:H0 l with
  | none=>rfl
  | some o =>
    by_cases hl:l=p
    · obtain ⟨a,b,q⟩:=P.at_
      rw [hl,q] at h
      cases h
    · rw [P.old l o e hl] at h
      cases h
theorem Pot.list {H0 H:Hp} {p l:Addr} {o:HO} (P:Pot H0 p H) (h:H0 l=none) (hl:l≠p):Pot H0 p (upd H l o):=by
  obtain ⟨a,b,e⟩:=P.at_
  exact ⟨⟨a,b,by rw [upd_ne (Ne.symm hl)]; exact e⟩,fun c u q hc=>by rw [upd_ne (ne_of_none q h)]; exact P.old c u q hc⟩
theorem Pot.apart {H0 H:Hp} {p l:Addr} (P:Pot H0 p H) (h:H l=none):l≠p:=by
  obtain ⟨a,b,e⟩:=P.at_
  exact (ne_of_none e h).symm
theorem menu_str {K:PySem.W.Frag} {H:Hp} {l:Addr} {r:Int} {xs:List V} {Q:VK} (h:H l=some (.lst xs)) (r0:0≤r) (r1:r < (xs.length:Int)) (al:∀ v∈xs,∃ x:Str,v=.str x∧0 < x.length∧x.length≤1000)
    (k:∀ x:Str,0 < x.length→x.length≤1000→Q (.str x) H):rIxL K (.ref l) (.int r) H Q:=by
  obtain ⟨v,hv,hm⟩:=atI_lt r0 r1
  obtain ⟨x,rfl,h0,h1⟩:=al v hm
  exact ⟨l,xs,r,_,rfl,rfl,SqL.of h,hv,k x h0 h1⟩
theorem menu_int {K:PySem.W.Frag} {H:Hp} {l:Addr} {r:Int} {xs:List V} {Q:VK} {lo hi:Int} (h:H l=some (.lst xs)) (r0:0≤r) (r1:r < (xs.length:Int)) (al:∀ v∈xs,∃ x:Int,v=.int x∧lo≤x∧x≤hi)
    (k:∀ x:Int,lo≤x→x≤hi→Q (.int x) H):rIxL K (.ref l) (.int r) H Q:=by
  obtain ⟨v,hv,hm⟩:=atI_lt r0 r1
  obtain ⟨x,rfl,h0,h1⟩:=al v hm
  exact ⟨l,xs,r,_,rfl,rfl,SqL.of h,hv,k x h0 h1⟩
theorem join_len {y:Str} (hy:y=⟨#[]⟩) (cs:List Nat):(Str.join y (cs.map fun c=>(⟨#[c]⟩:Str))).length=cs.length:=by
  subst hy
  rw [join_ones]
  simp [Str.length]
theorem join_fits {y:Str} (hy:y=⟨#[]⟩) (cs:List Nat) (h:cs.length≤1000000):((cs.map fun c=>(⟨#[c]⟩:Str)).map (·.length)).sum+(cs.map fun c=>(⟨#[c]⟩:Str)).length * y.length≤16777216:=by
  subst hy
  have e:((cs.map fun c=>(⟨#[c]⟩:Str)).map (·.length)).sum=cs.length:=by
    clear h
    induction cs with
    | nil=>rfl
    | cons c r ih =>
      rw [List.map_cons,List.map_cons,List.sum_cons,ih,List.length_cons]
      show 1+r.length=r.length+1
      omega
  rw [e]
  show cs.length+_ * 0≤_
  omega
noncomputable def sz:List Nat→Int
  | []=>0
  | c :: r=>(if c=32∨c=10 then 0 else 1)+sz r
end L2
set_option Elab.async false
set_option linter.all false
set_option maxRecDepth 100000
set_option maxHeartbeats 4000000
namespace L2
open PySem PySem.Spec PyProof.Rows
theorem bls_at {bs:List Bool} {its:List Value} (r:Vals (bs.map V.bl) its) {i:Nat} {v:Value} (h:its.toArray[i]?=some v):v=.bool (bs.getD i true):=by
  have h':its[i]?=some v:=by simpa using h
  have hl:=r.length
  have hi:i < its.length:=(List.getElem?_eq_some_iff.mp h').1
  have hb:i < bs.length:=by rw [List.length_map] at hl; omega
  obtain ⟨u,hu,ru⟩:=r.get (i:=i) (x:=V.bl bs[i]) (by rw [List.getElem?_map,List.getElem?_eq_getElem hb]; rfl)
  rw [h'] at hu
  cases hu
  have e:bs.getD i true=bs[i]:=by rw [List.getD_eq_getElem?_getD,List.getElem?_eq_getElem hb]; rfl
  rw [e]
  exact ru
theorem all_range (bs:List Bool):(List.range bs.length).all (fun i=>bs.getD i true)=bs.all id:=by
  rw [Bool.eq_iff_iff,List.all_eq_true,List.all_eq_true]
  constructor
  · intro h b hb
    obtain ⟨i,hi,e⟩:=List.getElem_of_mem hb
    have q:=h i (List.mem_range.mpr hi)
    rw [List.getD_eq_getElem?_getD,List.getElem?_eq_getElem hi] at q
    rw [← e]
    exact q
  · intro h i hi
    have hi':=List.mem_range.mp hi
    rw [List.getD_eq_getElem?_getD,List.getElem?_eq_getElem hi']
    exact h _ (List.getElem_mem hi')
theorem call_allB {X:Cx} (hc:X.calm=true):CallR X (.builtin "all") (fun xs H Q=>∃ (l:Addr) (bs:List Bool),xs=[.ref l]∧SqL X.K H l (bs.map V.bl)∧Q (.bl (bs.all id)) H):=by
  intro pins s σ H xs us Q I r h
  obtain ⟨l,bs,rfl,hq,q⟩:=h
  obtain ⟨u,rfl,ru⟩:=vals1 r
  cases ru
  obtain ⟨its,rv,p,hz⟩:=I.list hq
  have hd:X.A.in1.handled=none:=I.ok.hd hc
  have hl:=rv.length
  refine call_all_walk (wpAny_pyIter_list p.isList ?_)
  obtain ⟨o,n,eo,_⟩:=id p
  have hne:l≠s.heap.objs.size:=Nat.ne_of_lt (Heap.lt_size eo)
  refine ⟨s.heap.objs.size,_,_,_,_,_,fun i=>bs.getD i true,rfl,Walks.list hd s.heap.objs.size l hne its.toArray,⟨⟨_,Heap.get?_push_size _ rfl,rfl,rfl⟩,p.isList.push _⟩,fun i v s' Q' E' hv hQ'=>?_,fun h' tk hk=>?_⟩
  · rw [bls_at rv hv]
    exact wpAny_truthy_bool hQ'
  · have e:its.toArray.size=bs.length:=by rw [List.size_toArray,← hl,List.length_map]
    rw [e,all_range]
    have I1:Inv X pins σ H { s with heap:=s.heap.push { cls:=.type "list_iterator",data:=.fields #[.ref l,.int 0 0] } }:=I.kept (t':=s.toks) fun b o q=>Heap.get?_push_of_some _ q
    obtain ⟨f0,f1,f2,f3,f4,f5⟩:=I.fpOk (b:=s.heap.objs.size) (Nat.le_refl _) I.fresh
    exact ⟨.bl _,H,I1.turned (it:=s.heap.objs.size) (fun b o hb e=>hk b o (by simpa using hb) e) f0 f1 f3 f4 f5,rfl,q⟩
theorem kit_str_tuple (K:PySem.W.Frag):PySem.W.kitOne K (.type "str") (.type "tuple")=some false:=kit_tt K (by decide +kernel)
theorem kit_str_bool (K:PySem.W.Frag):PySem.W.kitOne K (.type "str") (.type "bool")=some false:=kit_tt K (by decide +kernel)
theorem kit_str_str (K:PySem.W.Frag):PySem.W.kitOne K (.type "str") (.type "str")=some true:=kit_tt K (by decide +kernel)
theorem kit_bool_tuple (K:PySem.W.Frag):PySem.W.kitOne K (.type "bool") (.type "tuple")=some false:=kit_tt K (by decide +kernel)
theorem kit_bool_bool (K:PySem.W.Frag):PySem.W.kitOne K (.type "bool") (.type "bool")=some true:=kit_tt K (by decide +kernel)
theorem kit_tuple_tuple (K:PySem.W.Frag):PySem.W.kitOne K (.type "tuple") (.type "tuple")=some true:=kit_tt K (by decide +kernel)
noncomputable def isNm (x:Str):Bool:=decide (1≤x.length) && decide (x.length≤8) && x.cps.toList.all fun c=>decide (97≤c∧c≤122)
end L2
set_option Elab.async false
set_option linter.all false
set_option maxRecDepth 100000
set_option maxHeartbeats 4000000
namespace ZT
open PySem
open Sem (wp)
section
variable {prog:Program} {w:World} {A:Around} {E:Value→Shared→Prop} {s:Shared}
theorem tup_item {it t:Addr} {i:Nat} {its:Array Value} {x:Value} {Q:Value→Shared→Prop} (ti:s.heap.IsTupleIter it t i) (tt:s.heap.IsTuple t its) (tx:its[i]?=some x)
    (k:∀ g,g.IsTupleIter it t (i+1)→Heap.SameBut it s.heap g→Q x { s with heap:=g }):wpAny (model prog w) A (Builtin.SmallTypes.nextOf (.ref it)) Q E s:=by
  obtain ⟨o,eo,ec,ed⟩:=id ti
  obtain ⟨ol,el,_,nl,dl⟩:=tt
  unfold Builtin.SmallTypes.nextOf
  refine wpAny_bind (wpAny_callSpecial?_slot (name:=Str.ofString "__next__") ti.typeIs F.slot_tuple_iterator_next (wpAny_call_entry F.slot_tuple_iterator_next ti.typeIs F.entry_tuple_iterator_next ?_ (F.args_tuple_iterator_next_1 _)))
  show wpAny _ _ (field (.ref it) 0 >>= _) _ _ s
  refine wpAny_bind (wpAny_field eo ed (x:=.ref t) rfl ?_)
  show wpAny _ _ (if (Value.ref t == Value.none)=true then _ else _) _ _ s
  rw [if_neg (by intro z; cases z)]
  show wpAny _ _ (field (.ref it) 1 >>= _) _ _ s
  refine wpAny_bind (wpAny_field eo ed (x:=.int i 0) rfl ?_)
  show wpAny _ _ (seqItems? (.ref t) >>= _) _ _ s
  refine wpAny_bind (wpAny_seqItems el dl ?_)
  simp only [Int.toNat_natCast,tx]
  refine wpAny_bind (wpAny_setField eo ed (by simp) (wpAny_pure ⟨x,rfl,wpAny_pure (k _ ?_ (Heap.SameBut.update ..))⟩))
  refine ⟨_,Heap.get?_update_self _ eo (Obj.isFreed_of_fields (Obj.data_mapFields ed _)),(Obj.cls_mapFields ..).trans ec,?_⟩
  rw [Obj.data_mapFields ed]
  simp [rawInt]
theorem tup_end {it t:Addr} {i:Nat} {its:Array Value} {Q:Value→Shared→Prop} (hd:A.handled=none) (ti:s.heap.IsTupleIter it t i) (tt:s.heap.IsTuple t its) (tx:its[i]?=none)
    (k:∀ g e,Heap.ExtBut it s.heap g→(∃ o,g.get? e=some o∧o.cls=.type "StopIteration")→E (.ref e) { s with heap:=g }):wpAny (model prog w) A (Builtin.SmallTypes.nextOf (.ref it)) Q E s:=by
  obtain ⟨o,eo,ec,ed⟩:=id ti
  obtain ⟨ol,el,_,nl,dl⟩:=tt
  unfold Builtin.SmallTypes.nextOf
  refine wpAny_bind (wpAny_callSpecial?_slot (name:=Str.ofString "__next__") ti.typeIs F.slot_tuple_iterator_next (wpAny_call_entry F.slot_tuple_iterator_next ti.typeIs F.entry_tuple_iterator_next ?_ (F.args_tuple_iterator_next_1 _)))
  show wpAny _ _ (field (.ref it) 0 >>= _) _ _ s
  refine wpAny_bind (wpAny_field eo ed (x:=.ref t) rfl ?_)
  show wpAny _ _ (if (Value.ref t == Value.none)=true then _ else _) _ _ s
  rw [if_neg (by intro z; cases z)]
  show wpAny _ _ (field (.ref it) 1 >>= _) _ _ s
  refine wpAny_bind (wpAny_field eo ed (x:=.int i 0) rfl ?_)
  show wpAny _ _ (seqItems? (.ref t) >>= _) _ _ s
  refine wpAny_bind (wpAny_seqItems el dl ?_)
  simp only [Int.toNat_natCast,tx]
  refine wpAny_bind (wpAny_rule (wpAny_bind (wpAny_setField eo ed (by simp) ?_)))
  show wpAny _ _ (newExc (.type "StopIteration") [] >>= _) _ _ _
  refine wpAny_bind ?_
  simp only [newExc,newTuple]
  refine wpAny_bind (wpAny_newObj_type ?_ (by size_fits))
  refine wpAny_bind (m:=firstArgMember _ _) (wpAny_of_eq (a:=Value.none) (by first | rfl | (simp only [firstArgMember]; rfl)) ?_)
  refine wpAny_newObj_type ?_ (by size_fits)
  simp only [raiseNew]
  refine wpAny_bind (wpAny_handled ?_)
  first | rw [show A.in1.handled=none from hd] | rw [hd]
  refine wpAny_bind (wpAny_pure (wpAny_throw ?_))
  exact k _ _ (((Heap.SameBut.update ..).extBut.push _).push _) ⟨_,Heap.get?_push_size _ rfl,rfl⟩
structure Apart (z TI TO i1 i2 t1 t2:Addr):Prop where
  a1:TI≠z
  a2:TO≠z
  a3:i1≠z
  a4:i2≠z
  b1:TI≠TO
  b2:TI≠i1
  b3:TI≠i2
  b4:TO≠i1
  b5:TO≠i2
  b6:i1≠i2
  c1:t1≠z
  c2:t1≠TO
  c3:t1≠i1
  c4:t1≠i2
  d1:t2≠z
  d2:t2≠TO
  d3:t2≠i1
  d4:t2≠i2
theorem zip_item {z TI TO i1 i2 t1 t2:Addr} {n1 n2:Nat} {us vs:Array Value} {x y a b:Value} {Q:Value→Shared→Prop} (D:Apart z TI TO i1 i2 t1 t2) (zz:IsZip s.heap z TI TO .none) (zi:IsPair s.heap TI (.ref i1) (.ref i2)) (zo:IsPair s.heap TO a b)
    (r1:s.heap.IsTupleIter i1 t1 n1) (r2:s.heap.IsTupleIter i2 t2 n2) (u1:s.heap.IsTuple t1 us) (u2:s.heap.IsTuple t2 vs) (x1:us[n1]?=some x) (x2:vs[n2]?=some y)
    (k:∀ g,IsZip g z TI TO (rawInt s.heap.objs.size)→IsPair g TO x y→g.IsTupleIter i1 t1 (n1+1)→g.IsTupleIter i2 t2 (n2+1)→IsPair g s.heap.objs.size x y→g.objs.size=s.heap.objs.size+1 →
      (∀ c o,c≠z→c≠TO→c≠i1→c≠i2→s.heap.get? c=some o→g.get? c=some o)→Q (.ref s.heap.objs.size) { s with heap:=g }) :
    wpAny (model prog w) A (Builtin.«zip.__next__» ⟨[.ref z],[]⟩) (fun fin s'=>∃ v,fin=.done (.ret v)∧Q v s') E s:=by
  show wpAny _ _ (field (.ref z) 2 >>= _) _ _ _
  refine wpAny_bind (wpAny_field zz rfl (x:=.bool false) rfl ?_)
  show wpAny _ _ (field (.ref z) 3 >>= _) _ _ _
  refine wpAny_bind (wpAny_field zz rfl (x:=.ref TI) rfl ?_)
  refine wpAny_bind (wpAny_seqItems zi rfl ?_)
  show wpAny _ _ (Builtin.SmallTypes.ownedTupleIsFree (.ref z) >>= _) _ _ _
  refine wpAny_bind ?_
  unfold Builtin.SmallTypes.ownedTupleIsFree
  refine wpAny_bind (wpAny_field zz rfl (x:=.none) rfl (wpAny_pure ?_))
  simp only [if_true]
  refine wpAny_bind (wpAny_rule ?_)
  refine wpAny_bind (wpAny_field zz rfl (x:=.ref TO) rfl ?_)
  refine wpAny_bind (wpAny_setField_rec zz (by simp) fun g1 zg1 s1=>?_)
  replace zg1:IsZip g1 z TI TO .ellipsis:=zg1
  refine wpAny_bind ?_
  simp only [List.zipIdx_cons,List.zipIdx_nil,List.forIn_cons,List.forIn_nil]
  refine wpAny_bind (wpAny_bind (wpAny_onRaise ?_))
  show wpAny _ _ (Builtin.SmallTypes.nextOf (.ref i1) >>= _) _ _ _
  refine wpAny_bind (tup_item (r1.extBut s1.extBut D.a3) (u1.extBut s1.extBut D.c1) x1 fun g2 rg2 s2=>wpAny_pure ?_)
  have zo2:IsPair g2 TO a b:=s2.extBut _ _ D.b4 (s1.extBut _ _ D.a2 zo)
  refine wpAny_bind (wpAny_seqItems zo2 rfl ?_)
  refine wpAny_bind (wpAny_updateSeq_pair zo2 fun g3 zo3 s3=>?_)
  replace zo3:IsPair g3 TO x b:=zo3
  refine wpAny_bind (wpAny_letGo (wpAny_pure ?_))
  refine wpAny_bind (wpAny_bind (wpAny_onRaise ?_))
  show wpAny _ _ (Builtin.SmallTypes.nextOf (.ref i2) >>= _) _ _ _
  refine wpAny_bind (tup_item (((r2.extBut s1.extBut D.a4).extBut s2.extBut D.b6.symm).extBut s3.extBut D.b5.symm) (((u2.extBut s1.extBut D.d1).extBut s2.extBut D.d3).extBut s3.extBut D.d2) x2 fun g4 rg4 s4=>wpAny_pure ?_)
  have zo4:IsPair g4 TO x b:=s4.extBut _ _ D.b5 zo3
  refine wpAny_bind (wpAny_seqItems zo4 rfl ?_)
  refine wpAny_bind (wpAny_updateSeq_pair zo4 fun g5 zo5 s5=>?_)
  replace zo5:IsPair g5 TO x y:=zo5
  refine wpAny_bind (wpAny_letGo (wpAny_pure (wpAny_pure ?_)))
  refine wpAny_bind (wpAny_seqItems zo5 rfl ?_)
  refine wpAny_bind (wpAny_newTuple ?_)
  have sz:g5.objs.size=s.heap.objs.size:=by rw [s5.1,s4.1,s3.1,s2.1,s1.1]
  have zg5:IsZip g5 z TI TO .ellipsis:=s5.extBut _ _ D.a2.symm (s4.extBut _ _ D.a4.symm (s3.extBut _ _ D.a2.symm (s2.extBut _ _ D.a3.symm zg1)))
  have kk:∀ c o,c≠z→c≠TO→c≠i1→c≠i2→s.heap.get? c=some o→g5.get? c=some o:=fun c o e1 e2 e3 e4 e =>
    s5.extBut _ _ e2 (s4.extBut _ _ e4 (s3.extBut _ _ e2 (s2.extBut _ _ e3 (s1.extBut _ _ e1 e))))
  have rg5:g5.IsTupleIter i1 t1 (n1+1):=((rg2.extBut s3.extBut D.b4.symm).extBut s4.extBut D.b6).extBut s5.extBut D.b4.symm
  have qg5:g5.IsTupleIter i2 t2 (n2+1):=rg4.extBut s5.extBut D.b5.symm
  have lz:z < g5.objs.size:=Heap.lt_size zg5
  show wpAny _ _ (Builtin.SmallTypes.ownedTupleHandOut (.ref z) (.ref g5.objs.size) >>= _) _ _ _
  refine wpAny_bind ?_
  unfold Builtin.SmallTypes.ownedTupleHandOut
  have zg6:IsZip (g5.push { cls:=.type "tuple",data:=.seq #[x,y] }) z TI TO .ellipsis:=Heap.get?_push_of_some _ zg5
  refine wpAny_bind (wpAny_setField_rec zg6 (by simp) fun g7 zg7 s7=>?_)
  replace zg7:IsZip g7 z TI TO (rawInt g5.objs.size):=zg7
  refine wpAny_setField_rec zg7 (by simp) fun g8 zg8 s8=>?_
  replace zg8:IsZip g8 z TI TO (rawInt g5.objs.size):=zg8
  have up:∀ c o,c≠z→g5.get? c=some o→g8.get? c=some o:=fun c o e1 e=>s8.extBut _ _ e1 (s7.extBut _ _ e1 (Heap.get?_push_of_some _ e))
  have pg8:IsPair g8 g5.objs.size x y:=s8.extBut _ _ (Nat.ne_of_gt lz) (s7.extBut _ _ (Nat.ne_of_gt lz) (Heap.get?_push_size _ rfl))
  have sz8:g8.objs.size=g5.objs.size+1:=by rw [s8.1,s7.1,Heap.size_push]
  rw [sz] at zg8 pg8 sz8
  refine wpAny_pure ⟨_,rfl,?_⟩
  show Q (.ref g5.objs.size) _
  rw [sz]
  obtain ⟨o1,eo1,q1⟩:=rg5
  obtain ⟨o2,eo2,q2⟩:=qg5
  exact k g8 zg8 (up _ _ D.a2 zo5) ⟨o1,up _ _ D.a3 eo1,q1⟩ ⟨o2,up _ _ D.a4 eo2,q2⟩ pg8 sz8 fun c o e1 e2 e3 e4 e=>up c o e1 (kk c o e1 e2 e3 e4 e)
theorem zip_end {z TI TO i1 i2 t1 t2:Addr} {n1:Nat} {us:Array Value} {a b:Value} {Q:Fin→Shared→Prop} (hd:A.handled=none) (D:Apart z TI TO i1 i2 t1 t2) (zz:IsZip s.heap z TI TO .none) (zi:IsPair s.heap TI (.ref i1) (.ref i2)) (zo:IsPair s.heap TO a b)
    (r1:s.heap.IsTupleIter i1 t1 n1) (u1:s.heap.IsTuple t1 us) (x1:us[n1]?=none)
    (k:∀ g e,(∀ c o,c≠z→c≠TO→c≠i1→c≠i2→s.heap.get? c=some o→g.get? c=some o)→(∃ o,g.get? e=some o∧o.cls=.type "StopIteration")→E (.ref e) { s with heap:=g }) :
    wpAny (model prog w) A (Builtin.«zip.__next__» ⟨[.ref z],[]⟩) Q E s:=by
  show wpAny _ _ (field (.ref z) 2 >>= _) _ _ _
  refine wpAny_bind (wpAny_field zz rfl (x:=.bool false) rfl ?_)
  show wpAny _ _ (field (.ref z) 3 >>= _) _ _ _
  refine wpAny_bind (wpAny_field zz rfl (x:=.ref TI) rfl ?_)
  refine wpAny_bind (wpAny_seqItems zi rfl ?_)
  show wpAny _ _ (Builtin.SmallTypes.ownedTupleIsFree (.ref z) >>= _) _ _ _
  refine wpAny_bind ?_
  unfold Builtin.SmallTypes.ownedTupleIsFree
  refine wpAny_bind (wpAny_field zz rfl (x:=.none) rfl (wpAny_pure ?_))
  simp only [if_true]
  refine wpAny_bind (wpAny_rule ?_)
  refine wpAny_bind (wpAny_field zz rfl (x:=.ref TO) rfl ?_)
  refine wpAny_bind (wpAny_setField_rec zz (by simp) fun g1 zg1 s1=>?_)
  replace zg1:IsZip g1 z TI TO .ellipsis:=zg1
  refine wpAny_bind ?_
  simp only [List.zipIdx_cons,List.zipIdx_nil,List.forIn_cons,List.forIn_nil]
  refine wpAny_bind (wpAny_bind (wpAny_onRaise ?_))
  show wpAny _ _ (Builtin.SmallTypes.nextOf (.ref i1) >>= _) _ _ _
  refine wpAny_bind (tup_end hd (r1.extBut s1.extBut D.a3) (u1.extBut s1.extBut D.c1) x1 fun g2 e s2 he=>?_)
  obtain ⟨oe,eoe,ece⟩:=he
  have zg2:IsZip g2 z TI TO .ellipsis:=s2 _ _ D.a3.symm zg1
  have nez:e≠z:=fun q=>by subst q; rw [zg2] at eoe; cases eoe; simp at ece
  exact wpAny_setField_rec zg2 (by simp) fun g3 _ s3=>k g3 e (fun c o e1 _ e3 _ q=>s3.extBut _ _ e1 (s2 _ _ e3 (s1.extBut _ _ e1 q))) ⟨oe,s3.extBut _ _ nez eoe,ece⟩
theorem next_item {z TI TO i1 i2 t1 t2:Addr} {n1 n2:Nat} {us vs:Array Value} {x y a b:Value} {Q:Option Value→Shared→Prop} (D:Apart z TI TO i1 i2 t1 t2) (zz:IsZip s.heap z TI TO .none) (zi:IsPair s.heap TI (.ref i1) (.ref i2)) (zo:IsPair s.heap TO a b)
    (r1:s.heap.IsTupleIter i1 t1 n1) (r2:s.heap.IsTupleIter i2 t2 n2) (u1:s.heap.IsTuple t1 us) (u2:s.heap.IsTuple t2 vs) (x1:us[n1]?=some x) (x2:vs[n2]?=some y)
    (k:∀ g,IsZip g z TI TO (rawInt s.heap.objs.size)→IsPair g TO x y→g.IsTupleIter i1 t1 (n1+1)→g.IsTupleIter i2 t2 (n2+1)→IsPair g s.heap.objs.size x y→g.objs.size=s.heap.objs.size+1 →
      (∀ c o,c≠z→c≠TO→c≠i1→c≠i2→s.heap.get? c=some o→g.get? c=some o)→Q (some (.ref s.heap.objs.size)) { s with heap:=g }) :
    wpAny (model prog w) A (pyNext (.ref z)) Q E s:=by
  have tz:s.TypeIs (.ref z) "zip":=⟨_,zz,rfl⟩
  unfold pyNext
  exact wpAny_bind (wpAny_attempt (wpAny_callSpecial?_slot (name:=Str.ofString "__next__") tz F.slot_zip_next (wpAny_call_entry F.slot_zip_next tz F.entry_zip_next
    (zip_item D zz zi zo r1 r2 u1 u2 x1 x2 fun g p1 p2 p3 p4 p5 p6 p7=>wpAny_pure (k g p1 p2 p3 p4 p5 p6 p7)) (F.args_zip_next_1 _))))
theorem next_end {z TI TO i1 i2 t1 t2:Addr} {n1:Nat} {us:Array Value} {a b:Value} {Q:Option Value→Shared→Prop} (hd:A.handled=none) (D:Apart z TI TO i1 i2 t1 t2) (zz:IsZip s.heap z TI TO .none) (zi:IsPair s.heap TI (.ref i1) (.ref i2)) (zo:IsPair s.heap TO a b)
    (r1:s.heap.IsTupleIter i1 t1 n1) (u1:s.heap.IsTuple t1 us) (x1:us[n1]?=none)
    (k:∀ g,(∀ c o,c≠z→c≠TO→c≠i1→c≠i2→s.heap.get? c=some o→g.get? c=some o)→Q none { s with heap:=g }):wpAny (model prog w) A (pyNext (.ref z)) Q E s:=by
  have tz:s.TypeIs (.ref z) "zip":=⟨_,zz,rfl⟩
  unfold pyNext
  refine wpAny_bind (wpAny_attempt (wpAny_callSpecial?_slot (name:=Str.ofString "__next__") tz F.slot_zip_next (wpAny_call_entry F.slot_zip_next tz F.entry_zip_next (zip_end hd D zz zi zo r1 u1 x1 fun g e kk he=>?_) (F.args_zip_next_1 _))))
  obtain ⟨o,eo,ec⟩:=he
  exact wpAny_bind (wpAny_isInstance (T:="StopIteration") (b:=true) ⟨o,eo,ec⟩ isSubtype_stop (wpAny_pure (k _ kk)))
end
noncomputable abbrev zh1 (h:Heap) (t1:Addr):Heap:=h.push { cls:=.type "tuple_iterator",data:=.fields #[.ref t1,.int 0 0] }
noncomputable abbrev zh2 (h:Heap) (t1 t2:Addr):Heap:=(zh1 h t1).push { cls:=.type "tuple_iterator",data:=.fields #[.ref t2,.int 0 0] }
noncomputable abbrev zh3 (h:Heap) (t1 t2:Addr):Heap:=(zh2 h t1 t2).push { cls:=.type "tuple",data:=.seq #[.ref h.objs.size,.ref (zh1 h t1).objs.size] }
noncomputable abbrev zh4 (h:Heap) (t1 t2:Addr):Heap:=(zh3 h t1 t2).push { cls:=.type "tuple",data:=.seq #[.none,.none] }
noncomputable abbrev zh5 (h:Heap) (t1 t2:Addr):Heap:=(zh4 h t1 t2).push { cls:=.type "zip",data:=.fields #[.none,.bool false,.bool false,.ref (zh2 h t1 t2).objs.size,.ref (zh3 h t1 t2).objs.size] }
theorem zip_new (t1 t2:Addr) (us vs:Array Value):Meets (Builtin.«zip.__new__» ⟨[.type "zip",.ref t1,.ref t2],[]⟩) (fun _ R s=>s.heap.IsTuple t1 us∧s.heap.IsTuple t2 vs ∧
      R (.ok (.ret (.ref (zh4 s.heap t1 t2).objs.size))) { s with heap:=zh5 s.heap t1 t2 }) :=
  .of_wp fun prog w A R s h=>by
    obtain ⟨hp,g,d,tk,os⟩:=s; obtain ⟨u1,u2,h⟩:=h
    have hsub:=sub_zip
    have v1:Heap.IsTuple (Shared.heap ⟨hp,g,d,tk,os⟩) t1 us:=u1
    have v2:Heap.IsTuple (Shared.heap ⟨zh1 hp t1,g,d,tk,os⟩) t2 vs:=Heap.IsTuple.push u2 _
    wp_walk using wpAny_pyIter_tuple v1,wpAny_pyIter_tuple v2
    exact ⟨_,rfl,h⟩
theorem call_zip {prog:Program} {w:World} {A:Around} {E:Value→Shared→Prop} {s:Shared} {t1 t2:Addr} {us vs:Array Value} {Q:Value→Shared→Prop} (u1:s.heap.IsTuple t1 us) (u2:s.heap.IsTuple t2 vs)
    (k:∀ g,IsZip g (s.heap.objs.size+4) (s.heap.objs.size+2) (s.heap.objs.size+3) .none→IsPair g (s.heap.objs.size+2) (.ref s.heap.objs.size) (.ref (s.heap.objs.size+1))→IsPair g (s.heap.objs.size+3) .none .none →
      g.IsTupleIter s.heap.objs.size t1 0→g.IsTupleIter (s.heap.objs.size+1) t2 0→g.objs.size=s.heap.objs.size+5→(∀ c o,s.heap.get? c=some o→g.get? c=some o)→Q (.ref (s.heap.objs.size+4)) { s with heap:=g }) :
    wpAny (model prog w) A (call (.type "zip") [.ref t1,.ref t2]) Q E s:=by
  refine callType_new F.called_zip (by decide) (F.typeCall_zip_2 _ _) (F.newCall_zip_2 _ _) (fun obj=>F.args_object_init_3 obj _ _) F.entry_zip_new (zip_new t1 t2 us vs) ⟨u1,u2,?_⟩
  have n1:(zh1 s.heap t1).objs.size=s.heap.objs.size+1:=Heap.size_push ..
  have n2:(zh2 s.heap t1 t2).objs.size=s.heap.objs.size+2:=by rw [Heap.size_push,n1]
  have n3:(zh3 s.heap t1 t2).objs.size=s.heap.objs.size+3:=by rw [Heap.size_push,n2]
  have n4:(zh4 s.heap t1 t2).objs.size=s.heap.objs.size+4:=by rw [Heap.size_push,n3]
  have n5:(zh5 s.heap t1 t2).objs.size=s.heap.objs.size+5:=by rw [Heap.size_push,n4]
  have p5:(zh5 s.heap t1 t2).get? (zh4 s.heap t1 t2).objs.size=some _:=Heap.get?_push_size _ rfl
  have p4:(zh5 s.heap t1 t2).get? (zh3 s.heap t1 t2).objs.size=some _:=Heap.get?_push_of_some _ (Heap.get?_push_size _ rfl)
  have p3:(zh5 s.heap t1 t2).get? (zh2 s.heap t1 t2).objs.size=some _:=Heap.get?_push_of_some _ (Heap.get?_push_of_some _ (Heap.get?_push_size _ rfl))
  have p2:(zh5 s.heap t1 t2).get? (zh1 s.heap t1).objs.size=some _:=Heap.get?_push_of_some _ (Heap.get?_push_of_some _ (Heap.get?_push_of_some _ (Heap.get?_push_size _ rfl)))
  have p1:(zh5 s.heap t1 t2).get? s.heap.objs.size=some _:=Heap.get?_push_of_some _ (Heap.get?_push_of_some _ (Heap.get?_push_of_some _ (Heap.get?_push_of_some _ (Heap.get?_push_size _ rfl))))
  show _∧_
  rw [n2,n3,n4] at p5
  rw [n1,n2] at p3
  rw [n3] at p4
  rw [n1] at p2
  rw [n4]
  exact ⟨⟨_,p5,rfl⟩,k _ p5 p3 p4 ⟨_,p1,rfl,rfl⟩ ⟨_,p2,rfl,rfl⟩ n5 fun c o q=>Heap.get?_push_of_some _ (Heap.get?_push_of_some _ (Heap.get?_push_of_some _ (Heap.get?_push_of_some _ (Heap.get?_push_of_some _ q))))⟩
end ZT
set_option Elab.async false
set_option linter.all false
set_option maxRecDepth 100000
set_option maxHeartbeats 4000000
namespace L2
open PySem PySem.Spec PyProof.Rows
section
variable {X:Cx} {pins:List (Addr × Obj)} {σ:St} {H:Hp} {s:Shared} {h':Heap} {t':Nat} {ch:List Addr}
theorem Inv.turnedL (I:Inv X pins σ H s) (k:∀ b o,b ∉ ch→s.heap.get? b=some o→h'.get? b=some o) (f:∀ b∈ch,FpOk X pins H b):Inv X pins σ H { s with heap:=h',toks:=t' }:=by
  refine I.step (g':=s.gens) (d':=s.drawn) (ch:=ch) (fun b hb=>?_) (fun b o _ _ hc q _=>k b o hc q) (fun b o _ _ hc q _=>⟨o.slots,k b o hc q⟩) (fun b o _ q n=>n)
    (fun b o hc q=>⟨o,k b o hc q⟩) (fun b ys q=>q) (fun b o u q=>q) (fun b ps q=>⟨#[],by rw [q]; simp⟩) (fun m hm=>?_) (fun b u q=>?_) I.bare
  · have fe:=f b hb
    exact ⟨fe.2.2.2.1,fe.2.1,fe.2.2.2.2.1,fe.2.2.2.2.2⟩
  · obtain ⟨o,es,ep,ho,r⟩:=hm
    exact ⟨o,es,ep,k _ o (fun z=>(f _ z).2.1 rfl) ho,r⟩
  · refine (I.hok b u q).stay (fun c v hc q'=>k c v (fun z=>?_) q') (fun _ q'=>q') fun _ _ q'=>q'
    have fz:=(f c z).1
    rcases hc with e | e
    · rw [e,q] at fz; cases fz
    · rw [e] at fz; cases fz
theorem Inv.turnedLT {xs:List V} {its:List Value} (I:Inv X pins σ H s) (k:∀ b o,b ∉ ch→s.heap.get? b=some o→h'.get? b=some o) (f:∀ b∈ch,FpOk X pins H b) (hv:Vals xs its) (hz:xs.length≤sizeLine)
    (hn:h'.get? s.heap.objs.size=some { cls:=.type "tuple",data:=.seq its.toArray }):Inv X pins σ (upd H s.heap.objs.size (.tup xs)) { s with heap:=h',toks:=t' }:=by
  have fr:H s.heap.objs.size=none:=I.fresh
  have nel:∀ b o,s.heap.get? b=some o→b≠s.heap.objs.size:=fun b o q=>Nat.ne_of_lt (Heap.lt_size q)
  refine I.step (g':=s.gens) (d':=s.drawn) (ch:=ch) (fun b hb=>?_) (fun b o _ _ hc q _=>k b o hc q) (fun b o _ _ hc q _=>⟨o.slots,k b o hc q⟩) (fun b o _ q n=>by rw [upd_ne (nel b o q)]; exact n)
    (fun b o hc q=>⟨o,k b o hc q⟩) (fun b ys q=>by rw [upd_ne (ne_of_none q fr)]; exact q) (fun b o u q=>by rw [upd_ne (ne_of_none q fr)]; exact q) (fun b ps q=>⟨#[],by rw [upd_ne (ne_of_none q fr),q]; simp⟩) (fun m hm=>?_) (fun b u q=>?_) I.bare
  · have fe:=f b hb
    exact ⟨fe.2.2.2.1,fe.2.1,fe.2.2.2.2.1,fe.2.2.2.2.2⟩
  · obtain ⟨o,es,ep,ho,r⟩:=hm
    exact ⟨o,es,ep,k _ o (fun z=>(f _ z).2.1 rfl) ho,r⟩
  · by_cases hb:b=s.heap.objs.size
    · subst hb
      rw [upd_same] at q
      cases q
      exact ⟨hz,its,hv,_,hn,rfl,_,rfl⟩
    · rw [upd_ne hb] at q
      refine (I.hok b u q).stay (fun c v hc q'=>k c v (fun z=>?_) q') (fun c q'=>by rw [upd_ne (ne_of_none q' fr)]; exact q') fun c ys q'=>by rw [upd_ne (ne_of_none q' fr)]; exact q'
      have fz:=(f c z).1
      rcases hc with e | e
      · rw [e,q] at fz; cases fz
      · rw [e] at fz; cases fz
end
theorem ne_nat {a b:Nat} (h:a < b∨b < a):@Ne Addr a b:=fun e=>by
  have e':@Eq Nat a b:=e
  omega
noncomputable def Itz (K:PySem.W.Frag) (a b:Addr):It :=
  ⟨fun i H=>∃ xs ys x y,SqT K H a xs∧SqT K H b ys∧xs[i]?=some x∧ys[i]?=some y,
   fun i H v H'=>∃ t x y,v=.ref t∧H t=none∧H'=upd H t (.tup [x,y])∧(∀ xs,SqT K H a xs→xs[i]?=some x)∧∀ ys,SqT K H b ys→ys[i]?=some y,
   fun i H=>∃ xs,SqT K H a xs∧xs.length≤i⟩
theorem turn_zip {P:Program} {w:World} {K:PySem.W.Frag} {elts:List Expr} {k1:Nat} {p1:Pos} (a b z TI TO i1 i2:Addr) (D:ZT.Apart z TI TO i1 i2 a b) :
    Turn P w K (.Tuple elts k1 p1) (Itz K a b) [z,TI,TO,i1,i2] z (fun i h=>IsZip h z TI TO .none∧IsPair h TI (.ref i1) (.ref i2)∧(∃ u v,IsPair h TO u v)∧h.IsTupleIter i1 a i∧h.IsTupleIter i2 b i) where
  mem:=by simp
  obj:=fun i h st c hc=>by
    obtain ⟨z1,z2,⟨u,v,z3⟩,⟨o1,e1,c1,d1⟩,⟨o2,e2,c2,d2⟩⟩:=st
    have hc':c=z∨c=TI∨c=TO∨c=i1∨c=i2:=by simpa using hc
    rcases hc' with rfl | rfl | rfl | rfl | rfl
    · exact ⟨_,z1,fun v q=>by have q':Data.fields _=Data.cell v:=q; cases q'⟩
    · exact ⟨_,z2,fun v q=>by have q':Data.seq _ _=Data.cell v:=q; cases q'⟩
    · exact ⟨_,z3,fun v q=>by have q':Data.seq _ _=Data.cell v:=q; cases q'⟩
    · exact ⟨o1,e1,fun v q=>by rw [d1] at q; cases q⟩
    · exact ⟨o2,e2,fun v q=>by rw [d2] at q; cases q⟩
  keep:=fun i h h' st k=>by
    obtain ⟨z1,z2,⟨u,v,z3⟩,⟨o1,e1,r1⟩,⟨o2,e2,r2⟩⟩:=st
    exact ⟨k z (by simp) _ z1,k TI (by simp) _ z2,⟨u,v,k TO (by simp) _ z3⟩,⟨o1,k i1 (by simp) _ e1,r1⟩,⟨o2,k i2 (by simp) _ e2,r2⟩⟩
  item:=by
    intro X hP hw hK hc i pins s σ H E I hf st hg
    subst hP hw hK
    obtain ⟨xs,ys,x,y,ha,hb,hx,hy⟩:=hg
    obtain ⟨z1,z2,⟨u,v,z3⟩,r1,r2⟩:=st
    obtain ⟨ita,va,pa,_⟩:=I.tuple ha
    obtain ⟨itb,vb,pb,_⟩:=I.tuple hb
    obtain ⟨ux,eux,rx⟩:=va.get hx
    obtain ⟨uy,euy,ry⟩:=vb.get hy
    refine ZT.next_item D z1 z2 z3 r1 r2 (show s.heap.IsTuple a ita.toArray from pa) (show s.heap.IsTuple b itb.toArray from pb) (x:=ux) (y:=uy) (by simpa using eux) (by simpa using euy) fun g g1 g2 g3 g4 g5 g6 g7=>?_
    refine ⟨_,rfl,wpAny_letOwnedTupleGo_zip g1 fun g' q1 q2=>?_⟩
    have q2':Heap.SameBut z g g':=q2
    have lz:z < s.heap.objs.size:=Heap.lt_size z1
    have I1:Inv X pins σ (upd H s.heap.objs.size (.tup [x,y])) { s with heap:=g',toks:=s.toks } :=
      I.turnedLT (ch:=[z,TO,i1,i2]) (its:=[ux,uy]) (fun c o hc q=>by
        have hc':¬ (c=z∨c=TO∨c=i1∨c=i2):=by simpa using hc
        exact q2'.extBut c o (fun e=>hc' (.inl e)) (g7 c o (fun e=>hc' (.inl e)) (fun e=>hc' (.inr (.inl e))) (fun e=>hc' (.inr (.inr (.inl e)))) (fun e=>hc' (.inr (.inr (.inr e)))) q))
        (fun c hc=>hf c (by
          have hc':c=z∨c=TO∨c=i1∨c=i2:=by simpa using hc
          rcases hc' with rfl | rfl | rfl | rfl <;> simp)) (.cons rx (.cons ry .nil)) (by show 2≤sizeLine; decide) (q2'.extBut _ _ (Nat.ne_of_gt lz) g5)
    obtain ⟨o1,e1,w1⟩:=id g3
    obtain ⟨o2,e2,w2⟩:=id g4
    have old:∀ c o,s.heap.get? c=some o→c≠s.heap.objs.size:=fun c o e=>Nat.ne_of_lt (Heap.lt_size e)
    refine ⟨.ref s.heap.objs.size,_,I1,rfl,⟨s.heap.objs.size,x,y,rfl,I.fresh,rfl,fun xs' h'=>by rw [I.tuple_inj h' ha]; exact hx,fun ys' h'=>by rw [I.tuple_inj h' hb]; exact hy⟩,
      ⟨q1,q2'.extBut _ _ D.a1 (g7 _ _ D.a1 D.b1 D.b2 D.b3 z2),⟨_,_,q2'.extBut _ _ D.a2 g2⟩,⟨o1,q2'.extBut _ _ D.a3 e1,w1⟩,⟨o2,q2'.extBut _ _ D.a4 e2,w2⟩⟩,fun c hc=>?_⟩
    have hc':c=z∨c=TI∨c=TO∨c=i1∨c=i2:=by simpa using hc
    have hn:c≠s.heap.objs.size:=by
      obtain ⟨p1,f1,_⟩:=r1
      obtain ⟨p2,f2,_⟩:=r2
      rcases hc' with rfl | rfl | rfl | rfl | rfl
      · exact old _ _ z1
      · exact old _ _ z2
      · exact old _ _ z3
      · exact old _ _ f1
      · exact old _ _ f2
    rw [upd_ne hn]
    exact (hf c hc).1
  done:=by
    intro X hP hw hK hc i pins s σ H E I hf st hg
    subst hP hw hK
    obtain ⟨xs,ha,hx⟩:=hg
    obtain ⟨z1,z2,⟨u,v,z3⟩,r1,r2⟩:=st
    obtain ⟨ita,va,pa,_⟩:=I.tuple ha
    have hl:=va.length
    refine ZT.next_end (I.ok.hd hc) D z1 z2 z3 r1 (show s.heap.IsTuple a ita.toArray from pa) (by simp; omega) fun g g7=>⟨rfl,?_⟩
    refine I.turnedL (t':=s.toks) (ch:=[z,TO,i1,i2]) (fun c o hc q=>?_) fun c hc=>hf c ?_
    · have hc':¬ (c=z∨c=TO∨c=i1∨c=i2):=by simpa using hc
      exact g7 c o (fun e=>hc' (.inl e)) (fun e=>hc' (.inr (.inl e))) (fun e=>hc' (.inr (.inr (.inl e)))) (fun e=>hc' (.inr (.inr (.inr e)))) q
    · have hc':c=z∨c=TO∨c=i1∨c=i2:=by simpa using hc
      rcases hc' with rfl | rfl | rfl | rfl <;> simp
  self:=fun A i s Q E st h=>wpAny_pyIter_zip st.1 h
noncomputable def iZip (K:PySem.W.Frag) (ta:TA):TI:=fun σ H R=>ta σ H fun vs H1=>∃ a b,vs=[.ref a,.ref b]∧(∃ xs,SqT K H1 a xs)∧(∃ ys,SqT K H1 b ys)∧R (Itz K a b) H1
theorem boot_zip':bootBuiltins "zip" = some (.type "zip"):=by decide +kernel
theorem pi_zip {X:Cx} {elts:List Expr} {k1:Nat} {p1:Pos} {a b:Expr} {ta:TA} {p pos:Pos} (hg:Gl X "zip") (hm:X.mg "zip" = none) (ha:PA X [a,b] ta) (hs:starEach [a,b] X.env=[(false,eval a X.env),(false,eval b X.env)]:=by rfl)
    (hs2:starEach [b] X.env=[(false,eval b X.env)]:=by rfl):PI X (.Tuple elts k1 p1) (.Call (.Name "zip" p) [a,b] [] pos) (iZip X.K ta):=by
  intro pins s σ H R I h
  refine Call_ (ld_blt I hg hm boot_zip' (PyProof.Rows.callWith_type1 (thn (ha pos pins s σ H _ I h) fun us s1 ⟨vs,H1,I1,r1,q1⟩=>?_) (by rw [hs,hs2]) (by rw [hs2]; rfl)))
  obtain ⟨l1,l2,e,⟨xs,hq⟩,⟨ys,hq'⟩,q⟩:=q1
  subst e
  cases r1 with
  | cons r rr =>
    cases rr with
    | cons r' rr =>
      cases rr
      cases r
      cases r'
      obtain ⟨ita,va,pa,_⟩:=I1.tuple hq
      obtain ⟨itb,vb,pb,_⟩:=I1.tuple hq'
      have la:l1 < s1.heap.objs.size:=pa.lt
      have lb:l2 < s1.heap.objs.size:=pb.lt
      refine ZT.call_zip (show s1.heap.IsTuple l1 ita.toArray from pa) (show s1.heap.IsTuple l2 itb.toArray from pb) fun g g1 g2 g3 g4 g5 g6 g7=>?_
      refine wpAny_pyIter_zip g1 ?_
      have I2:Inv X pins σ H1 { s1 with heap:=g }:=I1.kept (t':=s1.toks) g7
      have D:ZT.Apart (s1.heap.objs.size+4) (s1.heap.objs.size+2) (s1.heap.objs.size+3) s1.heap.objs.size (s1.heap.objs.size+1) l1 l2:=by
        constructor <;> (apply ne_nat; first | exact Or.inl (by omega) | exact Or.inr (by omega) | exact Or.inl (Nat.lt_of_lt_of_le (by assumption) (by omega)))
      refine ⟨s1.heap.objs.size+4,_,_,_,H1,rfl,I2,turn_zip l1 l2 _ _ _ _ _ D,⟨g1,g2,⟨_,_,g3⟩,g4,g5⟩,fun c hc=>?_,q⟩
      have hc':c=s1.heap.objs.size+4∨c=s1.heap.objs.size+2∨c=s1.heap.objs.size+3∨c=s1.heap.objs.size∨c=s1.heap.objs.size+1:=by simpa using hc
      have hle:s1.heap.objs.size≤c:=by rcases hc' with rfl | rfl | rfl | rfl | rfl <;> omega
      exact I1.fpOk hle (I1.hok.fresh hle)
end L2
set_option linter.all false
namespace M01
open PySem
noncomputable def isW (c:Nat):Bool:=decide (97≤c∧c≤122) || decide (65≤c∧c≤90) || decide (48≤c∧c≤57)
noncomputable abbrev S:=List (List Nat) × List Nat
noncomputable def fn (st:S):List (List Nat):=if st.2=[] then st.1 else st.1++[st.2]
noncomputable def cmp (st:S) (rest:List Nat):List (List Nat):=if st.2=[] then st.1 else st.1++[st.2++rest.takeWhile isW]
noncomputable def bl (c:Nat):Nat:=if isW c=true then c else 32
end M01
set_option Elab.async false
set_option linter.all false
set_option maxRecDepth 100000
set_option maxHeartbeats 4000000
namespace L2
open PySem PySem.Spec PyProof.Rows
theorem isPart_of {v:Value} {o:Option Int} (h:IsPart v o):∃ q:Option (Int × Tok),v=partValue q∧o=q.map (·.1):=by
  cases h with
  | none=>exact ⟨none,rfl,rfl⟩
  | int i t=>exact ⟨some (i,t),rfl,rfl⟩
noncomputable def rSlS:V→Option Int→Option Int→Hp→VK→Prop:=fun x lo hi H Q=>∃ y:Str,x=.str y∧y.length≤sizeLine∧Q (.str (Txt.slice y lo hi)) H
theorem sl_str {X:Cx}:SlR X rSlS:=by
  intro pins s σ H x v vl vu lo hi sl Q I rx hs pl pu h
  obtain ⟨y,rfl,hz,q⟩:=h
  obtain ⟨t,rfl⟩:=rx
  obtain ⟨ql,rfl,rfl⟩:=isPart_of pl
  obtain ⟨qu,rfl,rfl⟩:=isPart_of pu
  refine ⟨"str",_,F.slot_str_getitem.lookup,typeIs_str _ _ _,?_⟩
  refine wpAny_getItem_str_slice (l:=ql) (u:=qu) (st:=none) hs rfl ?_
  exact post_val_or_str ⟨Nat.le_trans (Txt.slice_le y _ _) hz,fun t' k=>⟨.str _,H,I.tok _,⟨_,rfl⟩,q⟩⟩
end L2
set_option Elab.async false
set_option linter.all false
set_option maxRecDepth 100000
set_option maxHeartbeats 4000000
namespace L2
open PySem PySem.Spec PyProof.Rows
structure Cal (P:Program) (w:World) (K:PySem.W.Frag) (mg:Str→Option Value) (base:Heap) (x:Str) (k:Nat) (ps:List Str) (sp:Sp):Prop where
  ex:∃ (f:Addr) (fd:FuncData),FnOk P w K mg base CX0 k f fd ps sp∧Binds K fd ps []∧PySem.W.keepIn K (.ref f)=true∧mg x=some (.ref f)
structure Has (K:PySem.W.Frag) (mg:Str→Option Value) (x:Str) (st:Stmt) (ps:List Str):Prop where
  ex:∃ (f:Addr) (fd:FuncData),Fun K x x st f fd∧Binds K fd ps []∧mg x=some (.ref f)
section
variable {P:Program} {w:World} {K:PySem.W.Frag} {mg:Str→Option Value} {base:Heap}
theorem Has.cal {x:Str} {st:Stmt} {ps:List Str} {k:Nat} {sp:Sp} (h:Has K mg x st ps) (ok:∀ (f:Addr) (fd:FuncData),Fun K x x st f fd→mg x=some (.ref f)→Binds K fd ps []→FnOk P w K mg base CX0 k f fd ps sp):Cal P w K mg base x k ps sp:=by
  obtain ⟨f,fd,F,b,m⟩:=h.ex
  exact ⟨f,fd,ok f fd F m b,b,F.kp,m⟩
theorem Has.mk' {x:Str} {st:Stmt} {N ps:List Str} {k:Nat} {sp:Sp} (h:Has K mg x st ps) (S:FnScope N ps (defScope st)) (len:∀ vs H Q E,sp vs H Q E→vs.length=ps.length)
    (hbody:∀ (f:Addr) (cdv:Value) (A:Around) (outer:List Env) (s:Shared) (H:Hp) (vs:List V) (Q:VK) (E:XK),Room k (A.deeper (envOfC x (defScope st) s.heap.objs.size f cdv))→sp vs H Q E →
      ∃ t,PSs (cxOf CX0 P w K mg base N x (defScope st) f cdv A outer s H E).nox (defBody st) t∧t { nx:=fun _ H'=>Q .non H',rt:=Q } (start N vs) H):Cal P w K mg base x (k+1) ps sp :=
  h.cal fun f fd F _ _=>F.ok S len (hbody f)
theorem Cal.mono {x:Str} {j k:Nat} {ps:List Str} {sp:Sp} (C:Cal P w K mg base x j ps sp) (h:j≤k):Cal P w K mg base x k ps sp:=by
  obtain ⟨f,fd,F,r⟩:=C.ex
  exact ⟨f,fd,F.mono h,r⟩
end
theorem pe_cal {X:Cx} {x:Str} {k n:Nat} {ps:List Str} {sp:Sp} {e:Expr} {es:List Expr} {t:TA} {p pos:Pos} (C:Cal X.prog X.w X.K X.mg X.base x k ps sp) (hr:Room n X.A) (hk:k≤n) (hg:Gl X x) (ha:PA X (e :: es) t)
    (hdb:(x == ("__debug__" : Str))=false:=by decide) (he:starEach (e :: es) X.env=(false,eval e X.env) :: starEach es X.env:=by rfl) (hpl:(backTo pos (starEach es X.env)).any (·.1)=false:=by rfl) :
    PE X (.Call (.Name x p) (e :: es) [] pos) (tCall sp [] E0 t):=by
  obtain ⟨f,fd,F,b,kp,m⟩:=C.ex
  exact pe_call F (hr.mono hk) hg m kp b .nil pass0 ha hdb he hpl
inductive D where
  | non | bl (b:Bool) | int (i:Int) | str (x:Str) | tup (ds:List D)
mutual
noncomputable def Den (H:Hp):V→D→Prop
  | v,.non=>v=.non
  | v,.bl b=>v=.bl b
  | v,.int i=>v=.int i
  | v,.str x=>v=.str x
  | v,.tup ds=>∃ (p:Addr) (vs:List V),v=.ref p∧H p=some (.tup vs)∧DenL H vs ds
noncomputable def DenL (H:Hp):List V→List D→Prop
  | [],[]=>True
  | v :: vs,d :: ds=>Den H v d∧DenL H vs ds
  | _,_=>False
end
mutual
theorem Den.same {H H':Hp} (e:Same H H'):∀ {d:D} {v:V},Den H v d→Den H' v d
  | .non,_,h=>h
  | .bl _,_,h=>h
  | .int _,_,h=>h
  | .str _,_,h=>h
  | .tup ds,_,h=>by
    obtain ⟨p,vs,rfl,hp,hd⟩:=h
    exact ⟨p,vs,rfl,e _ _ hp,DenL.same e hd⟩
theorem DenL.same {H H':Hp} (e:Same H H'):∀ {ds:List D} {vs:List V},DenL H vs ds→DenL H' vs ds
  | [],[],_=>trivial
  | _ :: _,_ :: _,h=>⟨Den.same e h.1,DenL.same e h.2⟩
  | [],_ :: _,h=>h.elim
  | _ :: _,[],h=>h.elim
end
theorem DenL.len {H:Hp}:∀ {ds:List D} {vs:List V},DenL H vs ds→vs.length=ds.length
  | [],[],_=>rfl
  | _ :: ds,_ :: vs,h=>by rw [List.length_cons,List.length_cons,DenL.len h.2]
  | [],_ :: _,h=>h.elim
  | _ :: _,[],h=>h.elim
theorem DenL.at_ {H:Hp}:∀ {ds:List D} {vs:List V} {i:Nat} {v:V},DenL H vs ds→vs[i]?=some v→∃ d,ds[i]?=some d∧Den H v d
  | [],[],i,v,_,h=>by simp at h
  | d :: ds,_ :: vs,0,v,h,e=>by
    simp at e
    subst e
    exact ⟨d,rfl,h.1⟩
  | _ :: ds,_ :: vs,i+1,v,h,e=>DenL.at_ (i:=i) h.2 (by simpa using e)
  | [],_ :: _,_,_,h,_=>h.elim
  | _ :: _,[],_,_,h,_=>h.elim
theorem DenL.strs {H:Hp}:∀ xs:List Str,DenL H (xs.map V.str) (xs.map D.str)
  | []=>trivial
  | _ :: r=>⟨rfl,DenL.strs r⟩
theorem DenL.snoc {H:Hp} {v:V} {d:D} (hd:Den H v d):∀ {ds:List D} {vs:List V},DenL H vs ds→DenL H (vs++[v]) (ds++[d])
  | [],[],_=>⟨hd,trivial⟩
  | _ :: _,_ :: _,h=>⟨h.1,DenL.snoc hd h.2⟩
  | [],_ :: _,h=>h.elim
  | _ :: _,[],h=>h.elim
noncomputable def Shal:Nat→D→Prop
  | 0,d=>d≠.non∧∀ ds,d≠.tup ds
  | n+1,d=>d≠.non∧∀ ds,d=.tup ds→ds.length≤100000∧∀ e∈ds,Shal n e
theorem Shal.up:∀ {n:Nat} {d:D},Shal n d→Shal (n+1) d
  | 0,d,h=>⟨h.1,fun ds e=>absurd e (h.2 ds)⟩
  | n+1,d,h=>⟨h.1,fun ds e=>⟨(h.2 ds e).1,fun x hx=>((h.2 ds e).2 x hx).up⟩⟩
theorem Shal.ne:∀ {n:Nat} {d:D},Shal n d→d≠.non
  | 0,_,h=>h.1
  | _+1,_,h=>h.1
theorem shal_str (x:Str):Shal 0 (.str x):=⟨(fun z=>nomatch z),fun _ z=>nomatch z⟩
theorem shal_int (x:Int):Shal 0 (.int x):=⟨(fun z=>nomatch z),fun _ z=>nomatch z⟩
noncomputable def spSame:Nat→Sp
  | 0=>fun _ _ _ _=>False
  | n+1=>fun vs H Q _=>∃ (v u:V) (d:D),vs=[v,u]∧Den H v d∧Den H u d∧Shal n d∧∀ H',Same H H'→Q (.bl true) H'
theorem Has.never {P:Program} {w:World} {K:PySem.W.Frag} {mg:Str→Option Value} {base:Heap} {x:Str} {st:Stmt} {ps:List Str} {sp:Sp} (h:Has K mg x st ps) (no:∀ vs H Q E,¬ sp vs H Q E):Cal P w K mg base x 0 ps sp :=
  h.cal fun f fd F _ _=>⟨fun vs H Q E z=>absurd z (no vs H Q E),fun A outer s H args us vs Q E _ _ _ _ z=>absurd z (no vs H Q E)⟩
theorem den_tup {H:Hp} {ds:List D} {v:V} (h:Den H v (.tup ds)):∃ (p:Addr) (vs:List V),v=.ref p∧H p=some (.tup vs)∧DenL H vs ds:=h
noncomputable def Same2 (p:Addr) (H H':Hp):Prop:=∀ c o,H c=some o→c≠p→H' c=some o
theorem Same2.trans {p:Addr} {H H1 H2:Hp} (a:Same2 p H H1) (b:Same2 p H1 H2):Same2 p H H2:=fun c o e n=>b c o (a c o e n) n
theorem Same2.of {p:Addr} {H H1:Hp} (a:Same H H1):Same2 p H H1:=fun c o e _=>a c o e
theorem Pot.same {H0 H H':Hp} {p:Addr} (P:Pot H0 p H) (s:Same H H'):Pot H0 p H':=by
  obtain ⟨a,b,e⟩:=P.at_
  exact ⟨⟨a,b,s _ _ e⟩,fun c o e n=>s c o (P.old c o e n)⟩
theorem Pot.trans {H0 H1 H2:Hp} {p:Addr} (P:Pot H0 p H1) (R:Pot H1 p H2):Pot H0 p H2:=⟨R.at_,fun c o e n=>R.old c o (P.old c o e n) n⟩
mutual
theorem Den.keepT {H H':Hp} (e:∀ (b:Addr) (vs:List V),H b=some (.tup vs)→H' b=some (.tup vs)):∀ {d:D} {v:V},Den H v d→Den H' v d
  | .non,_,h=>h
  | .bl _,_,h=>h
  | .int _,_,h=>h
  | .str _,_,h=>h
  | .tup ds,_,h=>by
    obtain ⟨p,vs,rfl,hp,hd⟩:=h
    exact ⟨p,vs,rfl,e _ _ hp,DenL.keepT e hd⟩
theorem DenL.keepT {H H':Hp} (e:∀ (b:Addr) (vs:List V),H b=some (.tup vs)→H' b=some (.tup vs)):∀ {ds:List D} {vs:List V},DenL H vs ds→DenL H' vs ds
  | [],[],_=>trivial
  | _ :: _,_ :: _,h=>⟨Den.keepT e h.1,DenL.keepT e h.2⟩
  | [],_ :: _,h=>h.elim
  | _ :: _,[],h=>h.elim
end
section
variable {X:Cx} {K:PySem.W.Frag} {o e:Expr} {es:List Expr} {to:TE} {t:TA} {name:Str} {apos cpos:Pos} {T id:String} {r:V→List V→Hp→VK→Prop}
theorem pe_bmK (hK:X.K=K) (pa:PlainAttrs T) (slot:Slot T name id) (hty:typeOf (.builtin id)=pure (.type "method_descriptor")) (hm:MtR X id r) (ho:PE X o to) (ha:PA X (e :: es) t)
    (hbase:attributeBase o name X.env (eval o X.env)=eval o X.env:=by rfl)
    (hfew:((backTo cpos (starEach (e :: es) X.env)).all (fun x=>!x.1) && (backToKw cpos (keywordEach [] X.env)).all (fun x=>x.1.isSome) && decide ((e :: es).length+([]:List Keyword).length+(if ([]:List Keyword).isEmpty then 0 else 1) < 30))=true:=by rfl)
    (hline:(apos.endLine == cpos.line)=true:=by rfl) (hs:starEach (e :: es) X.env=(false,eval e X.env) :: starEach es X.env:=by rfl) (hplain:(backTo cpos (starEach es X.env)).any (·.1)=false:=by rfl) :
    PE X (.Call (.Attribute o name apos) (e :: es) [] cpos) (tBM K T r to t):=by
  subst hK
  exact pe_bm pa slot hty hm ho ha hbase hfew hline hs hplain
theorem sl_tupK (hK:X.K=K):SlR X (rSlT K):=by subst hK; exact sl_tup
theorem ix_listK (hK:X.K=K):IxR X (rIxL K):=by subst hK; exact ix_list
theorem ix_tupK (hK:X.K=K):IxR X (rIxT K):=by subst hK; exact ix_tup
theorem call_tuple_ofK (hK:X.K=K):CallR X (.type "tuple") (fun xs H Q=>∃ p ys,xs=[.ref p]∧((SqL K H p ys∧∀ l,H l=none→Q (.ref l) (upd H l (.tup ys)))∨(SqT K H p ys∧Q (.ref p) H))):=by subst hK; exact call_tuple_of
theorem call_isinstK (hK:X.K=K):CallR X (.builtin "isinstance") (fun xs H Q=>∃ x n t b,xs=[x,.ty n]∧TyOf K H x t∧PySem.W.kitOne K t (.type n)=some b∧Q (.bl b) H):=by subst hK; exact call_isinst
end
end L2
set_option Elab.async false
set_option linter.all false
set_option maxRecDepth 100000
set_option maxHeartbeats 4000000
namespace L2
open PySem PySem.Spec PyProof.Rows
section
variable {κ:Type} [DecidableEq κ]
noncomputable def valV (kvs:List (κ × V)) (k:κ):Option V:=(kvs.find? fun kv=>decide (kv.1=k)).map (·.2)
noncomputable def putK (kvs:List (κ × V)) (k:κ) (v:V):List (κ × V) :=
  if (kvs.any fun kv=>decide (kv.1=k))=true then kvs.map (fun kv=>if kv.1=k then (kv.1,v) else kv) else kvs++[(k,v)]
noncomputable def dropK (kvs:List (κ × V)) (k:κ):List (κ × V):=kvs.filter fun kv=>decide (kv.1≠k)
theorem valV_pos {p:κ × V} {r:List (κ × V)} {k:κ} (e:p.1=k):valV (p :: r) k=some p.2:=by simp [valV,List.find?_cons,e]
theorem valV_neg {p:κ × V} {r:List (κ × V)} {k:κ} (e:¬ p.1=k):valV (p :: r) k=valV r k:=by simp [valV,List.find?_cons,e]
theorem valV_any (k:κ):∀ kvs:List (κ × V),(kvs.any fun kv=>decide (kv.1=k))=(valV kvs k).isSome
  | []=>rfl
  | p :: r=>by
    rw [List.any_cons]
    by_cases e:p.1=k
    · simp only [valV_pos e,decide_eq_true e,Bool.true_or,Option.isSome_some]
    · rw [valV_neg e,decide_eq_false e,Bool.false_or]; exact valV_any k r
theorem length_putK (kvs:List (κ × V)) (k:κ) (v:V):(putK kvs k v).length≤kvs.length+1:=by
  unfold putK
  split
  · rw [List.length_map]; omega
  · rw [List.length_append,List.length_cons,List.length_nil]; omega
theorem putK_new {kvs:List (κ × V)} {k:κ} (v:V) (h:valV kvs k=none):putK kvs k v=kvs++[(k,v)]:=by
  unfold putK
  rw [valV_any,h]
  exact if_neg (by decide)
theorem RelO.isSome_eq {o:Option V} {u:Option Value} (r:RelO o u):o.isSome=u.isSome:=by
  cases o with
  | none=>cases u with
    | none=>rfl
    | some _=>exact (show False from r).elim
  | some _=>cases u with
    | none=>exact (show False from r).elim
    | some _=>rfl
theorem RelO.getD {o:Option V} {u:Option Value} {d:V} {d':Value} (r:RelO o u) (rd:RelV d d'):RelV (o.getD d) (u.getD d'):=by
  cases o with
  | none=>cases u with
    | none=>exact rd
    | some _=>exact (show False from r).elim
  | some _=>cases u with
    | none=>exact (show False from r).elim
    | some _=>exact r
theorem KV.val {kvs:List (κ × V)} {vs:List (κ × Value)} (r:KV kvs vs) (k:κ):RelO (valV kvs k) (valueAt vs k):=by
  unfold KV at r
  induction r with
  | nil=>exact True.intro
  | @cons p q ps qs h t ih =>
    obtain ⟨h1,h2⟩:=h
    by_cases e:p.1=k
    · have e':q.1=k:=h1.symm.trans e
      have b:valueAt (q :: qs) k=some q.2:=by simp [valueAt,List.find?_cons,e']
      rw [valV_pos e,b]; exact h2
    · have e':¬ q.1=k:=fun z=>e (h1.trans z)
      have b:valueAt (q :: qs) k=valueAt qs k:=by simp [valueAt,List.find?_cons,e']
      rw [valV_neg e,b]; exact ih
theorem KV.any {kvs:List (κ × V)} {vs:List (κ × Value)} (r:KV kvs vs) (k:κ):(kvs.any fun kv=>decide (kv.1=k))=vs.any fun kv=>decide (kv.1=k):=by
  unfold KV at r
  induction r with
  | nil=>rfl
  | cons h t ih=>rw [List.any_cons,List.any_cons,ih,h.1]
theorem KV.repl {kvs:List (κ × V)} {vs:List (κ × Value)} (r:KV kvs vs) (k:κ) {y:V} {u:Value} (ry:RelV y u) :
    KV (kvs.map fun kv=>if kv.1=k then (kv.1,y) else kv) (vs.map fun kv=>if kv.1=k then (kv.1,u) else kv):=by
  unfold KV at r ⊢
  induction r with
  | nil=>exact .nil
  | @cons p q ps qs h t ih =>
    rw [List.map_cons,List.map_cons]
    refine .cons ?_ ih
    obtain ⟨h1,h2⟩:=h
    by_cases e:p.1=k
    · rw [if_pos e,if_pos (h1.symm.trans e)]; exact ⟨h1,ry⟩
    · rw [if_neg e,if_neg (fun z=>e (h1.trans z))]; exact ⟨h1,h2⟩
theorem KV.put {kvs:List (κ × V)} {vs:List (κ × Value)} (r:KV kvs vs) (k:κ) {y:V} {u:Value} (ry:RelV y u):KV (putK kvs k y) (stored vs k u):=by
  unfold putK stored
  rw [r.any k]
  by_cases e:(vs.any fun kv=>decide (kv.1=k))=true
  · rw [if_pos e,if_pos e]; exact r.repl k ry
  · rw [if_neg e,if_neg e]; exact Paired.snoc r ⟨rfl,ry⟩
theorem KV.length {kvs:List (κ × V)} {vs:List (κ × Value)} (r:KV kvs vs):kvs.length=vs.length:=Paired.length r
end
theorem kV_is {P:Program} {w:World} {k:Key} {u:Value} (r:RelV (kV k) u):(mixKind P w).is k u=true:=by
  cases k with
  | inl i=>obtain ⟨t,e⟩:=(show ∃ t,u=Value.int i t from r); subst e; exact mixKind_int P w i t
  | inr x=>obtain ⟨t,e⟩:=(show ∃ t,u=Value.str x t from r); subst e; exact mixKind_str P w x t
theorem items_are {P:Program} {w:World}:∀ {ks:List Key} {us:List Value},Vals (ks.map kV) us→ItemsAre (mixKind P w) ks us
  | [],_,r=>by rw [List.map_nil] at r; cases r; exact .nil
  | k :: ks,_,r=>by
    rw [List.map_cons] at r
    cases r with
    | cons h t=>exact .cons (kV_is h) (items_are t)
noncomputable abbrev KT (H:Hp):List (List Key × V)→List (List Key × Addr × Value)→Prop:=Paired fun p q=>p.1=q.1∧H q.2.1=some (.tup (p.1.map kV))∧RelV p.2 q.2.2
theorem KT.val {H:Hp} {kvs:List (List Key × V)} {xs:List (List Key × Addr × Value)} (r:KT H kvs xs) (k:List Key):RelO (valV kvs k) ((atKey xs k).map (·.2)):=by
  induction r with
  | nil=>exact True.intro
  | @cons p q ps qs h t ih =>
    obtain ⟨h1,_,h2⟩:=h
    by_cases e:p.1=k
    · have e':q.1=k:=h1.symm.trans e
      have b:atKey (q :: qs) k=some q.2:=by simp [atKey,List.find?_cons,e']
      rw [valV_pos e,b]; exact h2
    · have e':¬ q.1=k:=fun z=>e (h1.trans z)
      have b:atKey (q :: qs) k=atKey qs k:=by simp [atKey,List.find?_cons,e']
      rw [valV_neg e,b]; exact ih
theorem KT.repl {H:Hp} {kvs:List (List Key × V)} {xs:List (List Key × Addr × Value)} (r:KT H kvs xs) (k:List Key) {y:V} {u:Value} (ry:RelV y u) :
    KT H (kvs.map fun kv=>if kv.1=k then (kv.1,y) else kv) (xs.map (putAt k u)):=by
  induction r with
  | nil=>exact .nil
  | @cons p q ps qs h t ih =>
    rw [List.map_cons,List.map_cons]
    refine .cons ?_ ih
    obtain ⟨h1,h2,h3⟩:=h
    unfold putAt
    by_cases e:p.1=k
    · rw [if_pos e,if_pos (h1.symm.trans e)]; exact ⟨h1,h2,ry⟩
    · rw [if_neg e,if_neg (fun z=>e (h1.trans z))]; exact ⟨h1,h2,h3⟩
theorem KT.put {H:Hp} {kvs:List (List Key × V)} {xs:List (List Key × Addr × Value)} (r:KT H kvs xs) (k:List Key) {b:Addr} {y:V} {u:Value} (hb:H b=some (.tup (k.map kV))) (ry:RelV y u) :
    KT H (putK kvs k y) (storedH xs k b u):=by
  have e:(kvs.any fun kv=>decide (kv.1=k))=(atKey xs k).isSome:=by
    rw [valV_any,(r.val k).isSome_eq,Option.isSome_map]
  unfold putK storedH
  rw [e]
  by_cases q:(atKey xs k).isSome=true
  · rw [if_pos q,if_pos q]; exact r.repl k ry
  · rw [if_neg q,if_neg q]; exact Paired.snoc r ⟨rfl,hb,ry⟩
theorem KT.keeps {H H':Hp} {kvs:List (List Key × V)} {xs:List (List Key × Addr × Value)} (r:KT H kvs xs) (ht:∀ b ys,H b=some (.tup ys)→H' b=some (.tup ys)):KT H' kvs xs :=
  Paired.mapP r fun _ _ z=>⟨z.1,ht _ _ z.2.1,z.2.2⟩
section
variable {P:Program} {w:World} {H:Hp} {h:Heap} {a:Addr}
theorem rd_of {u:HO} (ok:HOk P w H h) (e:Rd H a u):ObjOk P w H h a u:=e.ok ok
theorem dk_rd {kvs:List (Key × V)} (ok:HOk P w H h) (e:Rd H a (.dK kvs)):kvs.length≤sizeLine∧(a == sysModules)=false∧∃ vs,KV kvs vs∧h.DictOf (mixKind P w) a vs :=
  show ObjOk P w H h a (.dK kvs) from rd_of ok e
theorem dk_of {kvs:List (Key × V)} (ok:HOk P w H h) (e:H a=some (.dK kvs)):kvs.length≤sizeLine∧(a == sysModules)=false∧∃ vs,KV kvs vs∧h.DictOf (mixKind P w) a vs:=dk_rd ok (.inl e)
theorem key_of {ks:List Key} (ok:HOk P w H h) (e:H a=some (.tup (ks.map kV))):(tupleKind (mixKind P w)).is h ks a:=by
  obtain ⟨_,its,r,o,h1,h2,n,h3⟩:=(show ObjOk P w H h a (.tup (ks.map kV)) from ok a _ e)
  exact ⟨o,its.toArray,n,h1,h2,h3,by simpa using items_are r⟩
theorem dt_rd {kvs:List (List Key × V)} (ok:HOk P w H h) (e:Rd H a (.dT kvs)):kvs.length≤sizeLine∧(a == sysModules)=false ∧
    ∃ xs,KT H kvs xs∧h.DictOfH (tupleKind (mixKind P w)) a xs:=by
  obtain ⟨z,y,xs,r,o,es,ep,h1,h2,h3,h4,h5⟩:=(show ObjOk P w H h a (.dT kvs) from rd_of ok e)
  refine ⟨z,y,xs,r,o,es,ep,h1,h2,h3,h4,fun x hx=>?_,h5⟩
  have all:∀ {l:List (List Key × V)} {m:List (List Key × Addr × Value)},KT H l m→∀ x∈m,(tupleKind (mixKind P w)).is h x.1 x.2.1:=by
    intro l m q
    induction q with
    | nil=>intro x hx; exact nomatch hx
    | @cons p q ps qs hq t ih =>
      intro x hx
      rcases List.mem_cons.mp hx with e | hx
      · subst e
        exact key_of ok (by rw [← hq.1]; exact hq.2.1)
      · exact ih x hx
  exact all r x hx
theorem dt_of {kvs:List (List Key × V)} (ok:HOk P w H h) (e:H a=some (.dT kvs)):kvs.length≤sizeLine∧(a == sysModules)=false ∧
    ∃ xs,KT H kvs xs∧h.DictOfH (tupleKind (mixKind P w)) a xs:=dt_rd ok (.inl e)
end
noncomputable def DGet (H:Hp) (a:Addr) (y:V) (r:Option V):Prop :=
  (∃ kvs k,Rd H a (.dK kvs)∧y=kV k∧r=valV kvs k)∨∃ kvs k b,Rd H a (.dT kvs)∧y=.ref b∧H b=some (.tup (k.map kV))∧r=valV kvs k
noncomputable def DPut (H:Hp) (a:Addr) (y v:V) (H':Hp):Prop :=
  (∃ kvs k,H a=some (.dK kvs)∧y=kV k∧kvs.length < sizeLine∧H'=upd H a (.dK (putK kvs k v))) ∨
  ∃ kvs k b,H a=some (.dT kvs)∧y=.ref b∧H b=some (.tup (k.map kV))∧kvs.length < sizeLine∧H'=upd H a (.dT (putK kvs k v))
theorem DGet.k {H:Hp} {a:Addr} {kvs:List (Key × V)} {k:Key} (e:H a=some (.dK kvs)):DGet H a (kV k) (valV kvs k):=.inl ⟨kvs,k,.inl e,rfl,rfl⟩
theorem DGet.t {H:Hp} {a b:Addr} {kvs:List (List Key × V)} {k:List Key} (e:H a=some (.dT kvs)) (eb:H b=some (.tup (k.map kV))):DGet H a (.ref b) (valV kvs k):=.inr ⟨kvs,k,b,.inl e,rfl,eb,rfl⟩
theorem DPut.k {H:Hp} {a:Addr} {kvs:List (Key × V)} {k:Key} {v:V} (e:H a=some (.dK kvs)) (hl:kvs.length < sizeLine):DPut H a (kV k) v (upd H a (.dK (putK kvs k v))):=.inl ⟨kvs,k,e,rfl,hl,rfl⟩
theorem DPut.t {H:Hp} {a b:Addr} {kvs:List (List Key × V)} {k:List Key} {v:V} (e:H a=some (.dT kvs)) (eb:H b=some (.tup (k.map kV))) (hl:kvs.length < sizeLine) :
    DPut H a (.ref b) v (upd H a (.dT (putK kvs k v))):=.inr ⟨kvs,k,b,e,rfl,eb,hl,rfl⟩
section
variable {X:Cx} {pins:List (Addr × Obj)} {σ:St} {H:Hp} {s:Shared} {a:Addr} {y v:V} {u r:Value} {o:Option V} {A:Around} {E:Value→Shared→Prop}
theorem Inv.big (I:Inv X pins σ H s):sysModules < s.heap.objs.size:=by
  have h:mainGlobals < s.heap.objs.size:=(I.mod.glob.keeps I.bk).lt
  exact Nat.lt_trans (by decide) h
theorem d_getItem {Q:Value→Shared→Prop} (hu:A.units+1 < cLine) (I:Inv X pins σ H s) (g:DGet H a y (some v)) (ry:RelV y u) (h:∀ w' s',Inv X pins σ H s'→RelV v w'→Q w' s') :
    wpAny (model X.prog X.w) A (getItem (.ref a) u) Q E s:=by
  rcases g with ⟨kvs,k,e,ey,l⟩ | ⟨kvs,k,b,e,ey,eb,l⟩
  · subst ey
    obtain ⟨z,hd,vs,rel,dd⟩:=dk_rd I.hok e
    obtain ⟨w',hw,rw'⟩:=RelO.some_of (v:=v) (o:=valueAt vs k) (by rw [l]; exact rel.val k)
    exact wpAny_getItem_of (kV_is ry) dd.mapOf hw (h w' _ (I.tok _) rw')
  · subst ey
    cases (show u=Value.ref b from ry)
    obtain ⟨z,hd,xs,rel,dd⟩:=dt_rd I.hok e
    obtain ⟨w',hw,rw'⟩:=RelO.some_of (v:=v) (o:=(atKey xs k).map (·.2)) (by rw [l]; exact rel.val k)
    obtain ⟨p,hp,hp2⟩:=Option.map_eq_some_iff.mp hw
    refine wpAny_getItem_heap (tupleKind_room_in1 hu) (key_of I.hok eb) dd hp ?_
    rw [hp2]
    exact h w' _ (I.tok _) rw'
theorem d_write {h':Heap} {t':Nat} {ob:HO} (I:Inv X pins σ H s) (mu:Mut (H a)) (hs:Heap.SameBut a s.heap h') (he:∃ q,h'.get? a=some q) (new:ObjOk X.prog X.w (upd H a ob) h' a ob) :
    Inv X pins σ (upd H a ob) { s with heap:=h',toks:=t' } :=
  I.write (x:=a) (e:=a) mu (.inl rfl) (fun b q hb z=>(hs.2 b hb).trans z) he new
theorem dk_new {P:Program} {w:World} {H':Hp} {h':Heap} {kvs:List (Key × V)} {vs:List (Key × Value)} (z:kvs.length≤sizeLine) (hd:(a == sysModules)=false) (rel:KV kvs vs) (dd:h'.DictOf (mixKind P w) a vs) :
    ObjOk P w H' h' a (.dK kvs):=⟨z,hd,vs,rel,dd⟩
theorem d_setItem {H':Hp} {Q:Unit→Shared→Prop} (hu:A.units+1 < cLine) (I:Inv X pins σ H s) (g:DPut H a y v H') (ry:RelV y u) (rv:RelV v r) (h:∀ s',Inv X pins σ H' s'→Q () s') :
    wpAny (model X.prog X.w) A (setItem (.ref a) u r) Q E s:=by
  rcases g with ⟨kvs,k,e,ey,l,eH⟩ | ⟨kvs,k,b,e,ey,eb,l,eH⟩
  · subst ey eH
    obtain ⟨z,hd,vs,rel,dd⟩:=dk_of I.hok e
    have hz:vs.length≤sizeLine:=by rw [← rel.length]; exact z
    have hl:(putK kvs k v).length≤sizeLine:=by have:=length_putK kvs k v; omega
    refine wpAny_setItem_pairs (hsz:=hz) (kV_is ry) dd fun h' dd' hs=>h _ ?_
    have he:∃ q,h'.get? a=some q:=let ⟨q,_,_,hq,_⟩:=dd'; ⟨q,hq⟩
    exact d_write I (by rw [e]; exact True.intro) hs he (dk_new hl hd (rel.put k rv) dd')
  · subst ey eH
    cases (show u=Value.ref b from ry)
    obtain ⟨z,hd,xs,rel,dd⟩:=dt_of I.hok e
    have hz:xs.length≤sizeLine:=by rw [← Paired.length rel]; exact z
    have hl:(putK kvs k v).length≤sizeLine:=by have:=length_putK kvs k v; omega
    refine wpAny_setItem_heap (hsz:=hz) (tupleKind_room_in1 hu) (key_of I.hok eb) dd fun h' dd' hs=>h _ ?_
    obtain ⟨q,es,ep,hq,h2,h3,h4,_,h5⟩:=dd'
    refine d_write I (by rw [e]; exact True.intro) hs ⟨q,hq⟩ ⟨hl,hd,_,(rel.put k eb rv).keeps fun c ys ec=>?_,q,es,ep,hq,h2,h3,h4,h5⟩
    rw [upd_ne (ne_of ec e (fun z=>nomatch z))]
    exact ec
end
section
variable {X:Cx} {pins:List (Addr × Obj)} {σ:St} {H:Hp} {s:Shared} {a:Addr} {kvs:List (Key × V)} {k:Key} {u:Value} {A:Around} {E:Value→Shared→Prop}
end
noncomputable def NoSl (i:Expr):Prop:=∀ ov iv,subscripted i false ov iv=operate [ov,iv] (getItem ov iv)
theorem subD_of {prog:Program} {w:World} {A:Around} {E:Value→Shared→Prop} {s:Shared} {env:Env} {value slice:Expr} {pos:Pos} {T id:String} {Q:Value→Shared→Prop}
    (hl:typeLookup (.type T) "__getitem__" = pure (some (.builtin id))) (hs:NoSl slice)
    (h:wpAny (model prog w) A (eval value env) (fun o s₁=>wpAny (model prog w) A (eval slice env) (fun i s₂=>s₂.TypeIs o T∧wpAny (model prog w) A (getItem o i) Q E s₂) E s₁) E s) :
    wpAny (model prog w) A (eval (.Subscript value slice pos) env) Q E s:=by
  refine Subscript_ (wpAny_mono h (fun o s₁ h₁=>wpAny_mono h₁ (fun i s₂ h₂=>?_) fun _ _ x=>x) fun _ _ x=>x)
  obtain ⟨hT,h₂⟩:=h₂
  unfold subscriptTail
  refine wpAny_bind ?_
  rw [getitemInPython_of_ne hT.not_modules]
  refine wpAny_bind (wpAny_specialOf hT hl ?_)
  have fin:wpAny (model prog w) A (subscripted slice false o i) (fun r s₃=>wpAny (model prog w) A (letTemporaryGo value o r >>= fun _=>pure r) Q E s₃) E s₂:=by
    rw [hs o i]
    exact wpAny_operating (wpAny_mono h₂ (fun r s₃ h₃=>wpAny_bind (wpAny_letTemporaryGo (wpAny_pure h₃))) fun _ _ x=>x)
  first
    | exact wpAny_pure (wpAny_bind fin)
    | exact wpAny_bind (wpAny_pure (wpAny_bind fin))
    | exact wpAny_bind fin
theorem dict_typeIs {X:Cx} {pins:List (Addr × Obj)} {σ:St} {H:Hp} {s:Shared} {a:Addr} {y:V} {o:Option V} (I:Inv X pins σ H s) (g:DGet H a y o):s.TypeIs (.ref a) "dict":=by
  rcases g with ⟨kvs,k,e,_,_⟩ | ⟨kvs,k,b,e,_,_,_⟩
  · obtain ⟨_,_,vs,_,dd⟩:=dk_rd I.hok e
    exact dd.typeIs
  · obtain ⟨_,_,xs,_,dd⟩:=dt_rd I.hok e
    exact dd.typeIs
noncomputable def tDGet (td ty:TE):TE:=fun σ H Q=>td σ H fun x H1=>ty σ H1 fun y H2=>∃ a v,x=.ref a∧DGet H2 a y (some v)∧Q v H2
noncomputable def sDPut (td ty tv:TE):TS:=fun D σ H=>tv σ H fun v H1=>td σ H1 fun x H2=>ty σ H2 fun y H3=>∃ a H4,x=.ref a∧DPut H3 a y v H4∧D.nx σ H4
section
variable {X:Cx} {o i e value:Expr} {pos pos' tpos:Pos} {td ty tv:TE}
theorem pe_dget (hu:X.A.units+1 < cLine) (ho:PE X o td) (hi:PE X i ty) (hs:NoSl i):PE X (.Subscript o i pos) (tDGet td ty):=by
  intro pins s σ H Q I h
  refine subD_of PySem.F.slot_dict_getitem.lookup hs (thn (ho pins s σ H _ I h) fun u s1 ⟨x,H1,I1,rx,q1⟩=>thn (hi pins s1 σ H1 _ I1 q1) fun iv s2 ⟨y,H2,I2,ry,a,v,ex,g,q2⟩=>?_)
  subst ex
  obtain rfl:u=Value.ref a:=rx
  exact ⟨dict_typeIs I2 g,d_getItem hu I2 g ry fun w' s3 I3 rw'=>⟨v,H2,I3,rw',q2⟩⟩
theorem ps_dput (hu:X.A.units+1 < cLine) (ho:PE X o td) (hi:PE X i ty) (hv:PE X value tv) (hs:swapsWith value (some (.Subscript o i pos')) pos.line X.env=pure false) :
    PS X (.Assign [.Subscript o i pos'] value pos) (sDPut td ty tv):=by
  intro pins s σ H D I h
  refine wpAny_Assign_Subscript (thn (hv pins s σ H _ I h) fun r s1 ⟨v,H1,I1,rv,q1⟩=>thn (ho pins s1 σ H1 _ I1 q1) fun u s2 ⟨x,H2,I2,rx,q2⟩=>thn (hi pins s2 σ H2 _ I2 q2) fun iv s3 ⟨y,H3,I3,ry,a,H4,ex,g,q3⟩=>?_) hs
  subst ex
  obtain rfl:u=Value.ref a:=rx
  exact d_setItem hu I3 g ry rv fun s4 I4=>⟨σ,H4,I4,q3⟩
end
theorem dk_empty {P:Program} {w:World} {H:Hp} (h:Heap) (hb:sysModules < h.objs.size):ObjOk P w H (h.push { cls:=.type "dict",data:=.dict #[] }) h.objs.size (.dK []) :=
  ⟨Nat.zero_le _,beq_eq_false_iff_ne.mpr (Ne.symm (Nat.ne_of_lt hb)),[],.nil,Heap.DictOf.new h⟩
theorem dt_empty {P:Program} {w:World} {H:Hp} (h:Heap) (hb:sysModules < h.objs.size):ObjOk P w H (h.push { cls:=.type "dict",data:=.dict #[] }) h.objs.size (.dT []) :=
  ⟨Nat.zero_le _,beq_eq_false_iff_ne.mpr (Ne.symm (Nat.ne_of_lt hb)),[],.nil,_,#[],0,Heap.get?_push_size _ rfl,⟨rfl,rfl,rfl⟩,rfl,rfl,List.nodup_nil⟩
noncomputable def tDNewK:TE:=fun _ H Q=>∀ p,H p=none→Q (.ref p) (upd H p (.dK []))
noncomputable def tDNewT:TE:=fun _ H Q=>∀ p,H p=none→Q (.ref p) (upd H p (.dT []))
section
variable {X:Cx} {pos:Pos}
theorem pe_dnewK:PE X (.Dict [] [] pos) tDNewK:=fun pins s σ H Q I h =>
  wpAny_Dict_empty ⟨.ref s.heap.objs.size,_,I.laid (a:=s.heap.objs.size) (o:=.dK []) (t':=s.toks) (fun _ _ q=>Heap.get?_push_of_some _ q) (Nat.le_refl _) (dk_empty s.heap I.big),rfl,h _ (I.hok.fresh (Nat.le_refl _))⟩
theorem pe_dnewT:PE X (.Dict [] [] pos) tDNewT:=fun pins s σ H Q I h =>
  wpAny_Dict_empty ⟨.ref s.heap.objs.size,_,I.laid (a:=s.heap.objs.size) (o:=.dT []) (t':=s.toks) (fun _ _ q=>Heap.get?_push_of_some _ q) (Nat.le_refl _) (dt_empty s.heap I.big),rfl,h _ (I.hok.fresh (Nat.le_refl _))⟩
end
noncomputable def tPairs:List (TE × TE)→St→Hp→(List (V × V)→Hp→Prop)→Prop
  | [],_,H,Q=>Q [] H
  | (tk,tv) :: r,σ,H,Q=>tk σ H fun x H1=>tv σ H1 fun y H2=>tPairs r σ H2 fun ps H3=>Q ((x,y) :: ps) H3
noncomputable abbrev VV:List (V × V)→List (Value × Value)→Prop:=Paired fun p q=>RelV p.1 q.1∧RelV p.2 q.2
noncomputable def PPs (X:Cx) (pos:Pos) (keys:List (Option Expr)) (values:List Expr) (trs:List (TE × TE)):Prop :=
  ∀ (pins:List (Addr × Obj)) (s:Shared) (σ:St) (H:Hp) (Q:List (V × V)→Hp→Prop),Inv X pins σ H s→tPairs trs σ H Q →
    wpAny (model X.prog X.w) X.A (evalPairs (pairTrees keys values X.env pos)) (fun vs s'=>∃ ps H',Inv X pins σ H' s'∧VV ps vs∧Q ps H') X.xe s
theorem pps_nil {X:Cx} {pos:Pos}:PPs X pos [] [] []:=fun pins s σ H Q I h=>pairTrees_nil_walk ⟨[],H,I,.nil,h⟩
theorem pps_cons {X:Cx} {pos:Pos} {k v:Expr} {ks:List (Option Expr)} {vs:List Expr} {tk tv:TE} {trs:List (TE × TE)} (hk:PE X k tk) (hv:PE X v tv) (hr:PPs X pos ks vs trs) :
    PPs X pos (some k :: ks) (v :: vs) ((tk,tv) :: trs):=fun pins s σ H Q I h =>
  pairTrees_cons_walk (thn (hk pins s σ H _ I h) fun u s1 ⟨x,H1,I1,rx,q1⟩=>thn (hv pins s1 σ H1 _ I1 q1) fun w2 s2 ⟨y,H2,I2,ry,q2⟩ =>
    thn (hr pins s2 σ H2 _ I2 q2) fun ws s3 ⟨ps,H3,I3,rel,q3⟩=>⟨(x,y) :: ps,H3,I3,.cons ⟨rx,ry⟩ rel,q3⟩)
noncomputable def mergeK (kvs more:List (Key × V)):List (Key × V):=more.foldl (fun acc kv=>putK acc kv.1 kv.2) kvs
theorem KV.merge:∀ {more:List (Key × V)} {rs:List (Key × Value)} {kvs:List (Key × V)} {vs:List (Key × Value)},KV more rs→KV kvs vs→KV (mergeK kvs more) (merged vs rs):=by
  intro more rs kvs vs r
  unfold KV at r
  induction r generalizing kvs vs with
  | nil=>intro q; exact q
  | @cons p q ps qs h t ih =>
    intro r0
    have e:KV (putK kvs p.1 p.2) (stored vs q.1 q.2):=by
      have:=r0.put p.1 h.2
      rw [← h.1]; exact this
    exact ih e
theorem length_mergeK:∀ (more kvs:List (Key × V)),(mergeK kvs more).length≤kvs.length+more.length
  | [],kvs=>by show kvs.length≤kvs.length+0; omega
  | p :: r,kvs=>by
    have h1:=length_mergeK r (putK kvs p.1 p.2)
    have h2:=length_putK kvs p.1 p.2
    show (mergeK (putK kvs p.1 p.2) r).length≤_
    rw [List.length_cons]; omega
theorem carries_of {P:Program} {w:World}:∀ {kvs:List (Key × V)} {ws:List (Value × Value)},VV (kvs.map fun kv=>(kV kv.1,kv.2)) ws→∃ rs,Carries (mixKind P w) ws rs∧KV kvs rs
  | [],_,r=>by rw [List.map_nil] at r; cases r; exact ⟨[],True.intro,.nil⟩
  | p :: kvs,_,r=>by
    rw [List.map_cons] at r
    cases r with
    | @cons a b as bs h t =>
      obtain ⟨rs,c,q⟩:=carries_of (P:=P) (w:=w) t
      obtain ⟨b1,b2⟩:=b
      exact ⟨(p.1,b2) :: rs,⟨kV_is h.1,rfl,c⟩,.cons ⟨rfl,h.2⟩ q⟩
noncomputable def tDisp (trs:List (TE × TE)):TE:=fun σ H Q=>∀ p,H p=none→tPairs trs σ (upd H p (.dK [])) fun ps H2=>H2 p=some (.dK [])∧∃ kvs:List (Key × V),ps=kvs.map (fun kv=>(kV kv.1,kv.2))∧kvs.length≤15∧Q (.ref p) (upd H2 p (.dK (mergeK [] kvs)))
theorem pe_disp {X:Cx} {pos:Pos} {keys:List (Option Expr)} {values:List Expr} {trs:List (TE × TE)} (h:PPs X pos keys values trs) (hall:keys.all (·.isSome)=true) (hl:keys.length=values.length) (h0:keys≠[])
    (h15:keys.length≤15):PE X (.Dict keys values pos) (tDisp trs):=by
  intro pins s σ H Q I q
  have hn:=I.hok.fresh (Nat.le_refl s.heap.objs.size)
  have I1:=I.laid (a:=s.heap.objs.size) (o:=.dK []) (h':=s.heap.push { cls:=.type "dict",data:=.dict #[] }) (t':=s.toks) (fun _ _ q=>Heap.get?_push_of_some _ q) (Nat.le_refl _) (dk_empty s.heap I.big)
  refine wpAny_Dict_walk (knd:=mixKind X.prog X.w) hall hl h0 h15 (thn (h pins _ σ _ _ I1 (q _ hn)) fun ws s2 ⟨ps,H2,I2,rel,e,kvs,ep,lk,q2⟩=>?_)
  subst ep
  obtain ⟨rs,c,rk⟩:=carries_of (P:=X.prog) (w:=X.w) rel
  obtain ⟨z,hd,vs0,r0,dd⟩:=dk_of I2.hok e
  cases r0
  refine ⟨rs,c,dd,fun h' dd' hs=>⟨.ref s.heap.objs.size,_,?_,rfl,q2⟩⟩
  have hz:(mergeK [] kvs).length≤sizeLine:=by
    have h1:=length_mergeK kvs []
    rw [List.length_nil] at h1
    rw [sizeLine_eq]; omega
  have he:∃ q,h'.get? s.heap.objs.size=some q:=let ⟨q,_,_,hq,_⟩:=dd'; ⟨q,hq⟩
  exact d_write I2 (by rw [e]; exact True.intro) hs he (dk_new hz hd (rk.merge .nil) dd')
structure M1 (X:Cx) (o:Expr) (m:Str) (apos:Pos) (e:Expr) (cpos:Pos):Prop where
  base:attributeBase o m X.env (eval o X.env)=eval o X.env
  few:((backTo cpos (starEach [e] X.env)).all (fun x=>!x.1) && (backToKw cpos (keywordEach [] X.env)).all (fun x=>x.1.isSome)
    && decide (([e]:List Expr).length+([]:List Keyword).length+(if ([]:List Keyword).isEmpty then 0 else 1) < 30))=true
  line:(apos.endLine == cpos.line)=true
  trees:backTo cpos (starEach [e] X.env)=[(false,eval e X.env)]
structure M2 (X:Cx) (o:Expr) (m:Str) (apos:Pos) (e f:Expr) (cpos:Pos):Prop where
  base:attributeBase o m X.env (eval o X.env)=eval o X.env
  few:((backTo cpos (starEach [e,f] X.env)).all (fun x=>!x.1) && (backToKw cpos (keywordEach [] X.env)).all (fun x=>x.1.isSome)
    && decide (([e,f]:List Expr).length+([]:List Keyword).length+(if ([]:List Keyword).isEmpty then 0 else 1) < 30))=true
  line:(apos.endLine == cpos.line)=true
  trees:backTo cpos (starEach [e,f] X.env)=[(false,eval e X.env),(false,eval f X.env)]
noncomputable def IsD (H:Hp) (a:Addr):Prop:=(∃ kvs,Rd H a (.dK kvs))∨∃ kvs,Rd H a (.dT kvs)
theorem isD_at {X:Cx} {pins:List (Addr × Obj)} {σ:St} {H:Hp} {s:Shared} {a:Addr} (I:Inv X pins σ H s) (d:IsD H a) :
    s.TypeIs (.ref a) "dict"∧(∀ b,Value.ref a=.ref b→∃ ob,s.heap.get? b=some ob∧ob.dict=none)∧(a == sysModules)=false:=by
  rcases d with ⟨kvs,e⟩ | ⟨kvs,e⟩
  · obtain ⟨_,hd,vs,_,dd⟩:=dk_rd I.hok e
    refine ⟨dd.typeIs,fun b q=>?_,hd⟩
    cases q
    obtain ⟨ob,_,_,h1,h2,_⟩:=dd
    exact ⟨ob,h1,h2.2.1⟩
  · obtain ⟨_,hd,xs,_,dd⟩:=dt_rd I.hok e
    refine ⟨dd.typeIs,fun b q=>?_,hd⟩
    cases q
    obtain ⟨ob,_,_,h1,h2,_⟩:=dd
    exact ⟨ob,h1,h2.2.1⟩
section
variable {X:Cx} {pins:List (Addr × Obj)} {σ:St} {H:Hp} {s:Shared} {a:Addr} {y d:V} {u r:Value} {o:Option V} {A:Around} {E:Value→Shared→Prop}
theorem d_get2 {Q:Value→Shared→Prop} (hu:A.units+1 < cLine) (I:Inv X pins σ H s) (g:DGet H a y o) (ry:RelV y u) (rd:RelV d r) (h:∀ w' s',Inv X pins σ H s'→RelV (o.getD d) w'→Q w' s') :
    wpAny (model X.prog X.w) A (call (.builtin "dict.get") [.ref a,u,r]) Q E s:=by
  rcases g with ⟨kvs,k,e,ey,l⟩ | ⟨kvs,k,b,e,ey,eb,l⟩
  · subst ey
    obtain ⟨z,hd,vs,rel,dd⟩:=dk_rd I.hok e
    refine call_meetsIn PySem.F.slot_dict_get dd.typeIs PySem.F.entry_dict_get (PySem.F.args_dict_get_3 _ _ _) (meets_dict_get_default (mixKind X.prog X.w) a (kV_is ry) hd r) ⟨_,dd.mapOf,h _ _ (I.tok _) ?_⟩
    rw [l]
    exact (rel.val k).getD rd
  · subst ey
    cases (show u=Value.ref b from ry)
    obtain ⟨z,hd,xs,rel,dd⟩:=dt_rd I.hok e
    refine call_meetsIn PySem.F.slot_dict_get dd.typeIs PySem.F.entry_dict_get (PySem.F.args_dict_get_3 _ _ _) (meetsH_dict_get_default (tupleKind (mixKind X.prog X.w)) a b hd r) ⟨tupleKind_room_in1 hu,k,xs,key_of I.hok eb,dd,h _ _ (I.tok _) ?_⟩
    rw [l]
    exact (rel.val k).getD rd
end
noncomputable def tDGet2 (td ty tx:TE):TE:=fun σ H Q=>td σ H fun x H1=>∃ a,x=.ref a∧IsD H1 a∧ty σ H1 fun y H2=>tx σ H2 fun z H3=>∃ o,DGet H3 a y o∧Q (o.getD z) H3
section
variable {X:Cx} {o e f:Expr} {apos cpos:Pos} {td ty tx:TE}
theorem pe_dget2 (hu:X.A.units+1 < cLine) (ho:PE X o td) (he:PE X e ty) (hf:PE X f tx) (m:M2 X o "get" apos e f cpos):PE X (.Call (.Attribute o "get" apos) [e,f] [] cpos) (tDGet2 td ty tx):=by
  intro pins s σ H Q I h
  refine wpAny_Call_method m.base m.few m.line PySem.F.plainAttrs_dict PySem.F.slot_dict_get PySem.F.type_dict_get (thn (ho pins s σ H _ I h) fun u s1 ⟨x,H1,I1,rx,a,ex,d,q1⟩=>?_)
  subst ex
  obtain rfl:u=Value.ref a:=rx
  obtain ⟨t1,t2,_⟩:=isD_at I1 d
  refine ⟨t1,t2,?_⟩
  rw [m.trees]
  refine Calls.callWith_builtin rfl (Calls.evalArgs_plain (Calls.spliced_cons (thn (he pins s1 σ H1 _ I1 q1) fun iv s2 ⟨y,H2,I2,ry,q2⟩ =>
    Calls.spliced_cons (thn (hf pins s2 σ H2 _ I2 q2) fun fv s3 ⟨z,H3,I3,rz,ov,g,q3⟩=>Calls.spliced_nil ?_))))
  exact d_get2 hu I3 g ry rz fun w' s4 I4 rw'=>⟨_,H3,I4,rw',q3⟩
end
section
variable {X:Cx} {pins:List (Addr × Obj)} {σ:St} {H:Hp} {s:Shared} {a:Addr} {kvs:List (Key × V)} {A:Around} {E:Value→Shared→Prop}
end
section
variable {X:Cx} {pins:List (Addr × Obj)} {σ:St} {H:Hp} {s:Shared} {a:Addr} {y:V} {u:Value} {A:Around} {E:Value→Shared→Prop}
end
end L2
set_option linter.all false
namespace MD
open PySem
noncomputable abbrev kwD (d:Value):List (Str × Value):=[(Str.ofString "default",d)]
theorem args_d (a v:Value):argsOk "max" ⟨[a],kwD v⟩:=by
  unfold argsOk kwD
  kernel_rfl
section
variable {prog:Program} {w:World} {A:Around} {R:Result→Shared→Prop} {It:Addr} {fp wr:List Addr} {n:Nat} {Pr:Nat→Value→Prop} {Sx:Nat→Heap→Prop}
theorem nm:(toString "max" ++ toString ".loop" : String) = "max.loop":=by decide
theorem on (W:Walks prog w A.in1 It fp wr n Pr Sx) (bt:Nat→Nat→Bool) (cm:CmpOf prog w A.in1 .Gt Pr bt) (B:Addr) (nB:B ∉ fp) (d:Value) :
    ∀ (k j:Nat) (s:Shared) (best:Value) (c:Nat),n - (j+1)=k→j+1≤n→Sx (j+1) s.heap→Pr (argBest bt j) best →
    s.heap.get? B=some { cls:=.type "list",dict:=none,data:=.seq #[best,best] c,slots:=#[] } →
    (∀ v h' tk,Pr (argBest bt (n - 1)) v→(∀ b o,b ∉ wr→b≠B→s.heap.get? b=some o→h'.get? b=some o)→R (.ok (.ret v)) { s with heap:=h',toks:=tk }) →
    codeAny (model prog w) A (.builtin "max.loop" ⟨[.ref It,.none,.ref B],kwD d⟩) R s:=by
  have nW:B ∉ wr:=fun z=>nB (W.sub _ z)
  intro k
  induction k with
  | zero =>
    intro j s best c ek ej st pb eB fin
    have en:j+1=n:=by omega
    refine codeAny_builtin PySem.F.entry_max_loop ?_
    rw [Around.under_plainId (PySem.F.plain_max_loop) _]
    show wpAny _ A.in1 (seqItems? (.ref B) >>= _) _ _ s
    refine wpAny_bind (wpAny_seqItems eB rfl ?_)
    show wpAny _ A.in1 (tryCatch (pyNext (.ref It)) _ >>= _) _ _ s
    refine wpAny_bind (wpAny_tryCatch (W.done s _ _ (en ▸ st) fun h' tk kp=>?_))
    have eB':=kp B _ nW eB
    show wpAny _ A.in1 (updateSeq B (fun _=>#[]) >>= _) _ _ _
    refine wpAny_bind ?_
    refine wpAny_updateSeq eB' rfl (wpAny_bind (wpAny_letGo (wpAny_pure ?_)))
    exact fin best _ tk (by rw [← en]; exact pb) fun b o nb nS e=>(Heap.get?_update_other _ _ (Ne.symm nS)).trans (kp b o nb e)
  | succ k ih =>
    intro j s best c ek ej st pb eB fin
    have lt:j+1 < n:=by omega
    refine codeAny_builtin PySem.F.entry_max_loop ?_
    rw [Around.under_plainId (PySem.F.plain_max_loop) _]
    show wpAny _ A.in1 (seqItems? (.ref B) >>= _) _ _ s
    refine wpAny_bind (wpAny_seqItems eB rfl ?_)
    show wpAny _ A.in1 (tryCatch (pyNext (.ref It)) _ >>= _) _ _ s
    refine wpAny_bind (wpAny_tryCatch (W.item (j+1) s _ _ lt st fun v h' tk pv st' kp=>?_))
    have eB':=kp B _ nW eB
    show wpAny _ A.in1 (tryCatch (holding [v,v] (richCompare .Gt v best >>= _)) _ >>= _) _ _ _
    refine wpAny_bind (wpAny_tryCatch (wpAny_holding (wpAny_bind (cm (j+1) (argBest bt j) v best _ _ _ pv pb ?_))))
    refine wpAny_bind (wpAny_holding (wpAny_truthy_bool ?_))
    refine wpAny_bind (wpAny_letGo (wpAny_pure ?_))
    cases eb:bt (j+1) (argBest bt j) with
    | true =>
      rw [if_pos rfl]
      refine wpAny_bind ?_
      refine wpAny_updateSeq eB' rfl (wpAny_bind (wpAny_letGo ?_))
      rw [nm]
      refine wpAny_pure ⟨plainId_quiet PySem.F.plain_max_loop _,ih (j+1) _ v _ (by omega) lt (W.frame _ _ _ st' fun b bf o e=>?_) (by simp only [argBest,eb,if_true]; exact pv) (Heap.get?_update_self _ eB' rfl) fun v' h2 tk2 pv' kp2=>?_⟩
      · exact (Heap.get?_update_other _ _ (fun z:B=b=>nB (by rw [z]; exact bf))).trans e
      · exact fin v' h2 tk2 pv' fun b o nb nS e=>kp2 b o nb nS ((Heap.get?_update_other _ _ (Ne.symm nS)).trans (kp b o nb e))
    | false =>
      rw [if_neg Bool.false_ne_true]
      refine wpAny_bind (wpAny_letGo ?_)
      rw [nm]
      refine wpAny_pure ⟨plainId_quiet PySem.F.plain_max_loop _,ih (j+1) _ best c (by omega) lt st' (by simp only [argBest,eb,Bool.false_eq_true,if_false]; exact pb) eB' fun v' h2 tk2 pv' kp2=>?_⟩
      exact fin v' h2 tk2 pv' fun b o nb nS e=>kp2 b o nb nS (kp b o nb e)
theorem begin_ (W:Walks prog w A.in1 It fp wr n Pr Sx) (bt:Nat→Nat→Bool) (cm:CmpOf prog w A.in1 .Gt Pr bt) (B:Addr) (nB:B ∉ fp) (d:Value) {s:Shared} {c:Nat} (st:Sx 0 s.heap)
    (eB:s.heap.get? B=some { cls:=.type "list",dict:=none,data:=.seq #[] c,slots:=#[] })
    (none_:n=0→∀ h' tk,(∀ b o,b ∉ wr→s.heap.get? b=some o→h'.get? b=some o)→R (.ok (.ret d)) { s with heap:=h',toks:=tk })
    (fin:0 < n→∀ v h' tk,Pr (argBest bt (n - 1)) v→(∀ b o,b ∉ wr→b≠B→s.heap.get? b=some o→h'.get? b=some o)→R (.ok (.ret v)) { s with heap:=h',toks:=tk }) :
    codeAny (model prog w) A (.builtin "max.loop" ⟨[.ref It,.none,.ref B],kwD d⟩) R s:=by
  have nW:B ∉ wr:=fun z=>nB (W.sub _ z)
  refine codeAny_builtin PySem.F.entry_max_loop ?_
  rw [Around.under_plainId (PySem.F.plain_max_loop) _]
  show wpAny _ A.in1 (seqItems? (.ref B) >>= _) _ _ s
  refine wpAny_bind (wpAny_seqItems eB rfl ?_)
  show wpAny _ A.in1 (tryCatch (pyNext (.ref It)) _ >>= _) _ _ s
  by_cases h0:n=0
  · refine wpAny_bind (wpAny_tryCatch (W.done s _ _ (h0 ▸ st) fun h' tk kp=>?_))
    show wpAny _ A.in1 (rule _ >>= _) _ _ _
    exact wpAny_bind (wpAny_rule (wpAny_pure (none_ h0 h' tk kp)))
  · have hn:0 < n:=by omega
    refine wpAny_bind (wpAny_tryCatch (W.item 0 s _ _ hn st fun v h' tk pv st' kp=>?_))
    have eB':=kp B _ nW eB
    show wpAny _ A.in1 (updateSeq B (fun _=>#[v,v]) >>= _) _ _ _
    refine wpAny_bind ?_
    refine wpAny_updateSeq eB' rfl ?_
    rw [nm]
    refine wpAny_pure ⟨plainId_quiet PySem.F.plain_max_loop _,on W bt cm B nB d _ 0 _ v _ rfl hn (W.frame _ _ _ st' fun b bf o e=>?_) pv (Heap.get?_update_self _ eB' rfl) fun v' h2 tk2 pv' kp2=>?_⟩
    · exact (Heap.get?_update_other _ _ (fun z:B=b=>nB (by rw [z]; exact bf))).trans e
    · exact fin hn v' h2 tk2 pv' fun b o nb nS e=>kp2 b o nb nS ((Heap.get?_update_other _ _ (Ne.symm nS)).trans (kp b o nb e))
end
section
variable {prog:Program} {w:World} {A:Around} {E:Value→Shared→Prop} {s:Shared}
theorem tree_kw {id:String} {b:Builtin} {args:List Value} {kw:List (Str × Value)} {Q:Value→Shared→Prop} (h1:builtinKind id=none) (h2:plainId id=true) (h3:entryFor table id=some b) (h4:argsOk id ⟨args,kw⟩)
    (h:wpAny (model prog w) A.in1 (b ⟨args,kw⟩) (fun fin s'=>match fin with
      | .done f=>(match (Except.ok f:Result) with | .ok (.ret v)=>Q v s' | .ok _=>False | .error e=>E e s')
      | .again c'=>c'.quiet=true∧codeAny (model prog w) A c' (fun r s'=>match r with | .ok (.ret v)=>Q v s' | .ok _=>False | .error e=>E e s') s') E s):wpAny (model prog w) A (call (.builtin id) args kw) Q E s:=by
  refine wpAny_call (codeAny_call_builtin h2 h3 ?_)
  simp only [checkBuiltinCall,h1]
  cases e:Manifest.signature? id with
  | none=>exact wpAny_pure h
  | some sg =>
    have h4':Bind.checkArgs id sg ⟨args,kw⟩=pure ():=by simpa only [argsOk,e] using h4
    simp only [h4']
    exact wpAny_pure h
theorem call {x d:Value} {Q:Value→Shared→Prop}
    (h:wpAny (model prog w) A.in1 (pyIter x) (fun it s2=>∃ I fp wr n Pr Sx bt,it=.ref I∧Walks prog w A.in1 I fp wr n Pr Sx∧Sx 0 s2.heap∧(∀ b∈fp,b < s2.heap.objs.size)∧CmpOf prog w A.in1 .Gt Pr bt ∧
      (n=0→∀ h' tk,(∀ b o,b ∉ wr→s2.heap.get? b=some o→h'.get? b=some o)→Q d { s2 with heap:=h',toks:=tk }) ∧
      (0 < n→∀ v h' tk,Pr (argBest bt (n - 1)) v→(∀ b o,b ∉ wr→s2.heap.get? b=some o→h'.get? b=some o)→Q v { s2 with heap:=h',toks:=tk })) E s) :
    wpAny (model prog w) A (PySem.call (.builtin "max") [x] (kwD d)) Q E s:=by
  refine tree_kw PySem.F.kind_max PySem.F.plain_max PySem.F.entry_max (args_d _ _) ?_
  show wpAny _ A.in1 (Builtin.Builtins.bindParams "max" ["key", "default"] 0 ⟨[],kwD d⟩ >>= _) _ _ s
  refine wpAny_bind (wpAny_of_eq (show Builtin.Builtins.bindParams "max" ["key", "default"] 0 ⟨[],kwD d⟩=pure [none,some d] from rfl) ?_)
  refine wpAny_bind (wpAny_pure ?_)
  refine wpAny_bind (wpAny_mono h (fun it s2 h2=>?_) fun _ _ e=>e)
  obtain ⟨I,fp,wr,n,Pr,Sx,bt,rfl,W,st,hf,cm,q0,q1⟩:=h2
  refine wpAny_bind (wpAny_newObj_type ?_)
  have nB:s2.heap.objs.size ∉ fp:=fun z=>Nat.lt_irrefl _ (hf _ z)
  rw [nm]
  refine wpAny_pure ⟨plainId_quiet PySem.F.plain_max_loop _,begin_ W bt cm s2.heap.objs.size nB d (W.frame _ _ _ st fun b _ o e=>Heap.get?_push_of_some _ e) (Heap.get?_push_size _ rfl) (fun z h' tk kp=>?_) fun z v h' tk pv kp=>?_⟩
  · exact q0 z h' tk fun b o nb e=>kp b o nb (Heap.get?_push_of_some _ e)
  · exact q1 z v h' tk pv fun b o nb e=>kp b o nb (Nat.ne_of_lt (Heap.lt_size e)) (Heap.get?_push_of_some _ e)
end
end MD
set_option linter.all false
namespace MQ
open PySem
end MQ
set_option linter.all false
namespace DP
open PySem
section
variable {prog:Program} {w:World} {K:Type} [DecidableEq K] {knd:KeyKind prog w K} {A:Around} {R:Result→Shared→Prop} {It:Addr} {fp wr:List Addr} {n:Nat} {Pr:Nat→Value→Prop} {Sx:Nat→Heap→Prop}
end
end DP
set_option linter.all false
namespace DP
open PySem
section
variable {prog:Program} {w:World} {K:Type} [DecidableEq K] {knd:KeyKind prog w K} {A:Around} {E:Value→Shared→Prop} {s:Shared}
end
end DP
set_option Elab.async false
set_option linter.all false
set_option maxRecDepth 100000
set_option maxHeartbeats 4000000
namespace L2
open PySem PySem.Spec PyProof.Rows
theorem vals_of {xs:List V}:∀ {us:List Value},xs.length=us.length→(∀ (i:Nat) (x:V) (u:Value),xs[i]?=some x→us[i]?=some u→RelV x u)→Vals xs us:=by
  induction xs with
  | nil =>
    intro us hl _
    cases us with
    | nil=>exact .nil
    | cons u us=>cases hl
  | cons x xs ih =>
    intro us hl h
    cases us with
    | nil=>cases hl
    | cons u us=>exact .cons (h 0 x u rfl rfl) (ih (by simpa using hl) fun i y v e1 e2=>h (i+1) y v (by simpa using e1) (by simpa using e2))
theorem rel_key {k:Key} {v:Value} (h:keyIs k v=true):RelV (kV k) v:=by
  rcases keyIs_shape h with ⟨i,t,rfl,rfl⟩ | ⟨x,t,rfl,rfl⟩
  · exact ⟨t,rfl⟩
  · exact ⟨t,rfl⟩
theorem KV.at_ {κ:Type} {kvs:List (κ × V)} {vs:List (κ × Value)} (r:KV kvs vs):∀ (i:Nat) (p:κ × Value),vs[i]?=some p→∃ q:κ × V,kvs[i]?=some q∧q.1=p.1∧RelV q.2 p.2:=by
  induction r with
  | nil=>intro i p h; simp at h
  | cons h1 h2 ih =>
    intro i p h
    cases i with
    | zero =>
      simp at h
      subst h
      exact ⟨_,rfl,h1⟩
    | succ i=>simpa using ih i p (by simpa using h)
theorem call_list_dict {X:Cx} (hc:X.calm=true):CallR X (.type "list") (fun xs H Q=>∃ (p:Addr) (kvs:List (Key × V)),xs=[.ref p]∧H p=some (.dK kvs)∧∀ l,H l=none→Q (.ref l) (upd H l (.lst (kvs.map fun kv=>kV kv.1)))):=by
  intro pins s σ H xs us Q I r h
  obtain ⟨p,kvs,rfl,hp,q⟩:=h
  obtain ⟨u,rfl,rx⟩:=vals1 r
  cases rx
  obtain ⟨hz,lo,vs,rel,dd⟩:=dk_of I.hok hp
  obtain ⟨ep,da⟩:=dd.dictAt
  have hl:vs.length=kvs.length:=rel.length.symm
  refine PySem.W.kdl_call (PySem.W.kdl_dict lo) (I.ok.hd hc) da (by rw [hl]; exact hz) fun h' tk acc c kp e it=>?_
  have va:Vals (kvs.map fun kv=>kV kv.1) acc.toList:=by
    refine vals_of (by rw [List.length_map,← hl,← it.1]; exact Array.length_toList.symm) fun i x u hx hu=>?_
    obtain ⟨k,y,hk,hi⟩:=it.2 i u (by simpa using hu)
    obtain ⟨q',hq,e1,_⟩:=rel.at_ i (k,y) hk
    rw [List.getElem?_map,hq] at hx
    cases hx
    show RelV (kV q'.1) u
    rw [e1]
    exact rel_key hi
  exact ⟨.ref s.heap.objs.size,_,I.laid (t':=tk) kp (Nat.le_refl _) (show ObjOk X.prog X.w _ h' _ (.lst _) from ⟨by rw [List.length_map]; exact hz,acc.toList,c,va,by rw [Array.toArray_toList]; exact e⟩),rfl,q _ I.fresh⟩
noncomputable def Prs (H:Hp):List V→List (Key × V)→Prop:=Paired fun v kv=>∃ p:Addr,v=.ref p∧H p=some (.tup [kV kv.1,kv.2])
end L2
set_option Elab.async false
set_option linter.all false
set_option maxRecDepth 100000
set_option maxHeartbeats 4000000
namespace L2
open PySem PySem.Spec PyProof.Rows
theorem pre_sub (y z:Str) (i:Nat) (hi:i≤y.length):(decide (i+z.length≤y.length) && Builtin.Str.subAt y z i)=z.cps.toList.isPrefixOf (y.cps.toList.drop i):=by
  rw [Bool.eq_iff_iff,List.isPrefixOf_iff_prefix,List.prefix_iff_eq_take,Bool.and_eq_true,decide_eq_true_eq]
  unfold Builtin.Str.subAt
  have hz:z.cps.toList.length=z.length:=by simp [Str.length]
  have hy:y.cps.toList.length=y.length:=by simp [Str.length]
  have e:(y.cps.extract i (i+z.length)).toList=(y.cps.toList.drop i).take z.length:=by
    rw [Array.toList_extract,List.extract_eq_take_drop]
    congr 1
    omega
  rw [beq_iff_eq]
  constructor
  · rintro ⟨_,h⟩
    rw [hz,← e,h]
  · intro h
    rw [hz] at h
    refine ⟨?_,?_⟩
    · have:=congrArg List.length h
      rw [List.length_take,List.length_drop,hz,hy] at this
      omega
    · apply Array.toList_inj.mp
      rw [e]
      exact h.symm
theorem mt_starts {X:Cx}:MtR X "str.startswith" (fun x xs H Q=>∃ (y z:Str) (i:Nat),x=.str y∧xs=[.str z,.int (i:Nat)]∧i≤y.length∧Q (.bl (z.cps.toList.isPrefixOf (y.cps.toList.drop i))) H):=by
  intro pins s σ H x xs v us Q I rx r h
  obtain ⟨y,z,i,rfl,rfl,hi,q⟩:=h
  obtain ⟨t,rfl⟩:=rx
  obtain ⟨u,u',rfl,⟨t1,rfl⟩,⟨t2,rfl⟩⟩:=vals2 r
  refine SC.startswith3 ?_
  have e:Txt.startswith3 y z (i:Int)=z.cps.toList.isPrefixOf (y.cps.toList.drop i):=by
    have ef:fromIndex y.length (i:Int)=i:=by
      unfold fromIndex
      rw [if_neg (by omega)]
      omega
    unfold Txt.startswith3
    rw [ef]
    exact pre_sub y z i hi
  rw [e]
  exact ⟨.bl _,H,I,rfl,q⟩
theorem call_max3 {X:Cx} (hc:X.calm=true):CallR X (.builtin "max") (fun xs H Q=>∃ i j k:Int,xs=[.int i,.int j,.int k]∧Q (.int (max (max i j) k)) H):=by
  intro pins s σ H xs us Q I r h
  obtain ⟨i,j,k,rfl,q⟩:=h
  cases r with
  | cons r1 r =>
    obtain ⟨u,u',rfl,⟨t2,rfl⟩,⟨t3,rfl⟩⟩:=vals2 r
    obtain ⟨t1,rfl⟩:=r1
    refine max_three_ints (I.ok.hd hc) fun h' tk kp=>?_
    have e:∃ t,(if j > i then (if k > j then Value.int k t3 else .int j t2) else (if k > i then .int k t3 else .int i t1))=.int (max (max i j) k) t:=by
      by_cases h1:j > i
      · rw [if_pos h1]
        by_cases h2:k > j
        · rw [if_pos h2]
          exact ⟨t3,by congr 1; omega⟩
        · rw [if_neg h2]
          exact ⟨t2,by congr 1; omega⟩
      · rw [if_neg h1]
        by_cases h2:k > i
        · rw [if_pos h2]
          exact ⟨t3,by congr 1; omega⟩
        · rw [if_neg h2]
          exact ⟨t1,by congr 1; omega⟩
    obtain ⟨t,e⟩:=e
    rw [e]
    exact ⟨.int _,H,I.kept (t':=tk) kp,⟨_,rfl⟩,q⟩
theorem ints_at {ns:List Int} {its:List Value} (r:Vals (ns.map V.int) its) {i:Nat} {v:Value} (h:its.toArray[i]?=some v):∃ t,v=.int (ns.getD i 0) t:=by
  have h':its[i]?=some v:=by simpa using h
  have hl:=r.length
  have hi:i < its.length:=(List.getElem?_eq_some_iff.mp h').1
  have hb:i < ns.length:=by rw [List.length_map] at hl; omega
  obtain ⟨u,hu,ru⟩:=r.get (i:=i) (x:=V.int ns[i]) (by rw [List.getElem?_map,List.getElem?_eq_getElem hb]; rfl)
  rw [h'] at hu
  cases hu
  obtain ⟨t,rfl⟩:=ru
  refine ⟨t,?_⟩
  rw [List.getD_eq_getElem?_getD,List.getElem?_eq_getElem hb]
  rfl
theorem foldr_max_le {ns:List Int} {m:Int} (h0:0≤m) (h:∀ n∈ns,n≤m):ns.foldr max 0≤m:=by
  induction ns with
  | nil=>exact h0
  | cons a r ih =>
    have h1:=h a List.mem_cons_self
    have h2:=ih fun n hn=>h n (List.mem_cons_of_mem _ hn)
    show max a (r.foldr max 0)≤m
    omega
theorem le_foldr_max {ns:List Int} {n:Int} (h:n∈ns):n≤ns.foldr max 0:=by
  induction ns with
  | nil=>cases h
  | cons a r ih =>
    show n≤max a (r.foldr max 0)
    rcases List.mem_cons.mp h with rfl | h
    · omega
    · have:=ih h; omega
noncomputable def tMaxD (K:PySem.W.Frag) (te:TE):TE:=fun σ H Q=>te σ H fun x H1=>∃ (l:Addr) (ns:List Int),x=.ref l∧SqL K H1 l (ns.map V.int)∧(∀ n∈ns,0≤n)∧Q (.int (ns.foldr max 0)) H1
theorem pe_maxD {X:Cx} {e:Expr} {te:TE} {p pos cpos kpos:Pos} {j:Nat} (hc:X.calm=true) (hm:X.mg "max" = none) (hg:Gl X "max") (he:PE X e te)
    (hs:backTo pos (starEach [e] X.env)=(false,eval e X.env) :: backTo pos (starEach [] X.env):=by rfl) (hpl:(backTo pos (starEach [e] X.env)).any (·.1)=false:=by rfl)
    (hs':starEach (e :: []) X.env=(false,eval e X.env) :: starEach [] X.env:=by rfl) :
    PE X (.Call (.Name "max" p) [e] [⟨some "default",.Constant (.int 0) j cpos,kpos⟩] pos) (tMaxD X.K te):=by
  intro pins s σ H Q I h
  refine wpAny_Call_Name_kw (ld_blt I hg hm boot_max ?_)
  let Qm:List V→Hp→Prop:=fun vs H1=>match vs with
    | [x]=>∃ (l:Addr) (ns:List Int),x=.ref l∧SqL X.K H1 l (ns.map V.int)∧(∀ n∈ns,0≤n)∧Q (.int (ns.foldr max 0)) H1
    | _=>False
  have h':tCons te tNil σ H Qm:=h
  refine callWith_kw (thn (pa_cons he pa_nil hs' pos pins s σ H Qm I h') fun us s1 ⟨vs,H1,I1,r1,q1⟩=>?_) hs hpl
  refine thn (pk_cons (nm:=some "default") (kpos:=kpos) (pe_int (j:=j) (pos:=cpos)) pk_nil pos pins s1 σ H1 (fun zs H2=>zs=[V.int 0]∧H2=H1) I1 ⟨rfl,rfl⟩) fun ws s2 ⟨zs,H2,I2,rz,ez,eH⟩=>?_
  subst ez
  subst eH
  obtain ⟨w0,rfl,⟨t0,rfl⟩⟩:=vals1 rz
  match vs,r1,q1 with
  | [x],r1,q1 =>
    obtain ⟨u0,rfl,r⟩:=vals1 r1
    obtain ⟨l,ns,rfl,hq,hn,q⟩:=q1
    cases r
    obtain ⟨its,rv,pl,hz⟩:=I2.list hq
    have hl:=rv.length
    rw [List.length_map] at hl
    have hd:X.A.in1.handled=none:=I2.ok.hd hc
    show wpAny _ _ (PySem.call (.builtin "max") [.ref l] (MD.kwD (.int 0 t0))) _ _ _
    refine MD.call (wpAny_pyIter_list pl.isList ?_)
    obtain ⟨o,n,eo,_⟩:=id pl
    have ll:l < s2.heap.objs.size:=Heap.lt_size eo
    have I3:Inv X pins σ H2 { s2 with heap:=s2.heap.push { cls:=.type "list_iterator",data:=.fields #[.ref l,.int 0 0] } }:=I2.kept (t':=s2.toks) fun b o q=>Heap.get?_push_of_some _ q
    obtain ⟨f0,f1,f2,f3,f4,f5⟩:=I2.fpOk (b:=s2.heap.objs.size) (Nat.le_refl _) I2.fresh
    have ev:its.toArray.size=ns.length:=by rw [List.size_toArray,hl]
    refine ⟨s2.heap.objs.size,_,_,_,_,_,fun i k=>decide (ns.getD i 0 > ns.getD k 0),rfl,Walks.list hd s2.heap.objs.size l (Nat.ne_of_lt ll) its.toArray,⟨⟨_,Heap.get?_push_size _ rfl,rfl,rfl⟩,pl.isList.push _⟩,fun b hb=>?_,CmpOf.ints_gt (fun i=>ns.getD i 0) (fun i v hv=>ints_at rv hv),fun z h' tk kp=>?_,fun z v h' tk hv kp=>?_⟩
    · show b < (s2.heap.push _).objs.size
      rw [Heap.size_push]
      rcases List.mem_cons.mp hb with rfl | hb
      · exact Nat.lt_succ_self _
      · rw [List.mem_singleton.mp hb]
        exact Nat.lt_succ_of_lt ll
    · have en:ns=[]:=List.eq_nil_of_length_eq_zero (by rw [← ev]; exact z)
      subst en
      exact ⟨.int 0,H2,I3.turned (it:=s2.heap.objs.size) (fun b o hb e=>kp b o (by simpa using hb) e) f0 f1 f3 f4 f5,⟨_,rfl⟩,q⟩
    · obtain ⟨t,rfl⟩:=ints_at rv hv
      obtain ⟨b1,b2⟩:=argBest_gt (fun i=>ns.getD i 0) (its.toArray.size - 1)
      generalize hk:argBest (fun i k=>decide (ns.getD i 0 > ns.getD k 0)) (its.toArray.size - 1)=k at *
      have hkl:k < ns.length:=by omega
      have ek:ns.getD k 0=ns[k]:=by rw [List.getD_eq_getElem?_getD,List.getElem?_eq_getElem hkl]; rfl
      have em:ns.foldr max 0=ns.getD k 0:=by
        have h1:ns.foldr max 0≤ns.getD k 0:=foldr_max_le (by rw [ek]; exact hn _ (List.getElem_mem hkl)) fun n hn'=>by
          obtain ⟨i,hi,ei⟩:=List.getElem_of_mem hn'
          have:=b2 i (by omega)
          have ei':ns.getD i 0=n:=by rw [List.getD_eq_getElem?_getD,List.getElem?_eq_getElem hi,← ei]; rfl
          rw [ei'] at this
          exact this
        have h2:ns.getD k 0≤ns.foldr max 0:=by rw [ek]; exact le_foldr_max (List.getElem_mem hkl)
        omega
      rw [em] at q
      exact ⟨.int _,H2,I3.turned (it:=s2.heap.objs.size) (fun b o hb e=>kp b o (by simpa using hb) e) f0 f1 f3 f4 f5,⟨_,rfl⟩,q⟩
noncomputable def Itd (a:Int) (n:Nat):It:=⟨fun i _=>i < n,fun i H x H'=>H'=H∧x=.int (a - i),fun i _=>n≤i⟩
theorem turn_down {P:Program} {w:World} {K:PySem.W.Frag} {tg:Expr} (it:Addr) (a:Int) (n:Nat):Turn P w K tg (Itd a n) [it] it (fun i h=>IsRangeIter h it (a+(i:Nat) * (-1)) ((n:Int) - (i:Nat)) (-1)) where
  mem:=by simp
  obj:=fun i h st b hb=>by
    have e:b=it:=by simpa using hb
    subst e
    refine ⟨_,st,fun v z=>?_⟩
    have z':Data.fields _=Data.cell v:=z
    cases z'
  keep:=fun i h h' st k=>k it (by simp) _ st
  item:=by
    intro X hP hw hK hc i pins s σ H E I hf st hg
    subst hP hw hK
    obtain ⟨f0,f1,f2,f3,f4,f5⟩:=hf it (by simp)
    refine (Walks.range (prog:=X.prog) (w:=X.w) (I.ok.hd hc) it a (-1) n).item i s _ _ hg st fun v h' tk hv st' kk=>?_
    obtain ⟨t,rfl⟩:=hv
    have I1:Inv X pins σ H { s with heap:=h',toks:=tk }:=I.turned (fun b o hb e=>kk b o (by simpa using hb) e) f0 f1 f3 f4 f5
    refine ⟨_,rfl,go_of (s:={ s with heap:=h',toks:=tk }) (n:="range_iterator") st' rfl rfl (by decide) ⟨.int (a - i),H,I1,⟨t,?_⟩,⟨rfl,rfl⟩,st',fun b hb=>(hf b hb).1⟩⟩
    congr 1
    omega
  done:=by
    intro X hP hw hK hc i pins s σ H E I hf st hg
    subst hP hw hK
    obtain ⟨f0,f1,f2,f3,f4,f5⟩:=hf it (by simp)
    refine wpAny_pyNext_range_end (I.ok.hd hc) st (by have:n≤i:=hg; omega) fun h' eb=>⟨rfl,?_⟩
    exact I.turned (t':=s.toks) (fun b o hb e=>eb b o hb e) f0 f1 f3 f4 f5
  self:=fun _ _ _ _ _ st h=>wpAny_pyIter_rangeiter st h
theorem for_down {a:Int} {n:Nat} {g:TG} {tb:TS} {D:Ends} {σ:St} {H:Hp} (Pv:Nat→St→Hp→Prop) (h0:Pv 0 σ H)
    (hs:∀ i σ H,i < n→Pv i σ H→g (.int (a - i)) σ H fun σ2 H2=>tb { D with nx:=Pv (i+1),ct:=Pv (i+1),bk:=D.nx } σ2 H2) (hd:∀ σ H,Pv n σ H→D.nx σ H) :
    ∃ W:Nat→Nat→St→Hp→Prop,(∃ m,W 0 m σ H)∧∀ i m σ H,W i m σ H →
      ((Itd a n).stop i H∧D.nx σ H)∨((Itd a n).go i H∧∃ N:St→Hp→Prop,(∀ σ' H',N σ' H'→∃ m',m' < m∧W (i+1) m' σ' H')∧∀ x H',(Itd a n).yld i H x H'→g x σ H' fun σ2 H2=>tb { D with nx:=N,ct:=N,bk:=D.nx } σ2 H2):=by
  refine ⟨fun i m σ H=>m=n - i∧i≤n∧Pv i σ H,⟨n,rfl,Nat.zero_le _,h0⟩,?_⟩
  rintro i m σ H ⟨rfl,hi,p⟩
  by_cases hlt:i < n
  · refine .inr ⟨hlt,Pv (i+1),fun σ' H' p'=>⟨n - (i+1),by omega,rfl,hlt,p'⟩,fun x H' y=>?_⟩
    obtain ⟨rfl,rfl⟩:=y
    exact hs i σ _ hlt p
  · have e:i=n:=by omega
    subst e
    exact .inl ⟨Nat.le_refl _,hd σ H p⟩
end L2
set_option linter.all false
namespace M08
noncomputable def lng (t:List Nat):List (List Nat)→Nat
  | []=>0
  | c :: cs=>max (if c.isPrefixOf t=true then c.length else 0) (lng t cs)
theorem lng_le (t:List Nat):∀ cs,lng t cs≤t.length
  | []=>Nat.zero_le _
  | c :: cs=>by
    have ih:=lng_le t cs
    unfold lng
    split
    · rename_i h
      have:=(List.isPrefixOf_iff_prefix.mp h).length_le
      omega
    · omega
noncomputable def ended (ms ks:List (List Nat)) (t:List Nat):Nat:=if lng t ks=0 then lng t ms else 0
noncomputable def stepN (ms ks:List (List Nat)) (t:List Nat):Nat:=max (max (lng t ks) (ended ms ks t)) 1
noncomputable def cutN (ms ks:List (List Nat)):Nat→List Nat→List Nat→List (List Nat)
  | _,acc,[]=>if acc=[] then [] else [acc]
  | 0,_,_ :: _=>[]
  | n+1,acc,c :: r =>
    if ended ms ks (c :: r)=0 then cutN ms ks n (acc++(c :: r).take (stepN ms ks (c :: r))) ((c :: r).drop (stepN ms ks (c :: r)))
    else (acc++(c :: r).take (stepN ms ks (c :: r))) :: cutN ms ks n [] ((c :: r).drop (stepN ms ks (c :: r)))
theorem stepN_pos (ms ks:List (List Nat)) (t:List Nat):1≤stepN ms ks t:=Nat.le_max_right _ _
theorem ended_le (ms ks:List (List Nat)) (t:List Nat):ended ms ks t≤t.length:=by
  unfold ended
  split
  · exact lng_le _ _
  · exact Nat.zero_le _
theorem stepN_le {ms ks:List (List Nat)} {t:List Nat} (h:t≠[]):stepN ms ks t≤t.length:=by
  unfold stepN
  have h1:=lng_le t ks
  have h2:=ended_le ms ks t
  have h3:1≤t.length:=List.length_pos_iff.mpr h
  omega
theorem cutN_fuel (ms ks:List (List Nat)):∀ (n m:Nat) (acc t:List Nat),t.length≤n→t.length≤m→cutN ms ks n acc t=cutN ms ks m acc t
  | n,m,acc,[],_,_=>by simp only [cutN]
  | 0,_,_,_ :: _,h,_=>by simp at h
  | _+1,0,_,_ :: _,_,h=>by simp at h
  | n+1,m+1,acc,c :: r,hn,hm=>by
    have h1:=stepN_pos ms ks (c :: r)
    have hl:((c :: r).drop (stepN ms ks (c :: r))).length≤r.length:=by
      rw [List.length_drop,List.length_cons]; omega
    have hn':r.length≤n:=by simpa using hn
    have hm':r.length≤m:=by simpa using hm
    simp only [cutN]
    rw [cutN_fuel ms ks n m _ _ (by omega) (by omega),cutN_fuel ms ks n m _ _ (by omega) (by omega)]
noncomputable def cut (ms ks:List (List Nat)) (acc t:List Nat):List (List Nat):=cutN ms ks t.length acc t
theorem cut_nil (ms ks:List (List Nat)) (acc:List Nat):cut ms ks acc []=if acc=[] then [] else [acc]:=rfl
theorem cut_on {ms ks:List (List Nat)} {acc t:List Nat} (h:t≠[]) (he:ended ms ks t=0):cut ms ks acc t=cut ms ks (acc++t.take (stepN ms ks t)) (t.drop (stepN ms ks t)):=by
  cases t with
  | nil=>exact absurd rfl h
  | cons c r =>
    unfold cut
    have h1:=stepN_pos ms ks (c :: r)
    have e:(c :: r).length=r.length+1:=rfl
    rw [e]
    simp only [cutN]
    rw [if_pos he]
    exact cutN_fuel ms ks _ _ _ _ (by rw [List.length_drop,List.length_cons]; omega) (Nat.le_refl _)
theorem cut_end {ms ks:List (List Nat)} {acc t:List Nat} (h:t≠[]) (he:ended ms ks t≠0):cut ms ks acc t=(acc++t.take (stepN ms ks t)) :: cut ms ks [] (t.drop (stepN ms ks t)):=by
  cases t with
  | nil=>exact absurd rfl h
  | cons c r =>
    unfold cut
    have h1:=stepN_pos ms ks (c :: r)
    have e:(c :: r).length=r.length+1:=rfl
    rw [e]
    simp only [cutN]
    rw [if_neg he]
    exact congrArg _ (cutN_fuel ms ks _ _ _ _ (by rw [List.length_drop,List.length_cons]; omega) (Nat.le_refl _))
theorem cut_le (ms ks:List (List Nat)):∀ (n:Nat) (acc t:List Nat),t.length≤n→(cut ms ks acc t).length≤t.length+1∧(acc=[]→(cut ms ks acc t).length≤t.length)∧∀ p∈cut ms ks acc t,p≠[]∧p.length≤acc.length+t.length
  | n,acc,[],_=>by
    rw [cut_nil]
    split
    · exact ⟨Nat.zero_le _,fun _=>Nat.zero_le _,fun p hp=>by cases hp⟩
    · rename_i h
      refine ⟨Nat.le_refl _,fun z=>absurd z h,fun p hp=>?_⟩
      have:p=acc:=by simpa using hp
      subst this
      exact ⟨h,by simp⟩
  | 0,_,_ :: _,h=>by simp at h
  | n+1,acc,c :: r,hn=>by
    have h1:=stepN_pos ms ks (c :: r)
    have h2:stepN ms ks (c :: r)≤(c :: r).length:=stepN_le (by simp)
    have hr:r.length≤n:=by simpa using hn
    have hl:((c :: r).drop (stepN ms ks (c :: r))).length=(c :: r).length - stepN ms ks (c :: r):=List.length_drop
    have ht:((c :: r).take (stepN ms ks (c :: r))).length=stepN ms ks (c :: r):=by rw [List.length_take]; omega
    have e:(c :: r).length=r.length+1:=rfl
    by_cases he:ended ms ks (c :: r)=0
    · rw [cut_on (by simp) he]
      obtain ⟨a1,a2,a3⟩:=cut_le ms ks n (acc++(c :: r).take (stepN ms ks (c :: r))) ((c :: r).drop (stepN ms ks (c :: r))) (by omega)
      refine ⟨by omega,fun z=>by omega,fun p hp=>?_⟩
      have:=a3 p hp
      rw [List.length_append] at this
      exact ⟨this.1,by omega⟩
    · rw [cut_end (by simp) he]
      obtain ⟨a1,a2,a3⟩:=cut_le ms ks n [] ((c :: r).drop (stepN ms ks (c :: r))) (by omega)
      have a2':=a2 rfl
      refine ⟨by rw [List.length_cons]; omega,fun z=>by rw [List.length_cons]; omega,fun p hp=>?_⟩
      rcases List.mem_cons.mp hp with rfl | hp
      · refine ⟨fun z=>?_,by rw [List.length_append]; omega⟩
        have:=congrArg List.length z
        rw [List.length_append,ht] at this
        simp at this
        omega
      · have:=a3 p hp
        exact ⟨this.1,by have:=this.2; simp at this; simp only [List.length_cons]; omega⟩
end M08
set_option linter.all false
namespace SLi
open PySem
theorem clip (a b n:Nat):Builtin.Str.strSliceIndices (some (a:Int)) (some (b:Int)) 1 n=Builtin.Str.strSliceIndices (some ((min a n:Nat):Int)) (some ((min b n:Nat):Int)) 1 n:=by
  have e1:¬ ((a:Int) < 0):=by omega
  have e2:¬ ((b:Int) < 0):=by omega
  have e3:¬ (((min a n:Nat):Int) < 0):=by omega
  have e4:¬ (((min b n:Nat):Int) < 0):=by omega
  have h1:max (0:Int) (min (a:Int) (n:Int))=max 0 (min ((min a n:Nat):Int) (n:Int)):=by omega
  have h2:max (0:Int) (min (b:Int) (n:Int))=max 0 (min ((min b n:Nat):Int) (n:Int)):=by omega
  simp only [Builtin.Str.strSliceIndices,e1,e2,e3,e4,if_false,h1,h2]
  rfl
theorem both (x:Str) {a b:Nat} (h:a≤b):Txt.slice x (some (a:Int)) (some (b:Int))=⟨((x.cps.toList.drop a).take (b - a)).toArray⟩:=by
  have hl:x.cps.toList.length=x.length:=by simp [Str.length]
  have e:Txt.slice x (some (a:Int)) (some (b:Int))=Txt.slice x (some ((min a x.length:Nat):Int)) (some ((min b x.length:Nat):Int)):=by
    unfold Txt.slice
    rw [clip]
  rw [e]
  have p:=StrLaws.sliceText_plain (x:=x) (i:=((min a x.length:Nat):Int)) (j:=((min b x.length:Nat):Int)) ⟨by omega,by omega,by omega⟩
  have p':Txt.slice x (some ((min a x.length:Nat):Int)) (some ((min b x.length:Nat):Int))=_:=p
  rw [p']
  congr 1
  have e1:(((min a x.length:Nat):Int)).toNat=min a x.length:=by omega
  have e2:(((min b x.length:Nat):Int) - ((min a x.length:Nat):Int)).toNat=min b x.length - min a x.length:=by omega
  rw [e1,e2]
  congr 1
  by_cases ha:a≤x.length
  · rw [Nat.min_eq_left ha]
    by_cases hb:b≤x.length
    · rw [Nat.min_eq_left hb]
    · rw [Nat.min_eq_right (by omega)]
      rw [List.take_of_length_le (by rw [List.length_drop]; omega),List.take_of_length_le (by rw [List.length_drop]; omega)]
  · rw [Nat.min_eq_right (by omega),List.drop_eq_nil_of_le (by omega),List.drop_eq_nil_of_le (by omega)]
    simp
theorem upto (x:Str) (b:Nat):Txt.slice x none (some (b:Int))=⟨(x.cps.toList.take b).toArray⟩:=by
  have e:Txt.slice x none (some (b:Int))=Txt.slice x (some ((0:Nat):Int)) (some (b:Int)):=by
    unfold Txt.slice
    rw [StrLaws.sliceIdx_none_lo]
    rfl
  rw [e,both x (Nat.zero_le b)]
  simp
theorem from_ (x:Str) (a:Nat):Txt.slice x (some (a:Int)) none=⟨(x.cps.toList.drop a).toArray⟩:=by
  have hl:x.cps.toList.length=x.length:=by simp [Str.length]
  have e:Txt.slice x (some (a:Int)) none=Txt.slice x (some (a:Int)) (some (x.length:Int)):=by
    unfold Txt.slice
    rw [StrLaws.sliceIdx_none_hi]
  rw [e]
  by_cases h:a≤x.length
  · rw [both x h,List.take_of_length_le (by rw [List.length_drop]; omega)]
  · have e2:Txt.slice x (some (a:Int)) (some (x.length:Int))=Txt.slice x (some ((x.length:Nat):Int)) (some (x.length:Int)):=by
      unfold Txt.slice
      rw [clip,clip x.length x.length]
      rw [Nat.min_eq_right (by omega:x.length≤a),Nat.min_self]
    rw [e2,both x (Nat.le_refl _),List.drop_eq_nil_of_le (by omega:x.cps.toList.length≤a),Nat.sub_self]
    simp
end SLi
set_option Elab.async false
set_option linter.all false
set_option maxRecDepth 100000
set_option maxHeartbeats 4000000
namespace L2
open PySem PySem.Spec PyProof.Rows M08
noncomputable abbrev mkT (r:List Nat):V:=V.str ⟨r.toArray⟩
noncomputable abbrev sD (r:List Nat):D:=.str ⟨r.toArray⟩
theorem denl_s {H:Hp}:∀ {cs:List (List Nat)} {vs:List V},DenL H vs (cs.map sD)→vs=cs.map mkT
  | [],[],_=>rfl
  | _ :: _,_ :: _,h=>by
    rw [List.map_cons,denl_s h.2]
    exact congrArg (· :: _) h.1
  | [],_ :: _,h=>h.elim
  | _ :: _,[],h=>h.elim
theorem denl_of (H:Hp):∀ cs:List (List Nat),DenL H (cs.map mkT) (cs.map sD)
  | []=>trivial
  | _ :: cs=>⟨rfl,denl_of H cs⟩
noncomputable def lvD (ms ks:List (List Nat)):D:=.tup [.tup (ms.map sD),.tup (ks.map sD)]
theorem den_lv {H:Hp} {v:V} {ms ks:List (List Nat)} (h:Den H v (lvD ms ks)):∃ p pm pk:Addr,v=.ref p∧H p=some (.tup [.ref pm,.ref pk])∧H pm=some (.tup (ms.map mkT))∧H pk=some (.tup (ks.map mkT)):=by
  obtain ⟨p,vs,rfl,hp,hd⟩:=den_tup h
  match vs,hd with
  | [a,b],hd =>
    obtain ⟨pm,us,rfl,hpm,hd1⟩:=den_tup hd.1
    obtain ⟨pk,ws,rfl,hpk,hd2⟩:=den_tup hd.2.1
    rw [denl_s hd1] at hpm
    rw [denl_s hd2] at hpk
    exact ⟨p,pm,pk,rfl,hp,hpm,hpk⟩
  | [],hd=>exact hd.elim
  | [_],hd=>exact hd.2.elim
  | _ :: _ :: _ :: _,hd=>exact hd.2.2.elim
theorem den_mk {H:Hp} {p pm pk:Addr} {ms ks:List (List Nat)} (hp:H p=some (.tup [.ref pm,.ref pk])) (hm:H pm=some (.tup (ms.map mkT))) (hk:H pk=some (.tup (ks.map mkT))):Den H (.ref p) (lvD ms ks) :=
  ⟨p,_,rfl,hp,⟨pm,_,rfl,hm,denl_of H ms⟩,⟨pk,_,rfl,hk,denl_of H ks⟩,trivial⟩
structure OkC (cs:List (List Nat)):Prop where
  few:cs.length≤100
  size:∀ c∈cs,1≤c.length∧c.length≤8
theorem at_T {cs:List (List Nat)} {i:Nat} (hi:i < cs.length):(cs.map mkT)[i]?=some (mkT cs[i]):=by
  rw [List.getElem?_map,List.getElem?_eq_getElem hi]
  rfl
theorem lenT (r:List Nat):(⟨r.toArray⟩:Str).length=r.length:=by simp [Str.length]
noncomputable def lensN (t:List Nat) (cs:List (List Nat)) (j:Nat):List Int:=((cs.take j).filter fun c=>c.isPrefixOf t).map fun c=>(c.length:Int)
theorem lensN_succ {t:List Nat} {cs:List (List Nat)} {j:Nat} (hj:j < cs.length):lensN t cs (j+1)=lensN t cs j++(if cs[j].isPrefixOf t=true then [(cs[j].length:Int)] else []):=by
  unfold lensN
  rw [List.take_add_one,List.getElem?_eq_getElem hj,List.filter_append,List.map_append]
  congr 1
  by_cases h:cs[j].isPrefixOf t=true
  · simp [h]
  · simp [h]
theorem lensN_le (t:List Nat) (cs:List (List Nat)) (j:Nat):(lensN t cs j).length≤cs.length:=by
  unfold lensN
  rw [List.length_map]
  refine Nat.le_trans (List.length_filter_le _ _) ?_
  rw [List.length_take]
  omega
theorem lens_max (t:List Nat):∀ cs:List (List Nat),((cs.filter fun c=>c.isPrefixOf t).map fun c=>(c.length:Int)).foldr max 0=((lng t cs:Nat):Int)
  | []=>rfl
  | c :: cs=>by
    have ih:=lens_max t cs
    unfold lng
    by_cases h:c.isPrefixOf t=true
    · rw [List.filter_cons,if_pos h,List.map_cons,List.foldr_cons,ih,if_pos h]
      omega
    · rw [List.filter_cons,if_neg h,ih,if_neg h]
      omega
theorem slice_bo (t:List Nat) {a b:Nat} (h:a≤b):Txt.slice ⟨t.toArray⟩ (some (a:Int)) (some (b:Int))=⟨((t.drop a).take (b - a)).toArray⟩:=by
  rw [SLi.both _ h]
theorem slice_fr (t:List Nat) (a:Nat):Txt.slice ⟨t.toArray⟩ (some (a:Int)) none=⟨(t.drop a).toArray⟩:=by
  rw [SLi.from_]
theorem str_T (x:Str):x=⟨x.cps.toList.toArray⟩:=by
  cases x
  simp
theorem atI_zero {α:Type} (x:α) (xs:List α):atI (x :: xs) 0=some x:=atI_nat (xs:=x :: xs) (j:=0) rfl
noncomputable def treeD:List (List (List Nat) × List (List Nat))→List Nat→D
  | [],t=>sD t
  | l :: ls,t=>.tup ((cut l.1 l.2 [] t).map (treeD ls))
end L2
set_option Elab.async false
set_option linter.all false
set_option maxRecDepth 100000
set_option maxHeartbeats 4000000
namespace L2
open PySem PySem.Spec PyProof.Rows M08
end L2
namespace M08
end M08
set_option Elab.async false
set_option linter.all false
set_option maxRecDepth 100000
set_option maxHeartbeats 4000000
namespace L2
open PySem PySem.Spec PyProof.Rows
noncomputable def GoodV (H:Hp):V→Prop
  | .str x=>x.length≤1000
  | .non=>True
  | .bl _=>True
  | .int _=>True
  | .ref p=>(∃ xs,H p=some (.lst xs))∨(∃ xs,H p=some (.tup xs))∨∃ kvs,H p=some (.dK kvs)
  | _=>False
end L2
namespace L2
open PySem PySem.Spec PyProof.Rows
structure QSs (X:Cx) (st:List Stmt) (t:TS):Prop where
  h:PSs X st t
structure QS (X:Cx) (st:Stmt) (t:TS):Prop where
  h:PS X st t
structure QE (X:Cx) (e:Expr) (t:TE):Prop where
  h:PE X e t
structure QA (X:Cx) (es:List Expr) (t:TA):Prop where
  h:PA X es t
end L2
namespace M05
noncomputable def nmN:Nat→Nat→List Nat
  | 0,_=>[]
  | f+1,r=>if r=0 then [] else nmN f ((r - 1) / 26)++[97+(r - 1) % 26]
noncomputable def nm (r:Nat):List Nat:=nmN r r
noncomputable def sh:Nat→Nat
  | 0=>0
  | s+1=>26 * sh s+(if s=0 then 0 else 26)
end M05
set_option linter.all false
namespace M05
end M05
set_option Elab.async false
set_option linter.all false
set_option maxRecDepth 100000
set_option maxHeartbeats 4000000
namespace L2
open PySem PySem.Spec PyProof.Rows
noncomputable def Itk (d:Addr) (o:Obj) (kvs:List (Key × V)):It :=
  ⟨fun i H=>H d=some (.frz o (.dK kvs))∧i < kvs.length,fun i H x H'=>H'=H∧∃ kv,kvs[i]?=some kv∧x=kV kv.1,fun i H=>H d=some (.frz o (.dK kvs))∧kvs.length≤i⟩
theorem frz_at {X:Cx} {pins:List (Addr × Obj)} {σ:St} {H:Hp} {s:Shared} {d:Addr} {o:Obj} {kvs:List (Key × V)} {es:Array DictEntry} {ep:Nat} (I:Inv X pins σ H s) (e:H d=some (.frz o (.dK kvs))) (hod:o.data=.dict es ep) :
    (d == sysModules)=false∧∃ vs,KV kvs vs∧s.heap.DictAt (mixKind X.prog X.w) d vs ep:=by
  obtain ⟨ho,_,lo,vs,rel,o2,es2,ep2,h2,hx,hd,r⟩:=(show ObjOk X.prog X.w H s.heap d (.frz o (.dK kvs)) from I.hok d _ e)
  rw [ho] at h2
  cases h2
  rw [hod] at hd
  cases hd
  exact ⟨lo,vs,rel,o,es,ho,hx,hod,r⟩
theorem turn_dict {P:Program} {w:World} {K:PySem.W.Frag} {tg:Expr} (d it:Addr) (o:Obj) (kvs:List (Key × V)) (es:Array DictEntry) (ep:Nat) (hod:o.data=.dict es ep) :
    Turn P w K tg (Itk d o kvs) [it] it (fun i h=>h.IsKeyIter it d i kvs.length ep) where
  mem:=by simp
  obj:=fun i h st b hb=>by
    have e:b=it:=by simpa using hb
    subst e
    obtain ⟨o',ho,hc,hd⟩:=st
    exact ⟨o',ho,fun v z=>by rw [hd] at z; cases z⟩
  keep:=fun i h h' st k=>st.at fun o' e=>k it (by simp) o' e
  item:=by
    intro X hP hw hK hc i pins s σ H E I hf st hg
    subst hP hw hK
    obtain ⟨e,hi⟩:=hg
    obtain ⟨f0,f1,f2,f3,f4,f5⟩:=hf it (by simp)
    obtain ⟨lo,vs,rel,da⟩:=frz_at I e hod
    have hl:vs.length=kvs.length:=rel.length.symm
    have hx:vs[i]?=some vs[i]:=List.getElem?_eq_getElem (by omega)
    obtain ⟨q,hq,e1,_⟩:=rel.at_ i _ hx
    have st':s.heap.IsKeyIter it d i vs.length ep:=by rw [hl]; exact st
    refine wpAny_pyNext_dict_item (k:=vs[i].1) (v:=vs[i].2) st' da hx fun key h' hk hit sb=>?_
    have I1:Inv X pins σ H { s with heap:=h' }:=I.turned (t':=s.toks) (fun b o' hb e'=>(sb.2 b hb).trans e') f0 f1 f3 f4 f5
    rw [hl] at hit
    obtain ⟨oi,hoi,hci,hdi⟩:=id hit
    refine ⟨_,rfl,go_of (s:={ s with heap:=h' }) (n:="dict_keyiterator") hoi hci hdi (by decide) ⟨kV q.1,H,I1,?_,⟨rfl,q,hq,rfl⟩,hit,fun b hb=>(hf b hb).1⟩⟩
    rw [e1]
    exact rel_key hk
  done:=by
    intro X hP hw hK hc i pins s σ H E I hf st hg
    subst hP hw hK
    obtain ⟨e,hi⟩:=hg
    obtain ⟨f0,f1,f2,f3,f4,f5⟩:=hf it (by simp)
    obtain ⟨lo,vs,rel,da⟩:=frz_at I e hod
    have hl:vs.length=kvs.length:=rel.length.symm
    have st':s.heap.IsKeyIter it d i vs.length ep:=by rw [hl]; exact st
    exact wpAny_pyNext_dict_end (I.ok.hd hc) st' da (List.getElem?_eq_none (by omega)) fun h' eb=>⟨rfl,I.turned (t':=s.toks) (fun b o' hb e'=>eb b o' hb e') f0 f1 f3 f4 f5⟩
  self:=fun _ _ _ _ _ st h=>wpAny_pyIter_keyiter st h
noncomputable def iDict (tl:TE):TI:=fun σ H R=>tl σ H fun x H1=>∃ (d:Addr) (kvs:List (Key × V)),x=.ref d∧H1 d=some (.dK kvs)∧∀ o:Obj,R (Itk d o kvs) (upd H1 d (.frz o (.dK kvs)))
theorem pi_dict {X:Cx} {tg l:Expr} {tl:TE} (hl:PE X l tl):PI X tg l (iDict tl):=by
  intro pins s σ H R I h
  refine thn (hl pins s σ H _ I h) fun v s1 ⟨x,H1,I1,r1,q1⟩=>?_
  obtain ⟨d,kvs,e,hd,q⟩:=q1
  subst e
  cases r1
  obtain ⟨hz,lo,vs,rel,dd⟩:=dk_of I1.hok hd
  obtain ⟨ep,da⟩:=dd.dictAt
  obtain ⟨o,es,ho,hx,hod,r⟩:=id da
  have ld:d < s1.heap.objs.size:=Heap.lt_size ho
  have I2:Inv X pins σ (upd H1 d (.frz o (.dK kvs))) { s1 with heap:=s1.heap,toks:=s1.toks } :=
    I1.write (x:=d) (e:=d) (h':=s1.heap) (t':=s1.toks) (by rw [hd]; exact trivial) (.inl rfl) (fun _ _ _ q=>q) ⟨o,ho⟩ ⟨ho,hz,lo,vs,rel,dd⟩
  refine wpAny_pyIter_dict lo da ?_
  have I3:Inv X pins σ (upd H1 d (.frz o (.dK kvs))) { s1 with heap:=s1.heap.push { cls:=.type "dict_keyiterator",data:=.fields #[.ref d,.int 0 0,.int vs.length 0,.int ep 0] } }:=I2.kept (t':=s1.toks) fun b o' e'=>Heap.get?_push_of_some _ e'
  refine ⟨s1.heap.objs.size,[s1.heap.objs.size],_,_,_,rfl,I3,turn_dict d _ o kvs es ep hod,⟨_,Heap.get?_push_size _ rfl,rfl,by rw [← rel.length]; rfl⟩,fun b hb=>?_,q o⟩
  have e:b=s1.heap.objs.size:=by simpa using hb
  subst e
  exact I2.fpOk (Nat.le_refl _) (I2.hok.fresh (Nat.le_refl _))
theorem for_dict {d:Addr} {o:Obj} {kvs:List (Key × V)} {g:TG} {tb:TS} {D:Ends} {σ:St} {H:Hp} (Pv:Nat→St→Hp→Prop) (h0:Pv 0 σ H) (hl:∀ i σ H,i≤kvs.length→Pv i σ H→H d=some (.frz o (.dK kvs)))
    (hs:∀ i kv σ H,kvs[i]?=some kv→Pv i σ H→g (kV kv.1) σ H fun σ2 H2=>tb { D with nx:=Pv (i+1),ct:=Pv (i+1),bk:=D.nx } σ2 H2) (hd:∀ σ H,Pv kvs.length σ H→D.nx σ H) :
    ∃ W:Nat→Nat→St→Hp→Prop,(∃ m,W 0 m σ H)∧∀ i m σ H,W i m σ H →
      ((Itk d o kvs).stop i H∧D.nx σ H)∨((Itk d o kvs).go i H∧∃ N:St→Hp→Prop,(∀ σ' H',N σ' H'→∃ m',m' < m∧W (i+1) m' σ' H')∧∀ x H',(Itk d o kvs).yld i H x H'→g x σ H' fun σ2 H2=>tb { D with nx:=N,ct:=N,bk:=D.nx } σ2 H2):=by
  refine ⟨fun i m σ H=>m=kvs.length - i∧i≤kvs.length∧Pv i σ H,⟨kvs.length,rfl,Nat.zero_le _,h0⟩,?_⟩
  rintro i m σ H ⟨rfl,hi,p⟩
  have q:=hl i σ H hi p
  by_cases hlt:i < kvs.length
  · refine .inr ⟨⟨q,hlt⟩,Pv (i+1),fun σ' H' p'=>⟨kvs.length - (i+1),by omega,rfl,hlt,p'⟩,fun x H' y=>?_⟩
    obtain ⟨rfl,kv,e,rfl⟩:=y
    exact hs i kv σ _ e p
  · have e:i=kvs.length:=by omega
    subst e
    exact .inl ⟨⟨q,Nat.le_refl _⟩,hd σ H p⟩
noncomputable def rCat2:R2:=fun x y H Q=>∃ (a b:Addr) (xs ys:List V),x=.ref a∧y=.ref b∧H a=some (.tup xs)∧H b=some (.tup ys)∧xs.length+ys.length≤sizeLine∧∀ (q:Addr) (H':Hp),Same H H'→H' q=some (.tup (xs++ys))→Q (.ref q) H'
theorem op_catT2 {X:Cx}:OpR X (binaryOp .Add) rCat2:=by
  intro pins s σ H x y v u Q I rx ry h
  obtain ⟨a,b,xs,ys,rfl,rfl,ha,hb,hz,q⟩:=h
  cases xs with
  | cons x1 xs =>
    refine op_catT pins s σ H (.ref a) (.ref b) v u Q I rx ry ⟨a,b,_,_,rfl,rfl,SqT.of ha,SqT.of hb,by simp,hz,fun z=>?_,fun z p hp=>q p _ (same_new hp _) upd_same⟩
    refine q a H (Same.refl H) ?_
    rw [ha,z,List.append_nil]
  | nil =>
    cases rx
    cases ry
    obtain ⟨its,r1,p1,_⟩:=I.tuple (SqT.of (K:=X.K) ha)
    obtain ⟨its2,r2,p2,_⟩:=I.tuple (SqT.of (K:=X.K) hb)
    cases r1
    obtain ⟨⟨cls,dd,data,sl⟩,ho,hc,n,hd⟩:=id p1
    obtain ⟨⟨cls2,dd2,data2,sl2⟩,ho2,hc2,n2,hd2⟩:=id p2
    simp only at hc hd hc2 hd2
    subst hc hd hc2 hd2
    refine concat_meets ⟨_,ho,rfl⟩ ⟨_,ho2,rfl⟩ noFill_tuple_add seq_tuple_add PySem.F.slot_tuple_add PySem.F.entry_tuple_add (PySem.F.args_tuple_add_2 _ _) (tuple_addW0 a b _ its2.toArray n n2 dd dd2 sl sl2 rfl) ⟨ho,ho2,?_⟩
    exact ⟨.ref b,H,I,rfl,q b H (Same.refl H) hb⟩
end L2
set_option Elab.async false
set_option linter.all false
set_option maxRecDepth 100000
set_option maxHeartbeats 4000000
namespace ET
open PySem
open Sem (wp)
open AutoSeq1 (wpAny_loadPart')
theorem drawsT {prog:Program} {w:World} {A:Around} (hd:A.handled=none) (it t:Addr) (ne:t≠it) (its:Array Value) :
    Draws prog w A it [it,t] its.size (fun i v=>its[i]?=some v) (fun i h=>h.IsTupleIter it t i∧h.IsTuple t its) where
  live:=fun _ _ st=>by
    obtain ⟨⟨o,ho,_⟩,_⟩:=st
    exact ⟨o,ho⟩
  frame:=fun _ _ _ st k=>⟨st.1.at fun o e=>k it (by simp) o e,st.2.at fun o e=>k t (by simp) o e⟩
  item:=fun i s Q E hi st q=>by
    refine ZT.tup_item st.1 st.2 (x:=its[i]) (by simp [hi]) fun g ti sb=>?_
    exact q _ g s.toks (by simp [hi]) ⟨ti,st.2.extBut sb.extBut ne⟩ sb
  done:=fun s Q E st q=>ZT.tup_end hd st.1 st.2 (by simp) q
theorem enum_newT (t:Addr) (us:Array Value):Meets (Builtin.«enumerate.__new__» ⟨[.type "enumerate",.ref t],[]⟩) (fun _ R s=>s.heap.IsTuple t us ∧
      R (.ok (.ret (.ref (s.heap.push { cls:=.type "tuple_iterator",data:=.fields #[.ref t,.int 0 0] }).objs.size)))
        { s with heap:=(s.heap.push { cls:=.type "tuple_iterator",data:=.fields #[.ref t,.int 0 0] }).push { cls:=.type "enumerate",data:=.fields #[.none,.bool false,.ref s.heap.objs.size,rawInt 0,.none,.none] } }):=by
  refine .of_wp fun prog w A R s h=>?_
  obtain ⟨hp,g,d,tk,os⟩:=s
  obtain ⟨u1,h⟩:=h
  have u1':Heap.IsTuple (Shared.heap ⟨hp,g,d,tk,os⟩) t us:=u1
  have sub:=sub_enumerate
  wp_walk
  refine wpAny_stack_any fun st=>wpAny_pure ?_
  split
  · rename_i c _ _ _ _ _
    cases (c == Value.type "enumerate")
    all_goals
      wp_walk using wpAny_pyIter_tuple u1'
      exact ⟨_,rfl,h⟩
  · wp_walk using wpAny_pyIter_tuple u1'
    exact ⟨_,rfl,h⟩
theorem call_enumT {prog:Program} {w:World} {A:Around} {E:Value→Shared→Prop} {s:Shared} {t:Addr} {us:Array Value} {Q:Value→Shared→Prop} (u1:s.heap.IsTuple t us)
    (k:∀ g,IsEnum g (s.heap.objs.size+1) s.heap.objs.size 0 .none→g.IsTupleIter s.heap.objs.size t 0→(∀ c o,s.heap.get? c=some o→g.get? c=some o)→Q (.ref (s.heap.objs.size+1)) { s with heap:=g }) :
    wpAny (model prog w) A (call (.type "enumerate") [.ref t]) Q E s:=by
  refine callType_new F.called_enumerate (by decide) (F.typeCall_enumerate_1 _) (F.newCall_enumerate_1 _) (fun obj=>F.args_object_init_2 obj _) F.entry_enumerate_new (enum_newT t us) ⟨u1,?_⟩
  have n1:(ZT.zh1 s.heap t).objs.size=s.heap.objs.size+1:=Heap.size_push ..
  have p1:((ZT.zh1 s.heap t).push { cls:=.type "enumerate",data:=.fields #[.none,.bool false,.ref s.heap.objs.size,rawInt 0,.none,.none] }).get? (ZT.zh1 s.heap t).objs.size=some _:=Heap.get?_push_size _ rfl
  rw [n1] at p1
  show _∧_
  rw [n1]
  exact ⟨⟨_,p1,rfl⟩,k _ p1 ⟨_,Heap.get?_push_of_some _ (Heap.get?_push_size _ rfl),rfl,rfl⟩ fun c o q=>Heap.get?_push_of_some _ (Heap.get?_push_of_some _ q)⟩
theorem enum_endT {prog:Program} {w:World} {A:Around} {E:Value→Shared→Prop} {s:Shared} {e it t:Addr} {i:Nat} {j:Int} {us:Array Value} {old:Value} {Q:Option Value→Shared→Prop} (hd:A.handled=none)
    (ee:IsEnum s.heap e it j old) (ti:s.heap.IsTupleIter it t i) (tt:s.heap.IsTuple t us) (tx:us[i]?=none) (k:∀ g,Heap.ExtBut it s.heap g→Q none { s with heap:=g }):wpAny (model prog w) A (pyNext (.ref e)) Q E s:=by
  have ty:s.TypeIs (.ref e) "enumerate":=⟨_,ee,rfl⟩
  unfold pyNext
  refine wpAny_bind (wpAny_attempt (wpAny_callSpecial?_slot (name:=Str.ofString "__next__") ty F.slot_enumerate_next (wpAny_call_entry F.slot_enumerate_next ty F.entry_enumerate_next ?_ (F.args_enumerate_next_1 _))))
  show wpAny _ _ (field (.ref e) 2 >>= _) _ _ _
  refine wpAny_bind (wpAny_field ee rfl (x:=.ref it) rfl (wpAny_bind (ZT.tup_end hd ti tt tx fun g x eb hx=>?_)))
  obtain ⟨o,ho,c⟩:=hx
  exact wpAny_bind (wpAny_isInstance (T:="StopIteration") (b:=true) ⟨o,ho,c⟩ isSubtype_stop (wpAny_pure (k _ eb)))
end ET
namespace L2
open PySem PySem.Spec PyProof.Rows
noncomputable def IteT (K:PySem.W.Frag) (a:Addr):It :=
  ⟨fun i H=>∃ xs x,SqT K H a xs∧xs[i]?=some x,fun i H v H'=>∃ t x,v=.ref t∧H t=none∧H'=upd H t (.tup [.int (i:Nat),x])∧∀ xs,SqT K H a xs→xs[i]?=some x,fun i H=>∃ xs,SqT K H a xs∧xs.length≤i⟩
theorem turn_enumT {P:Program} {w:World} {K:PySem.W.Frag} {elts:List Expr} {k1:Nat} {p1:Pos} (a e it:Addr) (hne:e≠it) (hae:a≠e) (hai:a≠it) :
    Turn P w K (.Tuple elts k1 p1) (IteT K a) [e,it] e (fun i h=>(∃ old,IsEnum h e it ((i:Nat):Int) old)∧h.IsTupleIter it a i) where
  mem:=by simp
  obj:=fun i h st b hb=>by
    obtain ⟨⟨old,he⟩,o,ho,c,d⟩:=st
    have hb':b=e∨b=it:=by simpa using hb
    rcases hb' with rfl | rfl
    · exact ⟨_,he,fun v z=>by
        have z':Data.fields _=Data.cell v:=z
        cases z'⟩
    · exact ⟨o,ho,fun v z=>by rw [d] at z; cases z⟩
  keep:=fun i h h' st k=>by
    obtain ⟨⟨old,he⟩,hit⟩:=st
    exact ⟨⟨old,k e (by simp) _ he⟩,hit.at fun o q=>k it (by simp) o q⟩
  item:=by
    intro X hP hw hK hc i pins s σ H E I hf st hg
    subst hP hw hK
    obtain ⟨xs,x,hq,hx⟩:=hg
    obtain ⟨its,rv,p,hz⟩:=I.tuple hq
    obtain ⟨u,hu,ru⟩:=rv.get hx
    obtain ⟨⟨old,he⟩,hit⟩:=st
    have fe:=hf e (by simp)
    have fi:=hf it (by simp)
    obtain ⟨oi,hoi,_⟩:=id hit
    have pT:s.heap.IsTuple a its.toArray:=p
    have hlt:i < its.toArray.size:=by
      have:=(List.getElem?_eq_some_iff.mp hu).1
      simpa using this
    refine wpAny_pyNext_enum_itemD (ET.drawsT (A:=X.A.in1) (I.ok.hd hc) it a hai its.toArray) he ⟨hit,pT⟩ hlt hne (by simp [hne,Ne.symm hae]) fun x' h1 tk hx' heo hst1 ht1 hz1 hk1=>?_
    have ex:x'=u:=by
      have:its.toArray[i]?=some u:=by simpa using hu
      exact Option.some.inj (hx'.symm.trans this)
    subst ex
    refine ⟨_,rfl,wpAny_letOwnedTupleGo_enum heo fun h2 he2 hs2=>?_⟩
    have hs2':Heap.SameBut e h1 h2:=hs2
    have hel:e < s.heap.objs.size:=Heap.lt_size he
    have I1:Inv X pins σ (upd H s.heap.objs.size (.tup [.int (i:Nat),x])) { s with heap:=h2,toks:=tk+1 } :=
      I.turnedT (its:=[.int i tk,x']) (fun b o h1' h2' q=>hs2'.extBut b o h1' (hk1 b o h1' h2' q)) fe fi ⟨_,he⟩ ⟨_,hoi⟩ (.cons ⟨_,rfl⟩ (.cons ru .nil)) (by show 2≤sizeLine; decide) ((hs2'.2 _ (Nat.ne_of_gt hel)).trans ht1)
    refine ⟨.ref s.heap.objs.size,_,I1,rfl,⟨s.heap.objs.size,x,rfl,I.fresh,rfl,fun ys hy=>by rw [I.tuple_inj hy hq]; exact hx⟩,⟨⟨x',?_⟩,hst1.1.extBut hs2'.extBut (Ne.symm hne)⟩,fun b hb=>?_⟩
    · have e3:(((i+1:Nat)):Int)=(i:Int)+1:=by push_cast; rfl
      rw [e3]
      exact he2
    · have hb':b=e∨b=it:=by simpa using hb
      have hbl:b≠s.heap.objs.size:=by
        rcases hb' with rfl | rfl
        · exact Nat.ne_of_lt (Heap.lt_size he)
        · exact Nat.ne_of_lt (Heap.lt_size hoi)
      rw [upd_ne hbl]
      exact (hf b hb).1
  done:=by
    intro X hP hw hK hc i pins s σ H E I hf st hg
    subst hP hw hK
    obtain ⟨xs,hq,hx⟩:=hg
    obtain ⟨its,rv,p,hz⟩:=I.tuple hq
    obtain ⟨⟨old,he⟩,hit⟩:=st
    obtain ⟨f0,f1,f2,f3,f4,f5⟩:=hf it (by simp)
    have hl:=rv.length
    have pT:s.heap.IsTuple a its.toArray:=p
    exact ET.enum_endT (I.ok.hd hc) he hit pT (by simp; omega) fun h' eb=>⟨rfl,I.turned (t':=s.toks) (fun b o hb e=>eb b o hb e) f0 f1 f3 f4 f5⟩
  self:=fun A i s Q E st h=>by
    obtain ⟨⟨old,he⟩,hit⟩:=st
    exact wpAny_pyIter_enum he h
noncomputable def iEnumT (K:PySem.W.Frag) (ta:TA):TI:=fun σ H R=>ta σ H fun vs H1=>∃ a,vs=[.ref a]∧(∃ xs,SqT K H1 a xs)∧R (IteT K a) H1
theorem pi_enumT {X:Cx} {elts:List Expr} {k1:Nat} {p1:Pos} {a:Expr} {ta:TA} {p pos:Pos} (hg:Gl X "enumerate") (hm:X.mg "enumerate" = none) (ha:PA X [a] ta) (hs:starEach [a] X.env=[(false,eval a X.env)]:=by rfl)
    (hb:bootBuiltins "enumerate" = some (.type "enumerate"):=by first | exact boot_enumerate | exact PySem.boot_enumerate | rfl):PI X (.Tuple elts k1 p1) (.Call (.Name "enumerate" p) [a] [] pos) (iEnumT X.K ta):=by
  intro pins s σ H R I h
  refine Call_ (ld_blt I hg hm hb (PyProof.Rows.callWith_type1 (thn (ha pos pins s σ H _ I h) fun us s1 ⟨vs,H1,I1,r1,q1⟩=>?_) hs rfl))
  obtain ⟨l,e,⟨xs,hq⟩,q⟩:=q1
  subst e
  cases r1 with
  | cons r rr =>
    cases rr
    cases r
    obtain ⟨its,rv,pl,hz⟩:=I1.tuple hq
    have pT:s1.heap.IsTuple l its.toArray:=pl
    have hll:l < s1.heap.objs.size:=by
      obtain ⟨o,ho,_⟩:=pT
      exact Heap.lt_size ho
    refine ET.call_enumT pT fun h' he hit hk=>?_
    refine wpAny_pyIter_enum he ?_
    have I2:Inv X pins σ H1 { s1 with heap:=h' }:=I1.kept (t':=s1.toks) hk
    refine ⟨s1.heap.objs.size+1,[s1.heap.objs.size+1,s1.heap.objs.size],_,_,H1,rfl,I2,turn_enumT l _ _ (Nat.succ_ne_self _) (Nat.ne_of_lt (Nat.lt_succ_of_lt hll)) (Nat.ne_of_lt hll),⟨⟨_,he⟩,hit⟩,fun b hb=>?_,q⟩
    have hb':b=s1.heap.objs.size+1∨b=s1.heap.objs.size:=by simpa using hb
    rcases hb' with rfl | rfl
    · exact I1.fpOk (Nat.le_succ _) (I1.hok.fresh (Nat.le_succ _))
    · exact I1.fpOk (Nat.le_refl _) (I1.hok.fresh (Nat.le_refl _))
theorem for_enumT {K:PySem.W.Frag} {a:Addr} {xs:List V} {g:TG} {tb:TS} {D:Ends} {σ:St} {H:Hp} (Pv:Nat→St→Hp→Prop) (h0:Pv 0 σ H) (hl:∀ i σ H,i≤xs.length→Pv i σ H→SqT K H a xs)
    (hs:∀ i x t σ H,xs[i]?=some x→Pv i σ H→H t=none→g (.ref t) σ (upd H t (.tup [.int (i:Nat),x])) fun σ2 H2=>tb { D with nx:=Pv (i+1),ct:=Pv (i+1),bk:=D.nx } σ2 H2) (hd:∀ σ H,Pv xs.length σ H→D.nx σ H) :
    ∃ W:Nat→Nat→St→Hp→Prop,(∃ m,W 0 m σ H)∧∀ i m σ H,W i m σ H →
      ((IteT K a).stop i H∧D.nx σ H)∨((IteT K a).go i H∧∃ N:St→Hp→Prop,(∀ σ' H',N σ' H'→∃ m',m' < m∧W (i+1) m' σ' H')∧∀ x H',(IteT K a).yld i H x H'→g x σ H' fun σ2 H2=>tb { D with nx:=N,ct:=N,bk:=D.nx } σ2 H2):=by
  refine ⟨fun i m σ H=>m=xs.length - i∧i≤xs.length∧Pv i σ H,⟨xs.length,by simp,Nat.zero_le _,h0⟩,?_⟩
  rintro i m σ H ⟨rfl,hi,p⟩
  have q:=hl i σ H hi p
  by_cases hlt:i < xs.length
  · refine .inr ⟨⟨xs,xs[i],q,by simp [hlt]⟩,Pv (i+1),fun σ' H' p'=>⟨xs.length - (i+1),by omega,rfl,hlt,p'⟩,fun v H' y=>?_⟩
    obtain ⟨t,x,rfl,ht,rfl,y⟩:=y
    exact hs i x t σ _ (y xs q) p ht
  · have e:i=xs.length:=by omega
    subst e
    exact .inl ⟨⟨xs,q,Nat.le_refl _⟩,hd σ H p⟩
theorem getItem_tuple_all {prog:Program} {w:World} {A:Around} {E:Value→Shared→Prop} {s:Shared} {t sl:Addr} {items:Array Value} {vl vu:Value} {lo hi:Option Int} {Q:Value→Shared→Prop} (ht:IsTup s.heap t items) (hs:s.heap.IsSliceOf sl vl vu .none) (pl:IsPart vl lo) (pu:IsPart vu hi)
    (hw:HT.sIx items.size 0 lo=0∧HT.sIx items.size items.size hi=items.size) (h:Q (.ref t) s):wpAny (model prog w) A (getItem (.ref t) (.ref sl)) Q E s:=by
  obtain ⟨os,hos,hcs,hds⟩:=id hs
  have hTs:s.TypeIs (.ref sl) "slice":=⟨os,hos,hcs⟩
  unfold getItem
  try with_reducible refine wpAny_holding ?_
  first | refine wpAny_bind (wpAny_pure ?_) | skip
  refine wpAny_bind (wpAny_sequenceKey ht.typeIs (by decide) ?_)
  refine wpAny_bind (wpAny_callSpecial?_slot (name:=Str.ofString "__getitem__") ht.typeIs PyProof.Rows.slot_tuple_getitem
    (wpAny_call_entry PyProof.Rows.slot_tuple_getitem ht.typeIs PyProof.Rows.entry_tuple_getitem ?_ (PyProof.Rows.args_tuple_getitem _ _)))
  show wpAny _ _ (Builtin.Tuple.tupleItemsOf (.ref t) >>= _) _ _ s
  refine wpAny_bind (PyProof.Rows.tupleItemsOf_ ht ?_)
  refine wpAny_bind (wpAny_typeOf hTs ?_)
  rw [if_pos (by decide)]
  refine wpAny_bind (HT.sliceApplied_gen hs pl pu ?_)
  have hno:(((HT.sIx items.size 0 lo:Nat):Int) == 0 && (1:Int) == 1 && (HT.sIx items.size items.size hi - HT.sIx items.size 0 lo) == items.size)=true:=by
    rw [hw.1,hw.2]
    simp
  show wpAny _ _ (if (((HT.sIx items.size 0 lo:Nat):Int) == 0 && (1:Int) == 1 && (HT.sIx items.size items.size hi - HT.sIx items.size 0 lo) == items.size)=true then _ else _) _ _ s
  rw [if_pos hno]
  refine wpAny_bind (m:=Builtin.Tuple.tupleIsExact _) (wpAny_bind (wpAny_typeOf ht.typeIs (wpAny_pure ?_)))
  rw [if_pos (by decide)]
  exact wpAny_bind (wpAny_rule (wpAny_pure ⟨_,rfl,wpAny_pure h⟩))
noncomputable def rSlTw (K:PySem.W.Frag):V→Option Int→Option Int→Hp→VK→Prop:=fun x lo hi H Q=>∃ a xs,x=.ref a∧H a=some (.tup xs)∧∀ (p:Addr) (H':Hp),Same H H'→H' p=some (.tup (cutV xs lo hi))→Q (.ref p) H'
theorem sl_tupW {X:Cx}:SlR X (rSlTw X.K):=by
  intro pins s σ H x v vl vu lo hi sl Q I rx hs pl pu h
  obtain ⟨a,xs,rfl,hx,q⟩:=h
  by_cases hw:HT.sIx xs.length 0 lo=0∧HT.sIx xs.length xs.length hi=xs.length
  · cases rx
    obtain ⟨its,r,ht,hz⟩:=I.tuple (SqT.of hx)
    have hlen:its.toArray.size=xs.length:=by rw [List.size_toArray]; exact r.length.symm
    refine ⟨"tuple",_,PyProof.Rows.slot_tuple_getitem.lookup,ht.typeIs,?_⟩
    refine getItem_tuple_all ht hs pl pu (by rw [hlen]; exact hw) ⟨.ref a,H,I,rfl,q a H (Same.refl H) ?_⟩
    rw [hx]
    unfold cutV
    rw [hw.1,hw.2,List.drop_zero,Nat.sub_zero,List.take_length]
  · exact sl_tup pins s σ H _ v vl vu lo hi sl Q I rx hs pl pu ⟨a,xs,rfl,SqT.of hx,hw,fun p hp=>q p _ (same_new hp _) upd_same⟩
end L2
set_option Elab.async false
set_option linter.all false
set_option maxRecDepth 100000
set_option maxHeartbeats 4000000
namespace L2
open PySem PySem.Spec PyProof.Rows
noncomputable def iRngD (ta:TA):TI:=fun σ H R=>ta σ H fun vs H1=>∃ (a:Int) (n:Nat),vs=[.int a,.int (-1),.int (-1)]∧a=(n:Int) - 1∧n≤1000000∧R (Itd a n) H1
theorem pi_rangeD {X:Cx} {tg a b c:Expr} {ta:TA} {p pos:Pos} (hg:Gl X "range") (hm:X.mg "range" = none) (ha:PA X [a,b,c] ta) (hs:starEach [a,b,c] X.env=(false,eval a X.env) :: starEach [b,c] X.env:=by rfl) (hpl:(backTo pos (starEach [b,c] X.env)).any (·.1)=false:=by rfl) :
    PI X tg (.Call (.Name "range" p) [a,b,c] [] pos) (iRngD ta):=by
  intro pins s σ H R I h
  refine Call_ (ld_blt I hg hm boot_range (PyProof.Rows.callWith_type1 (thn (ha pos pins s σ H _ I h) fun us s1 ⟨vs,H1,I1,r1,z,n,e,en,hn,q⟩=>?_) hs hpl))
  subst e
  cases r1 with
  | cons r rr =>
    obtain ⟨u,u',rfl,⟨t2,rfl⟩,⟨t3,rfl⟩⟩:=vals2 rr
    obtain ⟨t1,rfl⟩:=r
    refine call_range_3 (by decide) ?_
    have hsz:Builtin.Range.rangeSize z (-1) (-1)=(n:Int):=by
      unfold Builtin.Range.rangeSize
      rw [if_neg (by decide)]
      split
      · have:z - -1 - 1=z:=by omega
        rw [this,show (-(-1:Int))=1 from rfl,Int.ediv_one]
        omega
      · omega
    refine wpAny_pyIter_range (IsRange.new ..) ?_ ?_
    · unfold Builtin.Range.small
      rw [hsz]
      simp [Builtin.Range.rangeFitsLong]
      omega
    have I2:Inv X pins σ H1 { s1 with heap:=s1.heap.push { cls:=.type "range",data:=.fields #[.int z t1,.int (-1) t2,.int (-1) t3] },toks:=s1.toks }:=I1.kept fun b o e=>Heap.get?_push_of_some _ e
    rw [hsz]
    refine ⟨_,[(s1.heap.push { cls:=.type "range",data:=.fields #[.int z t1,.int (-1) t2,.int (-1) t3] }).objs.size],_,_,H1,rfl,I2.kept (t':=s1.toks) fun b o e=>Heap.get?_push_of_some _ e,turn_down _ z n,?_,fun b hb=>?_,q⟩
    · have:=Heap.get?_push_size (s1.heap.push { cls:=.type "range",data:=.fields #[.int z t1,.int (-1) t2,.int (-1) t3] }) (o:={ cls:=.type "range_iterator",data:=.fields #[rawInt z,rawInt (n:Int),rawInt (-1)] }) rfl
      simpa [IsRangeIter] using this
    · have e:b=(s1.heap.push { cls:=.type "range",data:=.fields #[.int z t1,.int (-1) t2,.int (-1) t3] }).objs.size:=by simpa using hb
      subst e
      exact I2.fpOk (Nat.le_refl _) (I2.hok.fresh (Nat.le_refl _))
end L2
set_option Elab.async false
set_option linter.all false
set_option maxRecDepth 100000
set_option maxHeartbeats 4000000
namespace DR
open PySem PySem.W
open Sem (wp)
noncomputable def Raw (g:Heap) (d:Addr) (es:Array DictEntry) (ep:Nat):Prop:=∃ o,g.get? d=some o∧o.ExactDict∧o.data=.dict es ep
section
variable {prog:Program} {w:World} {A:Around} {E:Value→Shared→Prop} {s:Shared} {it dd:Addr} {es:Array DictEntry} {i ep:Nat}
theorem Raw.typeIs (r:Raw s.heap dd es ep):s.TypeIs (.ref dd) "dict":=by
  obtain ⟨o,eo,ec,ed⟩:=r
  exact ⟨o,eo,ec.1⟩
end
end DR
namespace L2
open PySem PySem.Spec PyProof.Rows
theorem paired_at {α β:Type} {R:α→β→Prop} {xs:List α} {ys:List β} (h:Paired R xs ys):∀ (i:Nat) (x:α),xs[i]?=some x→∃ y,ys[i]?=some y∧R x y:=by
  induction h with
  | nil=>intro i x e; simp at e
  | cons h1 _ ih =>
    intro i x e
    cases i with
    | zero =>
      simp at e
      subst e
      exact ⟨_,rfl,h1⟩
    | succ i=>simpa using ih i x (by simpa using e)
end L2
set_option Elab.async false
set_option linter.all false
set_option maxRecDepth 100000
set_option maxHeartbeats 4000000
namespace SX
open PySem PySem.Spec PyProof.Rows
noncomputable def have_ {K:Type} [DecidableEq K] (val:Nat→K) (i:Nat) (k:K):Bool:=((List.range i).map val).any fun y=>decide (y=k)
noncomputable def many {K:Type} [DecidableEq K] (val:Nat→K):Nat→Nat
  | 0=>0
  | i+1=>if have_ val i (val i)=true then many val i else many val i+1
section
variable {prog:Program} {w:World} {A:Around} {R:Result→Shared→Prop} {I:Addr} {fp wr:List Addr} {G:Array GenState→Array GenState→Prop} {n:Nat} {P:Nat→Value→Prop} {St:Nat→Shared→Prop} {K:Type} [DecidableEq K] {knd:KeyKind prog w K}
end
end SX
set_option Elab.async false
set_option linter.all false
set_option maxRecDepth 100000
set_option maxHeartbeats 4000000
namespace L2
open PySem PySem.Spec PyProof.Rows
end L2
set_option Elab.async false
set_option linter.all false
set_option maxRecDepth 100000
set_option maxHeartbeats 4000000
namespace L2
open PySem PySem.Spec PyProof.Rows
end L2
set_option Elab.async false
set_option linter.all false
set_option maxRecDepth 100000
set_option maxHeartbeats 4000000
namespace ZZ
open PySem
open Sem (wp)
section
variable {prog:Program} {w:World} {A:Around} {E:Value→Shared→Prop} {s:Shared}
end
end ZZ
namespace L2
open PySem PySem.Spec PyProof.Rows
end L2
set_option Elab.async false
set_option linter.all false
set_option maxRecDepth 100000
set_option maxHeartbeats 4000000
namespace L2
open PySem PySem.Spec PyProof.Rows
end L2
set_option Elab.async false
set_option linter.all false
set_option maxRecDepth 100000
set_option maxHeartbeats 4000000
namespace L2
open PySem PySem.Spec PyProof.Rows
end L2
set_option Elab.async false
set_option linter.all false
set_option maxRecDepth 100000
set_option maxHeartbeats 1000000
namespace SO
open PySem PySem.W PyProof.Rows
variable {O:KeyOrd} {key:Nat→O.α} {N:Nat}
noncomputable def KN (key:Nat→O.α) (p:Array Nat) (i:Nat):O.α:=key (p.getD i 0)
noncomputable def SortedN (key:Nat→O.α) (p:Array Nat) (k:Nat):Prop:=∀ i j,i≤j→j < k→O.kle (KN key p i) (KN key p j)
noncomputable def FallN (key:Nat→O.α) (p:Array Nat) (k:Nat):Prop:=∀ i j,i≤j→j < k→O.kle (KN key p j) (KN key p i)
noncomputable def InN (N:Nat) (p:Array Nat):Prop:=p.toList.Perm (List.range N)
theorem InN.size {p:Array Nat} (h:InN N p):p.size=N:=by simpa using h.length_eq
theorem InN.lt {p:Array Nat} (h:InN N p) {i:Nat} (hi:i < N):p.getD i 0 < N:=by
  have hs:i < p.size:=by rw [h.size]; exact hi
  have e:p.getD i 0=p[i]:=by simp [Array.getD,hs]
  rw [e]
  exact List.mem_range.mp (h.mem_iff.mp (by simp))
theorem InN.of {p q:Array Nat} (h:InN N p) (g:q.Perm p):InN N q:=(Array.perm_iff_toList_perm.mp g).trans h
theorem KN_congr {p q:Array Nat} {i j:Nat} (h:p[i]?=q[j]?):KN key p i=KN key q j:=by
  unfold KN
  rw [Array.getD_eq_getD_getElem?,Array.getD_eq_getD_getElem?,h]
theorem KN_bubble {p:Array Nat} {src d:Nat} (hs:src < p.size) (hd:d≤src) (k:Nat) :
    KN key (bubble p src d) k=if k=src - d then KN key p src else if src - d < k∧k≤src then KN key p (k - 1) else KN key p k:=by
  have e:=getElem?_bubble hs d hd k
  by_cases h1:k=src - d
  · rw [if_pos h1] at e ⊢; exact KN_congr e
  · rw [if_neg h1] at e ⊢
    by_cases h2:src - d < k∧k≤src
    · rw [if_pos h2] at e ⊢; exact KN_congr e
    · rw [if_neg h2] at e ⊢; exact KN_congr e
theorem KN_rev {p:Array Nat} {i j:Nat} (hj:j≤p.size) (k:Nat):KN key (kas_rev p i j) k=if i≤k∧k < j then KN key p (i+j - 1 - k) else KN key p k:=by
  have e:=getElem?_mirror_all (i:=i) hj k
  unfold kas_rev
  by_cases h1:i≤k∧k < j
  · rw [if_pos h1] at e ⊢; exact KN_congr e
  · rw [if_neg h1] at e ⊢; exact KN_congr e
theorem KN_rev_equal {p:Array Nat} {i j:Nat} (hj:j≤p.size) (heq:∀ k,i≤k→k < j→KN key p k=KN key p (j - 1)) (k:Nat):KN key (kas_rev p i j) k=KN key p k:=by
  rw [KN_rev hj]
  split
  · rw [heq _ (by omega) (by omega),heq k (by omega) (by omega)]
  · rfl
theorem InN.rev {p:Array Nat} (h:InN N p) (i j:Nat):InN N (kas_rev p i j):=h.of (mirror_perm _ _ _ _)
section
variable {cmp:Nat→Nat→(Bool→Shared→Prop)→Shared→Prop} {s:Shared}
noncomputable def Cmp (key:Nat→O.α) (N:Nat) (cmp:Nat→Nat→(Bool→Shared→Prop)→Shared→Prop) (s:Shared):Prop :=
  ∀ (i j:Nat) (C:Bool→Shared→Prop),i < N→j < N→C (O.blt (key i) (key j)) s→cmp i j C s
end
section
variable {prog:Program} {w:World} {A:Around} {E:Value→Shared→Prop} {s:Shared}
noncomputable def Keeps (h h':Heap):Prop:=∀ b o,h.get? b=some o→h'.get? b=some o
end
end SO
set_option Elab.async false
set_option linter.all false
set_option maxRecDepth 100000
set_option maxHeartbeats 4000000
namespace PySem.SeqAt
open AutoSeq1 (wpAny_loadPart')
open MeetsSeq MeetsSeq2 MeetsSeq3 SeqRoads2
noncomputable def LtAt (A:Around) (s:Shared) (y x:Value) (b:Bool):Prop :=
  ∀ (prog:Program) (w:World) (E:Value→Shared→Prop) (Q:Value→Shared→Prop),Q (.bool b) s→wpAny (model prog w) A (richCompare .Lt y x) Q E s
noncomputable def lexR (e f:Nat→Bool) (fin:Bool):List Nat→Bool
  | []=>fin
  | i :: r=>if e i=true then lexR e f fin r else f i
theorem tuple_ltAt (l b:Addr) (items items2:Array Value) (n n2:Nat) (dd dd2:Option Addr) (sl sl2:Array (Option Value)) (e f:Nat→Bool) :
    Meets (Builtin.«tuple.__lt__» ⟨[.ref l,.ref b],[]⟩)
      (fun A R s=>s.heap.get? l=some { cls:=.type "tuple",dict:=dd,data:=.seq items n,slots:=sl }∧s.heap.get? b=some { cls:=.type "tuple",dict:=dd2,data:=.seq items2 n2,slots:=sl2 } ∧
        (∀ j (h1:j < items.size) (h2:j < items2.size),EqAt A.in1 s items[j] items2[j] (e j))∧(∀ j (h1:j < items.size) (h2:j < items2.size),e j=false→LtAt A.in1 s items[j] items2[j] (f j)) ∧
        R (.ok (.ret (.bool (lexR e f (decide (items.size < items2.size)) (List.range (min items.size items2.size)))))) s) :=
  .of_wp fun prog w A R s h=>by
    obtain ⟨hp,g,d,tk,os⟩:=s; obtain ⟨hl,hb,he,hf,h⟩:=h
    have f2:=AutoSeq1.sub_tuple_tuple
    have hZ:(items.toList.zip items2.toList).length=min items.size items2.size:=by simp
    wp_walk using wpAny_loadPart' hl,wpAny_loadPart' hb,wpAny_forIn_list _ (fun rest b s'=>b.1=none∧s'=⟨hp,g,d,tk,os⟩∧∃ i,rest=(items.toList.zip items2.toList).drop i ∧
      R (.ok (.ret (.bool (lexR e f (decide (items.size < items2.size)) ((List.range (min items.size items2.size)).drop i))))) ⟨hp,g,d,tk,os⟩) _
    case turn =>
      rintro ⟨y,x⟩ rest b s' ⟨hb',rfl,i,hz,hR⟩
      have hlt:i < (items.toList.zip items2.toList).length:=by
        rcases Nat.lt_or_ge i (items.toList.zip items2.toList).length with h' | h'
        · exact h'
        · rw [List.drop_of_length_le h'] at hz; cases hz
      have hm:i < min items.size items2.size:=hZ ▸ hlt
      have h1:i < items.size:=Nat.lt_of_lt_of_le hm (Nat.min_le_left _ _)
      have h2:i < items2.size:=Nat.lt_of_lt_of_le hm (Nat.min_le_right _ _)
      rw [List.drop_eq_getElem_cons hlt] at hz
      injection hz with hyx hrest
      have hy:y=items[i]:=by have:=congrArg Prod.fst hyx; simpa using this
      have hx:x=items2[i]:=by have:=congrArg Prod.snd hyx; simpa using this
      subst hy hx
      have hd:(List.range (min items.size items2.size)).drop i=i :: (List.range (min items.size items2.size)).drop (i+1):=by simp [List.drop_eq_getElem_cons,hm]
      rw [hd] at hR
      refine wpAny_bind (he i h1 h2 prog w _ _ ?_)
      cases hy:e i with
      | true =>
        have hR':R (.ok (.ret (.bool (lexR e f (decide (items.size < items2.size)) ((List.range (min items.size items2.size)).drop (i+1)))))) ⟨hp,g,d,tk,os⟩:=by
          have:lexR e f (decide (items.size < items2.size)) (i :: (List.range (min items.size items2.size)).drop (i+1))=lexR e f (decide (items.size < items2.size)) ((List.range (min items.size items2.size)).drop (i+1)):=by
            show (if e i=true then _ else _)=_
            rw [if_pos hy]
          rw [this] at hR
          exact hR
        wp_walk
        exact ⟨rfl,rfl,i+1,hrest,hR'⟩
      | false =>
        have hR':R (.ok (.ret (.bool (f i)))) ⟨hp,g,d,tk,os⟩:=by
          have:lexR e f (decide (items.size < items2.size)) (i :: (List.range (min items.size items2.size)).drop (i+1))=f i:=by
            show (if e i=true then _ else _)=_
            rw [if_neg (by simp [hy])]
          rw [this] at hR
          exact hR
        simp only [Bool.not_false,if_true]
        refine wpAny_bind (wpAny_rule (wpAny_bind (hf i h1 h2 hy prog w _ _ ?_)))
        wp_walk
        exact ⟨_,rfl,hR'⟩
    case fin =>
      rintro ⟨b1,b2⟩ s' ⟨hb',rfl,i,hz,hR⟩
      simp only at hb'
      subst hb'
      have hge:min items.size items2.size≤i:=by
        rcases Nat.lt_or_ge i (items.toList.zip items2.toList).length with h' | h'
        · rw [List.drop_eq_getElem_cons h'] at hz; cases hz
        · exact hZ ▸ h'
      rw [List.drop_of_length_le (by simpa using hge)] at hR
      wp_walk
      exact ⟨_,rfl,by simpa [Builtin.Tuple.tupleCompareSizes,lexR] using hR⟩
    case h =>
      exact ⟨rfl,rfl,0,rfl,by simpa using h⟩
section
variable {A:Around} {s:Shared}
theorem LtAt.tuples {l b:Addr} {items items2:Array Value} {e f:Nat→Bool} (hl:s.heap.IsTuple l items) (hb:s.heap.IsTuple b items2) (hu:A.units < cLine)
    (he:∀ j (h1:j < items.size) (h2:j < items2.size),EqAt A.in1 s items[j] items2[j] (e j)) (hf:∀ j (h1:j < items.size) (h2:j < items2.size),e j=false→LtAt A.in1 s items[j] items2[j] (f j)) :
    LtAt A s (.ref l) (.ref b) (lexR e f (decide (items.size < items2.size)) (List.range (min items.size items2.size))):=fun prog w E Q h=>by
  obtain ⟨⟨cls,dd,data,sl⟩,ho,hc,n,hd⟩:=id hl
  obtain ⟨⟨cls2,dd2,data2,sl2⟩,ho2,hc2,n2,hd2⟩:=id hb
  simp only at hc hd hc2 hd2
  subst hc hd hc2 hd2
  exact richCompare_meets_room (op:=.Lt) ⟨_,ho,rfl⟩ ⟨_,ho2,rfl⟩ F.slot_tuple_lt F.entry_tuple_lt (F.args_tuple_lt_2 _ _) (tuple_ltAt l b items items2 n n2 dd dd2 sl sl2 e f)
    ⟨ho,ho2,he,hf,show Value.bool (lexR e f (decide (items.size < items2.size)) (List.range (min items.size items2.size)))≠Value.notImplemented∧Q (.bool (lexR e f (decide (items.size < items2.size)) (List.range (min items.size items2.size)))) s from ⟨(fun x=>nomatch x),h⟩⟩ hu
end
end PySem.SeqAt
set_option Elab.async false
set_option linter.all false
set_option maxRecDepth 100000
set_option maxHeartbeats 400000
namespace L2
open PySem PySem.Spec PyProof.Rows
noncomputable def rankD:D→Nat
  | .non=>0 | .bl _=>1 | .int _=>2 | .str _=>3 | .tup _=>4
open Classical in
noncomputable def eqD (a b:D):Bool:=decide (a=b)
theorem str_ext {x y:Str} (e:x.cps.toList=y.cps.toList):x=y:=by
  cases x; cases y
  simp only at e
  congr
  exact Array.toList_inj.mp e
theorem eqD_eq {a b:D} (h:eqD a b=true):a=b:=@of_decide_eq_true _ (Classical.propDecidable _) h
theorem eqD_self (d:D):eqD d d=true:=@decide_eq_true _ (Classical.propDecidable _) rfl
theorem eqD_iff {a b:D}:eqD a b=true↔a=b:=⟨eqD_eq,fun h=>by subst h; exact eqD_self _⟩
theorem eqD_no {a b:D} (h:eqD a b=false):a≠b:=fun e=>by
  rw [eqD_iff.mpr e] at h
  cases h
theorem eqD_of_ne {a b:D} (h:a≠b):eqD a b=false:=by
  cases e:eqD a b with
  | true=>exact absurd (eqD_eq e) h
  | false=>rfl
noncomputable def klt:D→D→Bool
  | .bl a=>fun e=>match e with | .bl b=>!a && b | _=>false
  | .int a=>fun e=>match e with | .int b=>decide (a < b) | _=>false
  | .str x=>fun e=>match e with | .str y=>decide (x.cps.toList < y.cps.toList) | _=>false
  | _=>fun _=>false
noncomputable def dlt0 (a b:D):Bool:=decide (rankD a < rankD b) || klt a b
mutual
noncomputable def dlt:D→D→Bool
  | .tup xs=>fun e=>match e with | .tup ys=>dltL xs ys | _=>false
  | .non=>dlt0 .non
  | .bl b=>dlt0 (.bl b)
  | .int i=>dlt0 (.int i)
  | .str x=>dlt0 (.str x)
noncomputable def dltL:List D→List D→Bool
  | []=>fun ys=>match ys with | []=>false | _ :: _=>true
  | x :: xs=>fun ys=>match ys with | []=>false | y :: ys=>if eqD x y=true then dltL xs ys else dlt x y
end
theorem dlt_int (a b:Int):dlt (.int a) (.int b)=decide (a < b):=rfl
theorem dlt_str (x y:Str):dlt (.str x) (.str y)=decide (x.cps.toList < y.cps.toList):=rfl
theorem dlt_tt (xs ys:List D):dlt (.tup xs) (.tup ys)=dltL xs ys:=rfl
theorem dltL_nc (y:D) (ys:List D):dltL [] (y :: ys)=true:=rfl
theorem dltL_cn (x:D) (xs:List D):dltL (x :: xs) []=false:=rfl
theorem dltL_cc (x y:D) (xs ys:List D):dltL (x :: xs) (y :: ys)=if eqD x y=true then dltL xs ys else dlt x y:=rfl
theorem str_tri {x y:Str} (h1:¬ x.cps.toList < y.cps.toList) (h2:¬ y.cps.toList < x.cps.toList):x=y :=
  str_ext (List.le_antisymm (List.not_lt.mp h2) (List.not_lt.mp h1))
theorem ff {P:Prop} (h:false=true):P:=Bool.noConfusion h
theorem klt_e {P:D→D→Prop} (h1:P (.bl false) (.bl true)) (h2:∀ i j:Int,i < j→P (.int i) (.int j)) (h3:∀ x y:Str,x.cps.toList < y.cps.toList→P (.str x) (.str y)):∀ {a b:D},klt a b=true→P a b:=by
  intro a b h
  cases a with
  | bl p =>
    cases b with
    | bl q=>cases p <;> cases q <;> first | exact h1 | exact ff h
    | non=>exact ff h
    | int _=>exact ff h
    | str _=>exact ff h
    | tup _=>exact ff h
  | int p =>
    cases b with
    | int q=>exact h2 p q (of_decide_eq_true h)
    | non=>exact ff h
    | bl _=>exact ff h
    | str _=>exact ff h
    | tup _=>exact ff h
  | str p =>
    cases b with
    | str q=>exact h3 p q (of_decide_eq_true h)
    | non=>exact ff h
    | bl _=>exact ff h
    | int _=>exact ff h
    | tup _=>exact ff h
  | non=>exact ff h
  | tup _=>exact ff h
theorem klt_rank {a b:D} (h:klt a b=true):rankD a=rankD b∧rankD a < 4:=klt_e (P:=fun a b=>rankD a=rankD b∧rankD a < 4) ⟨rfl,by decide⟩ (fun _ _ _=>⟨rfl,by show 2 < 4; decide⟩) (fun _ _ _=>⟨rfl,by show 3 < 4; decide⟩) h
theorem klt_tr {a b c:D} (h:klt a b=true):klt b c=true→klt a c=true:=klt_e (P:=fun a b=>klt b c=true→klt a c=true) (fun h=>by cases c <;> exact ff h)
  (fun i j hij h=>by
    cases c with
    | int k=>exact decide_eq_true (Int.lt_trans hij (of_decide_eq_true h))
    | _=>exact ff h)
  (fun x y hxy h=>by
    cases c with
    | str z=>exact decide_eq_true (List.lt_trans hxy (of_decide_eq_true h))
    | _=>exact ff h) h
theorem dlt0_e {a b:D} (h:dlt0 a b=true):rankD a < rankD b∨klt a b=true:=(Bool.or_eq_true _ _ ▸ h:_∨_).imp of_decide_eq_true id
theorem dlt0_r {a b:D} (h:rankD a < rankD b):dlt0 a b=true:=by unfold dlt0; rw [decide_eq_true h]; rfl
theorem dlt0_k {a b:D} (h:klt a b=true):dlt0 a b=true:=by unfold dlt0; rw [h,Bool.or_true]
theorem dlt_0:∀ {a:D} (b:D),rankD a < 4→dlt a b=dlt0 a b
  | .non,_,_=>rfl
  | .bl _,_,_=>rfl
  | .int _,_,_=>rfl
  | .str _,_,_=>rfl
  | .tup _,_,h=>absurd h (by show ¬ 4 < 4; decide)
theorem tup_lt {xs:List D} {b:D} (h:dlt (.tup xs) b=true):∃ ys,b=.tup ys∧dltL xs ys=true:=by
  cases b with
  | tup ys=>exact ⟨ys,rfl,h⟩
  | _=>exact ff h
theorem tup_of {a:D} (h:¬ rankD a < 4):∃ xs,a=.tup xs:=by
  cases a with
  | tup xs=>exact ⟨xs,rfl⟩
  | non=>exact absurd (show 0 < 4 by decide) h
  | bl _=>exact absurd (show 1 < 4 by decide) h
  | int _=>exact absurd (show 2 < 4 by decide) h
  | str _=>exact absurd (show 3 < 4 by decide) h
theorem dlt_rank {a b:D} (h:dlt a b=true):rankD a≤rankD b:=by
  by_cases ha:rankD a < 4
  · rw [dlt_0 b ha] at h
    rcases dlt0_e h with h | h
    · omega
    · exact Nat.le_of_eq (klt_rank h).1
  · obtain ⟨xs,rfl⟩:=tup_of ha
    obtain ⟨ys,rfl,_⟩:=tup_lt h
    exact Nat.le_refl _
theorem tr0 {a b c:D} (ha:rankD a < 4) (h1:dlt a b=true) (h2:dlt b c=true):dlt a c=true:=by
  rw [dlt_0 _ ha] at h1 ⊢
  have hr:=dlt_rank h2
  rcases dlt0_e h1 with h | h
  · exact dlt0_r (Nat.lt_of_lt_of_le h hr)
  · have hk:=klt_rank h
    rw [dlt_0 _ (by rw [← hk.1]; exact hk.2)] at h2
    rcases dlt0_e h2 with q | q
    · exact dlt0_r (by rw [hk.1]; exact q)
    · exact dlt0_k (klt_tr h q)
theorem tot0:∀ {a:D} (b:D),rankD a < 4→dlt a b=false→dlt b a=false→a=b:=by
  intro a b ha h1 h2
  rw [dlt_0 _ ha] at h1
  have k1:¬ rankD a < rankD b:=fun z=>by rw [dlt0_r z] at h1; cases h1
  have hb:rankD b < 4:=by omega
  rw [dlt_0 _ hb] at h2
  have k2:¬ rankD b < rankD a:=fun z=>by rw [dlt0_r z] at h2; cases h2
  have q1:klt a b=false:=by
    cases h:klt a b with
    | false=>rfl
    | true=>rw [dlt0_k h] at h1; cases h1
  have q2:klt b a=false:=by
    cases h:klt b a with
    | false=>rfl
    | true=>rw [dlt0_k h] at h2; cases h2
  have e:rankD a=rankD b:=by omega
  clear h1 h2 k1 k2 hb
  cases a with
  | non=>cases b <;> first | rfl | exact absurd e (Nat.ne_of_beq_eq_false rfl)
  | bl p =>
    cases b with
    | bl q=>cases p <;> cases q <;> first | rfl | exact ff q1.symm | exact ff q2.symm
    | _=>exact absurd e (Nat.ne_of_beq_eq_false rfl)
  | int p =>
    cases b with
    | int q=>exact congrArg D.int (Int.le_antisymm (Int.not_lt.mp (of_decide_eq_false q2)) (Int.not_lt.mp (of_decide_eq_false q1)))
    | _=>exact absurd e (Nat.ne_of_beq_eq_false rfl)
  | str p =>
    cases b with
    | str q=>exact congrArg D.str (str_tri (of_decide_eq_false q1) (of_decide_eq_false q2))
    | _=>exact absurd e (Nat.ne_of_beq_eq_false rfl)
  | tup _=>exact absurd ha (by show ¬ 4 < 4; decide)
mutual
theorem dlt_irr:∀ d:D,dlt d d=false
  | .non=>rfl
  | .bl b=>by cases b <;> rfl
  | .int i=>decide_eq_false (Int.lt_irrefl i)
  | .str x=>decide_eq_false (List.lt_irrefl _)
  | .tup xs=>dltL_irr xs
theorem dltL_irr:∀ ds:List D,dltL ds ds=false
  | []=>rfl
  | d :: ds=>by rw [dltL_cc,if_pos (eqD_self d)]; exact dltL_irr ds
end
mutual
theorem dlt_tot:∀ a b:D,dlt a b=false→dlt b a=false→a=b
  | .non,b,h1,h2=>tot0 b (by show 0 < 4; decide) h1 h2
  | .bl x,b,h1,h2=>tot0 b (by show 1 < 4; decide) h1 h2
  | .int x,b,h1,h2=>tot0 b (by show 2 < 4; decide) h1 h2
  | .str x,b,h1,h2=>tot0 b (by show 3 < 4; decide) h1 h2
  | .tup xs,b,h1,h2=>by
    by_cases hb:rankD b < 4
    · exact (tot0 (.tup xs) hb h2 h1).symm
    · obtain ⟨ys,rfl⟩:=tup_of hb
      exact congrArg D.tup (dltL_tot xs ys h1 h2)
theorem dltL_tot:∀ a b:List D,dltL a b=false→dltL b a=false→a=b
  | [],[],_,_=>rfl
  | [],_ :: _,h1,_=>ff h1.symm
  | _ :: _,[],_,h2=>ff h2.symm
  | x :: xs,y :: ys,h1,h2=>by
    rw [dltL_cc] at h1 h2
    cases he:eqD x y with
    | true =>
      have e:=eqD_eq he
      subst e
      rw [if_pos he] at h1 h2
      rw [dltL_tot xs ys h1 h2]
    | false =>
      rw [if_neg (fun z=>eqD_no he (eqD_eq z))] at h1
      rw [if_neg (fun z=>eqD_no he (eqD_eq z).symm)] at h2
      exact absurd (dlt_tot x y h1 h2) (eqD_no he)
end
mutual
theorem dlt_tr:∀ a b c:D,dlt a b=true→dlt b c=true→dlt a c=true
  | .non,b,c,h1,h2=>tr0 (by show 0 < 4; decide) h1 h2
  | .bl x,b,c,h1,h2=>tr0 (by show 1 < 4; decide) h1 h2
  | .int x,b,c,h1,h2=>tr0 (by show 2 < 4; decide) h1 h2
  | .str x,b,c,h1,h2=>tr0 (by show 3 < 4; decide) h1 h2
  | .tup xs,b,c,h1,h2=>by
    obtain ⟨ys,rfl,q1⟩:=tup_lt h1
    obtain ⟨zs,rfl,q2⟩:=tup_lt h2
    exact dltL_tr xs ys zs q1 q2
theorem dltL_tr:∀ a b c:List D,dltL a b=true→dltL b c=true→dltL a c=true
  | [],[],_,h1,_=>ff h1
  | [],_ :: _,[],_,h2=>ff h2
  | [],_ :: _,_ :: _,_,_=>rfl
  | _ :: _,[],_,h1,_=>ff h1
  | _ :: _,_ :: _,[],_,h2=>ff h2
  | x :: xs,y :: ys,z :: zs,h1,h2=>by
    rw [dltL_cc] at h1 h2 ⊢
    cases hxy:eqD x y with
    | true =>
      have e:=eqD_eq hxy
      subst e
      rw [if_pos hxy] at h1
      cases hxz:eqD x z with
      | true =>
        rw [if_pos hxz] at h2
        rw [if_pos rfl]
        exact dltL_tr xs ys zs h1 h2
      | false =>
        rw [if_neg (fun z=>eqD_no hxz (eqD_eq z))] at h2
        rw [if_neg Bool.false_ne_true]
        exact h2
    | false =>
      rw [if_neg (fun z=>eqD_no hxy (eqD_eq z))] at h1
      cases hyz:eqD y z with
      | true =>
        have e:=eqD_eq hyz
        subst e
        rw [if_neg (fun z=>eqD_no hxy (eqD_eq z))]
        exact h1
      | false =>
        rw [if_neg (fun z=>eqD_no hyz (eqD_eq z))] at h2
        have g:=dlt_tr x y z h1 h2
        rw [if_neg]
        · exact g
        · intro z'
          have e:=eqD_eq z'
          subst e
          rw [dlt_irr] at g
          cases g
end
noncomputable def ordD:KeyOrd where
  α:=D
  blt:=dlt
  irrefl:=dlt_irr
  trans:=dlt_tr
  negTrans:=fun a b c h=>by
    cases h1:dlt a b with
    | true=>exact .inl rfl
    | false =>
      cases h2:dlt b a with
      | true=>exact .inr (dlt_tr b a c h2 h)
      | false =>
        have e:=dlt_tot a b h1 h2
        subst e
        exact .inr h
  total:=dlt_tot
end L2
set_option Elab.async false
set_option linter.all false
set_option maxRecDepth 100000
set_option maxHeartbeats 200000
namespace L2
open PySem PySem.Spec PyProof.Rows
noncomputable def UpD (ds:List D):Prop:=ds.Pairwise fun a b=>dlt b a=false
theorem upD_unique {xs ys:List D} (hx:UpD xs) (hy:UpD ys) (h:xs.Perm ys):xs=ys :=
  h.eq_of_pairwise (fun a b _ _ h1 h2=>dlt_tot a b h2 h1) hx hy
mutual
noncomputable def Sim:D→D→Prop
  | .int _=>fun e=>match e with | .int _=>True | _=>False
  | .str _=>fun e=>match e with | .str _=>True | _=>False
  | .tup xs=>fun e=>match e with | .tup ys=>SimL xs ys | _=>False
  | _=>fun _=>False
noncomputable def SimL:List D→List D→Prop
  | []=>fun _=>True
  | x :: xs=>fun ys=>match ys with | []=>True | y :: ys=>Sim x y∧SimL xs ys
end
theorem Sim_t {xs ys:List D} (h:SimL xs ys):Sim (.tup xs) (.tup ys):=h
theorem Sim_t' {xs ys:List D} (h:Sim (.tup xs) (.tup ys)):SimL xs ys:=h
theorem SimL_c {x y:D} {xs ys:List D} (h:Sim x y) (k:SimL xs ys):SimL (x :: xs) (y :: ys):=⟨h,k⟩
theorem SimL_c' {x y:D} {xs ys:List D} (h:SimL (x :: xs) (y :: ys)):Sim x y∧SimL xs ys:=h
theorem SimL_n (ys:List D):SimL [] ys:=trivial
theorem SimL.at_:∀ {xs ys:List D} {i:Nat} {x y:D},SimL xs ys→xs[i]?=some x→ys[i]?=some y→Sim x y
  | [],_,i,x,y,_,hx,_=>by simp at hx
  | _ :: _,[],i,x,y,_,_,hy=>by simp at hy
  | a :: xs,b :: ys,0,x,y,h,hx,hy=>by
    simp at hx hy
    subst hx; subst hy
    exact (SimL_c' h).1
  | a :: xs,b :: ys,i+1,x,y,h,hx,hy=>by
    exact SimL.at_ (i:=i) (SimL_c' h).2 (by simpa using hx) (by simpa using hy)
mutual
theorem Den.det {H:Hp}:∀ {d e:D} {v:V},Den H v d→Den H v e→d=e
  | .non,e,v,h1,h2=>by
    have:v=.non:=h1
    subst this
    cases e with
    | non=>rfl
    | tup ds=>obtain ⟨p,vs,z,_⟩:=den_tup h2; cases z
    | bl b=>exact absurd (show V.non=.bl b from h2) (fun z=>nomatch z)
    | int b=>exact absurd (show V.non=.int b from h2) (fun z=>nomatch z)
    | str b=>exact absurd (show V.non=.str b from h2) (fun z=>nomatch z)
  | .bl b,e,v,h1,h2=>by
    have:v=.bl b:=h1
    subst this
    cases e with
    | bl c=>have z:V.bl b=.bl c:=h2; cases z; rfl
    | tup ds=>obtain ⟨p,vs,z,_⟩:=den_tup h2; cases z
    | non=>exact absurd (show V.bl b=.non from h2) (fun z=>nomatch z)
    | int c=>exact absurd (show V.bl b=.int c from h2) (fun z=>nomatch z)
    | str c=>exact absurd (show V.bl b=.str c from h2) (fun z=>nomatch z)
  | .int b,e,v,h1,h2=>by
    have:v=.int b:=h1
    subst this
    cases e with
    | int c=>have z:V.int b=.int c:=h2; cases z; rfl
    | tup ds=>obtain ⟨p,vs,z,_⟩:=den_tup h2; cases z
    | non=>exact absurd (show V.int b=.non from h2) (fun z=>nomatch z)
    | bl c=>exact absurd (show V.int b=.bl c from h2) (fun z=>nomatch z)
    | str c=>exact absurd (show V.int b=.str c from h2) (fun z=>nomatch z)
  | .str b,e,v,h1,h2=>by
    have:v=.str b:=h1
    subst this
    cases e with
    | str c=>have z:V.str b=.str c:=h2; cases z; rfl
    | tup ds=>obtain ⟨p,vs,z,_⟩:=den_tup h2; cases z
    | non=>exact absurd (show V.str b=.non from h2) (fun z=>nomatch z)
    | bl c=>exact absurd (show V.str b=.bl c from h2) (fun z=>nomatch z)
    | int c=>exact absurd (show V.str b=.int c from h2) (fun z=>nomatch z)
  | .tup ds,e,v,h1,h2=>by
    obtain ⟨p,vs,rfl,hp,hd⟩:=den_tup h1
    cases e with
    | tup es =>
      obtain ⟨q,us,z,hq,he⟩:=den_tup h2
      cases z
      rw [hp] at hq
      cases hq
      rw [DenL.det hd he]
    | non=>exact absurd (show V.ref p=.non from h2) (fun z=>nomatch z)
    | bl c=>exact absurd (show V.ref p=.bl c from h2) (fun z=>nomatch z)
    | int c=>exact absurd (show V.ref p=.int c from h2) (fun z=>nomatch z)
    | str c=>exact absurd (show V.ref p=.str c from h2) (fun z=>nomatch z)
theorem DenL.det {H:Hp}:∀ {ds es:List D} {vs:List V},DenL H vs ds→DenL H vs es→ds=es
  | [],[],_,_,_=>rfl
  | [],_ :: _,[],_,h=>h.elim
  | [],_ :: _,_ :: _,h,_=>h.elim
  | _ :: _,[],[],h,_=>h.elim
  | _ :: _,[],_ :: _,_,h=>h.elim
  | _ :: _,_ :: _,[],h,_=>h.elim
  | d :: ds,e :: es,v :: vs,h1,h2=>by rw [Den.det h1.1 h2.1,DenL.det h1.2 h2.2]
end
open SeqAt (lexR)
theorem lexR_map (e f:Nat→Bool) (fin:Bool):∀ r:List Nat,lexR e f fin (r.map Nat.succ)=lexR (fun i=>e (i+1)) (fun i=>f (i+1)) fin r
  | []=>rfl
  | i :: r=>by
    show (if e (i+1)=true then lexR e f fin (r.map Nat.succ) else f (i+1))=_
    rw [lexR_map e f fin r]
    rfl
theorem lexR_dlt:∀ xs ys:List D,lexR (fun j=>eqD (xs.getD j .non) (ys.getD j .non)) (fun j=>dlt (xs.getD j .non) (ys.getD j .non)) (decide (xs.length < ys.length)) (List.range (min xs.length ys.length))=dltL xs ys
  | [],[]=>rfl
  | [],y :: ys=>by rw [dltL_nc]; simp [lexR]
  | x :: xs,[]=>by rw [dltL_cn]; simp [lexR]
  | x :: xs,y :: ys=>by
    have ih:=lexR_dlt xs ys
    rw [dltL_cc,show min (x :: xs).length (y :: ys).length=min xs.length ys.length+1 by simp only [List.length_cons]; omega,List.range_succ_eq_map]
    show (if eqD x y=true then lexR _ _ _ ((List.range (min xs.length ys.length)).map Nat.succ) else dlt x y)=_
    rw [lexR_map]
    have ed:decide ((x :: xs).length < (y :: ys).length)=decide (xs.length < ys.length):=by simp
    rw [ed]
    cases he:eqD x y with
    | true =>
      rw [if_pos rfl,if_pos rfl]
      simpa using ih
    | false =>
      rw [if_neg (by simp),if_neg (by simp)]
theorem allR_eq:∀ xs ys:List D,((List.range (min xs.length ys.length)).all (fun j=>eqD (xs.getD j .non) (ys.getD j .non)) && xs.length == ys.length)=eqD (.tup xs) (.tup ys):=by
  intro xs ys
  rw [Bool.eq_iff_iff,eqD_iff]
  constructor
  · intro h
    simp only [Bool.and_eq_true,List.all_eq_true,List.mem_range,beq_iff_eq] at h
    obtain ⟨h1,h2⟩:=h
    congr 1
    apply List.ext_getElem h2
    intro i a b
    have:=eqD_iff.mp (h1 i (by omega))
    simpa [List.getD_eq_getElem?_getD,a,b] using this
  · intro h
    injection h with h
    subst h
    simp [eqD_iff]
end L2
set_option Elab.async false
set_option linter.all false
set_option maxRecDepth 100000
set_option maxHeartbeats 200000
namespace L2
open PySem PySem.Spec PyProof.Rows
section
variable {X:Cx} {pins:List (Addr × Obj)} {σ:St} {H:Hp} {s:Shared}
theorem tup_keep {h h':Heap} {a:Addr} {its:Array Value} (k:SO.Keeps h h') (t:h.IsTuple a its):h'.IsTuple a its:=by
  obtain ⟨o,e,r⟩:=t
  exact ⟨o,k _ _ e,r⟩
theorem eq_intD {s':Shared} {i j:Int} {A:Around} {x y:V} {v u:Value} (hx:Den H x (.int i)) (hy:Den H y (.int j)) (rx:RelV x v) (ry:RelV y u):SeqAt.EqAt A s' v u (eqD (.int i) (.int j)):=by
  have e1:x=.int i:=hx
  have e2:y=.int j:=hy
  subst e1
  subst e2
  obtain ⟨t,rfl⟩:=rx
  obtain ⟨t',rfl⟩:=ry
  have key:=SeqAt.EqAt.int_int (A:=A) (s:=s') i t j t'
  have e:(i == j)=eqD (.int i) (.int j):=by
    rw [Bool.eq_iff_iff,eqD_iff,beq_iff_eq]
    exact ⟨fun z=>by rw [z],fun z=>by injection z⟩
  rw [← e]
  exact key
theorem eq_strD {s':Shared} {i j:Str} {A:Around} {x y:V} {v u:Value} (hx:Den H x (.str i)) (hy:Den H y (.str j)) (rx:RelV x v) (ry:RelV y u):SeqAt.EqAt A s' v u (eqD (.str i) (.str j)):=by
  have e1:x=.str i:=hx
  have e2:y=.str j:=hy
  subst e1
  subst e2
  obtain ⟨t,rfl⟩:=rx
  obtain ⟨t',rfl⟩:=ry
  have key:=SeqAt.EqAt.str_str (A:=A) (s:=s') i t j t'
  have e:(i == j)=eqD (.str i) (.str j):=by
    rw [Bool.eq_iff_iff,eqD_iff,beq_iff_eq]
    exact ⟨fun z=>by rw [z],fun z=>by injection z⟩
  rw [← e]
  exact key
theorem lt_intD {s':Shared} {i j:Int} {A:Around} {x y:V} {v u:Value} (hx:Den H x (.int i)) (hy:Den H y (.int j)) (rx:RelV x v) (ry:RelV y u):SeqAt.LtAt A s' v u (dlt (.int i) (.int j)):=by
  have e1:x=.int i:=hx
  have e2:y=.int j:=hy
  subst e1
  subst e2
  obtain ⟨t,rfl⟩:=rx
  obtain ⟨t',rfl⟩:=ry
  intro prog w E Q h
  rw [dlt_int] at h
  exact PyProof.Rows.lt_int h
theorem lt_strD {s':Shared} {i j:Str} {A:Around} {x y:V} {v u:Value} (hx:Den H x (.str i)) (hy:Den H y (.str j)) (rx:RelV x v) (ry:RelV y u):SeqAt.LtAt A s' v u (dlt (.str i) (.str j)):=by
  have e1:x=.str i:=hx
  have e2:y=.str j:=hy
  subst e1
  subst e2
  obtain ⟨t,rfl⟩:=rx
  obtain ⟨t',rfl⟩:=ry
  intro prog w E Q h
  rw [dlt_str] at h
  exact PyProof.Rows.lt_str h
noncomputable def CmpD (H:Hp) (s':Shared) (n:Nat):Prop :=
  ∀ (d e:D) (A:Around) (x y:V) (v u:Value),Shal n d→Shal n e→Sim d e→Den H x d→Den H y e→RelV x v→RelV y u→A.units+n < cLine→SeqAt.EqAt A s' v u (eqD d e)∧SeqAt.LtAt A s' v u (dlt d e)
theorem cmpD_tup (I:Inv X pins σ H s) {s':Shared} (kp:SO.Keeps s.heap s'.heap) {n:Nat} (ih:CmpD H s' n) {ds es:List D} {A:Around} {x y:V} {v u:Value} (hs:Shal (n+1) (.tup ds)) (hs2:Shal (n+1) (.tup es))
    (hm:Sim (.tup ds) (.tup es)) (hx:Den H x (.tup ds)) (hy:Den H y (.tup es)) (rx:RelV x v) (ry:RelV y u) (hu:A.units+(n+1) < cLine):SeqAt.EqAt A s' v u (eqD (.tup ds) (.tup es))∧SeqAt.LtAt A s' v u (dlt (.tup ds) (.tup es)):=by
  obtain ⟨a,vs,rfl,ha,hda⟩:=den_tup hx
  obtain ⟨b,us,rfl,hb,hdb⟩:=den_tup hy
  cases rx
  cases ry
  obtain ⟨its,r1,p1,_⟩:=I.tuple (SqT.of (K:=X.K) ha)
  obtain ⟨its2,r2,p2,_⟩:=I.tuple (SqT.of (K:=X.K) hb)
  have l1:=hda.len
  have l2:=hdb.len
  have m1:=r1.length
  have m2:=r2.length
  replace hm:=Sim_t' hm
  have both:∀ j (h1:j < its.toArray.size) (h2:j < its2.toArray.size),SeqAt.EqAt A.in1 s' its.toArray[j] its2.toArray[j] (eqD (ds.getD j .non) (es.getD j .non))∧SeqAt.LtAt A.in1 s' its.toArray[j] its2.toArray[j] (dlt (ds.getD j .non) (es.getD j .non)):=by
    intro j h1 h2
    have hj1:j < vs.length:=by simpa [m1] using h1
    have hj2:j < us.length:=by simpa [m2] using h2
    obtain ⟨d1,g1,b1⟩:=hda.at_ (List.getElem?_eq_getElem hj1)
    obtain ⟨d2,g2,b2⟩:=hdb.at_ (List.getElem?_eq_getElem hj2)
    obtain ⟨w1,hw1,rw1⟩:=r1.get (List.getElem?_eq_getElem hj1)
    obtain ⟨w2,hw2,rw2⟩:=r2.get (List.getElem?_eq_getElem hj2)
    have q1:its.toArray[j]=w1:=by
      have:=(List.getElem?_eq_some_iff.mp hw1).2
      simpa using this
    have q2:its2.toArray[j]=w2:=by
      have:=(List.getElem?_eq_some_iff.mp hw2).2
      simpa using this
    rw [q1,q2]
    rw [List.getD_eq_getElem?_getD,List.getD_eq_getElem?_getD,g1,g2]
    have s1:=(hs.2 ds rfl).2 d1 (List.mem_of_getElem? g1)
    have s2:=(hs2.2 es rfl).2 d2 (List.mem_of_getElem? g2)
    exact ih d1 d2 A.in1 _ _ _ _ s1 s2 (hm.at_ g1 g2) b1 b2 rw1 rw2 (by first | (simp only [Around.in1]; omega) | omega)
  constructor
  · by_cases hab:a=b
    · subst hab
      have e:=Den.det hx hy
      rw [eqD_iff.mpr e]
      exact SeqAt.EqAt.same _
    · have key:=SeqAt.EqAt.of_refs hab (SeqAt.RcAt.tuples (A:=A) (s:=s') (e:=fun j=>eqD (ds.getD j .non) (es.getD j .non)) (tup_keep kp p1) (tup_keep kp p2) (by omega) fun j h1 h2=>(both j h1 h2).1)
      have q:=allR_eq ds es
      rw [show ds.length=its.toArray.size by simp; omega,show es.length=its2.toArray.size by simp; omega] at q
      rw [q] at key
      exact key
  · have key:=SeqAt.LtAt.tuples (A:=A) (s:=s') (e:=fun j=>eqD (ds.getD j .non) (es.getD j .non)) (f:=fun j=>dlt (ds.getD j .non) (es.getD j .non)) (tup_keep kp p1) (tup_keep kp p2) (by omega)
      (fun j h1 h2=>(both j h1 h2).1) (fun j h1 h2 _=>(both j h1 h2).2)
    have q:=lexR_dlt ds es
    rw [show ds.length=its.toArray.size by simp; omega,show es.length=its2.toArray.size by simp; omega] at q
    rw [q] at key
    rw [dlt_tt]
    exact key
theorem sim_cases {P:D→D→Prop} (hi:∀ i j,P (.int i) (.int j)) (hs:∀ i j,P (.str i) (.str j)) (ht:∀ xs ys,SimL xs ys→P (.tup xs) (.tup ys)):∀ {d e:D},Sim d e→P d e:=by
  intro d e h
  cases d <;> cases e <;> first | exact hi _ _ | exact hs _ _ | exact ht _ _ (Sim_t' h) | exact False.elim h
theorem cmpD (I:Inv X pins σ H s) {s':Shared} (kp:SO.Keeps s.heap s'.heap):∀ n:Nat,CmpD H s' n:=by
  intro n
  induction n with
  | zero =>
    intro d e A x y v u hs hs2 hm
    revert hs hs2
    refine sim_cases (P:=fun d e=>Shal 0 d→Shal 0 e→Den H x d→Den H y e→RelV x v→RelV y u→A.units+0 < cLine→SeqAt.EqAt A s' v u (eqD d e)∧SeqAt.LtAt A s' v u (dlt d e)) ?_ ?_ ?_ hm
    · exact fun i j _ _ hx hy rx ry _=>⟨eq_intD hx hy rx ry,lt_intD hx hy rx ry⟩
    · exact fun i j _ _ hx hy rx ry _=>⟨eq_strD hx hy rx ry,lt_strD hx hy rx ry⟩
    · exact fun xs ys _ hs _ _ _ _ _ _=>absurd rfl (hs.2 xs)
  | succ n ih =>
    intro d e A x y v u hs hs2 hm
    revert hs hs2
    refine sim_cases (P:=fun d e=>Shal (n+1) d→Shal (n+1) e→Den H x d→Den H y e→RelV x v→RelV y u→A.units+(n+1) < cLine→SeqAt.EqAt A s' v u (eqD d e)∧SeqAt.LtAt A s' v u (dlt d e)) ?_ ?_ ?_ hm
    · exact fun i j _ _ hx hy rx ry _=>⟨eq_intD hx hy rx ry,lt_intD hx hy rx ry⟩
    · exact fun i j _ _ hx hy rx ry _=>⟨eq_strD hx hy rx ry,lt_strD hx hy rx ry⟩
    · exact fun xs ys hm hs hs2 hx hy rx ry hu=>cmpD_tup I kp ih hs hs2 (Sim_t hm) hx hy rx ry hu
end
end L2
set_option Elab.async false
set_option linter.all false
set_option maxRecDepth 100000
set_option maxHeartbeats 400000
namespace SO
open PySem PySem.W PyProof.Rows
section
variable {prog:Program} {w:World} {A:Around} {E:Value→Shared→Prop} {s:Shared}
theorem collect_seq {l:Addr} {c:String} {vs:List Value} {o:Obj} {n:Nat} {Q:List Value→Shared→Prop} (ho:s.heap.get? l=some o) (hc:o.cls=.type c) (hcc:c = "list"∨c = "tuple") (hd:o.data=.seq vs.toArray n)
    (h:Q vs { s with heap:=(s.heap.push (seqObj "list" #[] 0)).update s.heap.objs.size (Obj.mapSeq (· ++ vs.toArray)) }) (hsz:vs.length≤sizeLine) :
    wpAny (model prog w) A (collect (.ref l)) Q E s:=by
  unfold collect
  refine wpAny_bind (wpAny_runValue (codeAny_builtin entry_proto_collect' ?_))
  show wpAny _ _ (do again (.builtin "list.__iadd__" ⟨[← newList [],.ref l],[]⟩)) _ _ s
  refine wpAny_bind (wpAny_newList (wpAny_pure ⟨Code.quiet_builtin _ (by decide +kernel),codeAny_builtin entry_list_iadd' ?_⟩))
  show wpAny _ _ (Builtin.List.listExtendWith (.ref s.heap.objs.size) (.ref l) (.ref s.heap.objs.size)) _ _ { s with heap:=s.heap.push (seqObj "list" #[] 0) }
  unfold Builtin.List.listExtendWith
  have ho':(s.heap.push (seqObj "list" #[] 0)).get? l=some o:=Heap.get?_push_of_some _ ho
  refine wpAny_bind (wpAny_typeOf (T:=c) ⟨o,ho',hc⟩ ?_)
  rw [if_pos (by rcases hcc with rfl | rfl <;> simp)]
  refine wpAny_bind (listItems_at ho' hd ?_)
  refine wpAny_bind (listItems_at (xs:=#[]) (n:=0) (Heap.get?_push_size _ rfl) rfl ?_)
  rw [if_neg (by simp)]
  refine wpAny_bind (listUpdate_at (xs:=#[]) (n:=0) (Heap.get?_push_size _ rfl) rfl ?_ (Nat.zero_le _) (by show (#[]++vs.toArray).size≤sizeLine+1; simp only [Array.size_append,List.size_toArray,List.length_nil]; omega))
  refine wpAny_pure ?_
  show wpAny (model prog w) A (do
      let o ← load s.heap.objs.size
      match o.data with
      | .seq xs _=>pure xs.toList
      | _=>unsupported "internal:collect") Q E { s with heap:=(s.heap.push (seqObj "list" #[] 0)).update s.heap.objs.size (Obj.mapSeq (· ++ vs.toArray)) }
  refine wpAny_bind (wpAny_load (get?_update_seq (Heap.get?_push_size _ rfl) _) ?_)
  show wpAny _ _ (pure ((#[]:Array Value)++vs.toArray).toList) Q E _
  rw [show ((#[]:Array Value)++vs.toArray).toList=vs by simp]
  exact wpAny_pure h
theorem katlex {b fin:Bool} {Q:Bool→Shared→Prop} {e f:Nat→Bool}:∀ (l:List (Value × Value)) (i:Nat),(∀ j p q,l[j]?=some (p,q)→SeqAt.EqAt A s p q (e (i+j))) →
    (∀ j p q,l[j]?=some (p,q)→e (i+j)=false→∀ (Q:Bool→Shared→Prop) (E:Value→Shared→Prop),Q (f (i+j)) s→wpAny (model prog w) A (oneLt' (b && (i+j) == 0) p q) Q E s) →
    Q (SeqAt.lexR e f fin (List.range' i l.length)) s→KatLex prog w A b fin Q l i s
  | [],i,_,_,h=>kat_nil h
  | (p,q) :: l,i,he,hf,h=>by
    refine kat_cons ((he 0 p q rfl) prog w _ _ ?_)
    rw [Nat.add_zero]
    have h':Q (if e i=true then SeqAt.lexR e f fin (List.range' (i+1) l.length) else f i) s:=h
    cases hy:e i with
    | true =>
      rw [hy,if_pos rfl] at h'
      exact kat_yes (katlex l (i+1) (fun j p q z=>by rw [show i+1+j=i+(j+1) by omega]; exact he (j+1) p q (by simpa using z)) (fun j p q z=>by rw [show i+1+j=i+(j+1) by omega]; exact hf (j+1) p q (by simpa using z)) h')
    | false =>
      rw [hy,if_neg (by simp)] at h'
      exact kat_no (by have:=hf 0 p q rfl (by simpa using hy) Q (fun _ _=>False) (by simpa using h'); simpa using this)
end
end SO
namespace L2
open PySem PySem.Spec PyProof.Rows
open SeqAt (lexR)
noncomputable def Hom (ds:List D):Prop:=(∀ a∈ds,∀ b∈ds,Sim a b)∧((∀ d∈ds,∃ i,d=.int i)∨(∀ d∈ds,∃ x,d=.str x)∨(∀ d∈ds,∃ e r,d=.tup (e :: r)))
theorem denL_map {H:Hp} {vs:List V} {ds:List D} (h:DenL H vs ds):∀ l:List Nat,(∀ i∈l,i < ds.length)→DenL H (l.map fun i=>vs.getD i .non) (l.map fun i=>ds.getD i .non)
  | [],_=>trivial
  | i :: l,hl=>by
    refine ⟨?_,denL_map h l fun j hj=>hl j (.tail _ hj)⟩
    have hi:i < vs.length:=by rw [h.len]; exact hl i (.head _)
    obtain ⟨d,hd,r⟩:=h.at_ (List.getElem?_eq_getElem hi)
    dsimp only
    rw [List.getD_eq_getElem?_getD,List.getD_eq_getElem?_getD,hd,List.getElem?_eq_getElem hi]
    exact r
theorem vals_map {vs:List V} {its:List Value} (h:Vals vs its):∀ l:List Nat,(∀ i∈l,i < vs.length)→Vals (l.map fun i=>vs.getD i .non) (l.map fun i=>its.getD i Value.none)
  | [],_=>.nil
  | i :: l,hl=>by
    refine .cons ?_ (vals_map h l fun j hj=>hl j (.tail _ hj))
    have hi:i < vs.length:=hl i (.head _)
    obtain ⟨d,hd,r⟩:=h.get (List.getElem?_eq_getElem hi)
    dsimp only
    rw [List.getD_eq_getElem?_getD,List.getD_eq_getElem?_getD,hd,List.getElem?_eq_getElem hi]
    exact r
section
variable {X:Cx} {pins:List (Addr × Obj)} {σ:St} {H:Hp} {s:Shared}
theorem at3 {vs:List V} {ds:List D} {its:List Value} (hd:DenL H vs ds) (r:Vals vs its) {i:Nat} (hi:i < ds.length):∃ (x:V) (v:Value),vs[i]?=some x∧its[i]?=some v∧its.getD i Value.none=v∧Den H x (ds.getD i .non)∧RelV x v∧ds.getD i .non∈ds:=by
  have hv:i < vs.length:=by rw [hd.len]; exact hi
  obtain ⟨d,g,b⟩:=hd.at_ (List.getElem?_eq_getElem hv)
  obtain ⟨u,hu,ru⟩:=r.get (List.getElem?_eq_getElem hv)
  have e:ds.getD i .non=d:=by rw [List.getD_eq_getElem?_getD,g]; rfl
  rw [e]
  exact ⟨_,u,List.getElem?_eq_getElem hv,hu,by rw [List.getD_eq_getElem?_getD,hu]; rfl,b,ru,List.mem_of_getElem? g⟩
theorem one_false {s':Shared} {prog:Program} {w:World} {A:Around} {v u:Value} {b:Bool} (h:SeqAt.LtAt A s' v u b) (Q:Bool→Shared→Prop) (E:Value→Shared→Prop) (q:Q b s'):wpAny (model prog w) A (oneLt' false v u) Q E s' :=
  PySem.W.kat_one v u (h prog w E _ q)
theorem one_true {s':Shared} {prog:Program} {w:World} {A:Around} {x y:V} {d e:D} {v u:Value} (hm:Sim d e) (hd:Den H x d) (he:Den H y e) (rx:RelV x v) (ry:RelV y u) (nt:∀ ds,d≠.tup ds) (Q:Bool→Shared→Prop) (E:Value→Shared→Prop) (q:Q (dlt d e) s') :
    wpAny (model prog w) A (oneLt' true v u) Q E s':=by
  revert hd he nt q
  refine sim_cases (P:=fun d e=>Den H x d→Den H y e→(∀ ds,d≠.tup ds)→Q (dlt d e) s'→wpAny (model prog w) A (oneLt' true v u) Q E s') ?_ ?_ ?_ hm
  · intro i j hx hy _ q
    have e1:x=.int i:=hx
    have e2:y=.int j:=hy
    subst e1
    subst e2
    obtain ⟨t,rfl⟩:=rx
    obtain ⟨t',rfl⟩:=ry
    rw [dlt_int] at q
    exact oneLt_int q
  · intro i j hx hy _ q
    have e1:x=.str i:=hx
    have e2:y=.str j:=hy
    subst e1
    subst e2
    obtain ⟨t,rfl⟩:=rx
    obtain ⟨t',rfl⟩:=ry
    rw [dlt_str] at q
    exact oneLt_str q
  · intro xs ys _ _ _ nt _
    exact absurd rfl (nt xs)
theorem looks_of {M:Model} {x:V} {v:Value} {d:D} (I:Inv X pins σ H s) {h':Heap} (kp:SO.Keeps s.heap h') (hd:Den H x d) (rx:RelV x v):(∀ i,d=.int i→PySem.W.Looks M h' (typeOf v) (.type "int"))∧(∀ i,d=.str i→PySem.W.Looks M h' (typeOf v) (.type "str")) ∧
    (∀ ds,d=.tup ds→PySem.W.Looks M h' (typeOf v) (.type "tuple")):=by
  refine ⟨fun i e=>?_,fun i e=>?_,fun ds e=>?_⟩
  · subst e
    have e1:x=.int i:=hd
    subst e1
    obtain ⟨t,rfl⟩:=rx
    exact PySem.W.Looks.of_pure rfl
  · subst e
    have e1:x=.str i:=hd
    subst e1
    obtain ⟨t,rfl⟩:=rx
    exact PySem.W.Looks.of_pure rfl
  · subst e
    obtain ⟨a,vs,rfl,ha,hda⟩:=den_tup hd
    cases rx
    obtain ⟨its,r1,⟨o,eo,ec,_⟩,_⟩:=I.tuple (SqT.of (K:=X.K) ha)
    rw [← ec]
    exact (PySem.W.Looks.ld (kp _ _ eo)).andThen .now
noncomputable def tyD:D→Value
  | .int _=>.type "int"
  | .str _=>.type "str"
  | _=>.type "tuple"
theorem tyD_sim {d e:D} (h:Sim d e):tyD d=tyD e:=sim_cases (P:=fun d e=>tyD d=tyD e) (fun _ _=>rfl) (fun _ _=>rfl) (fun _ _ _=>rfl) h
theorem tyD_self (d:D):(tyD d == tyD d)=true:=by cases d <;> rfl
theorem tyD_tup {d e:D} (hm:Sim d e) (h:(tyD d != .type "tuple")=true):∀ ds,d≠.tup ds:=by
  intro ds z
  subst z
  exact absurd (show (Value.type "tuple" != Value.type "tuple")=true from h) (by decide)
theorem looks_ty {M:Model} {x:V} {v:Value} {d e:D} (I:Inv X pins σ H s) {h':Heap} (kp:SO.Keeps s.heap h') (hm:Sim d e) (hd:Den H x d) (rx:RelV x v):PySem.W.Looks M h' (typeOf v) (tyD d):=by
  obtain ⟨a,b,c⟩:=looks_of (M:=M) I kp hd rx
  revert a b c
  exact sim_cases (P:=fun d e=>(∀ i,d=.int i→PySem.W.Looks M h' (typeOf v) (.type "int"))→(∀ i,d=.str i→PySem.W.Looks M h' (typeOf v) (.type "str"))→(∀ ds,d=.tup ds→PySem.W.Looks M h' (typeOf v) (.type "tuple"))→PySem.W.Looks M h' (typeOf v) (tyD d))
    (fun i _ a _ _=>a i rfl) (fun i _ _ b _=>b i rfl) (fun xs _ _ _ _ c=>c xs rfl) hm
theorem kat_tups (I:Inv X pins σ H s) {h':Heap} (kp:SO.Keeps s.heap h'):∀ {vs:List V} {ds:List D} {its:List Value},DenL H vs ds→Vals vs its→(∀ d∈ds,∃ e r,d=.tup (e :: r)) →
    ∃ fs,PySem.W.KatTups h' its fs∧fs.length=its.length∧∀ v∈fs,∃ (x:V) (d:D) (r:List D),Den H x d∧RelV x v∧D.tup (d :: r)∈ds
  | [],[],_,_,.nil,_=>⟨[],trivial,rfl,fun v hv=>by cases hv⟩
  | x :: vs,d :: ds,_,hd,.cons r rr,ht=>by
    obtain ⟨fs,k,l,m⟩:=kat_tups I kp hd.2 rr fun d hd=>ht d (.tail _ hd)
    obtain ⟨e,r0,rfl⟩:=ht d (.head _)
    obtain ⟨a,ws,rfl,ha,hda⟩:=den_tup hd.1
    cases r
    obtain ⟨its1,r1,⟨o,eo,ec,n,ed⟩,_⟩:=I.tuple (SqT.of (K:=X.K) ha)
    match ws,its1,hda,r1,ed with
    | w0 :: ws,_ :: its1,hda,.cons q0 q,ed =>
      refine ⟨_ :: fs,PySem.W.KatTups.cons (kp _ _ eo) ec ed (by simp; rfl) k,by simp [l],fun v hv=>?_⟩
      rcases List.mem_cons.mp hv with rfl | hv
      · exact ⟨w0,e,r0,hda.1,q0,.head _⟩
      · obtain ⟨x,d,r,z1,z2,z3⟩:=m v hv
        exact ⟨x,d,r,z1,z2,.tail _ z3⟩
    | [],_,hda,_,_=>exact hda.elim
end
end L2
set_option Elab.async false
set_option linter.all false
set_option maxRecDepth 100000
set_option maxHeartbeats 400000
namespace PySem.SeqAt
open AutoSeq1 (wpAny_loadPart')
open MeetsSeq MeetsSeq2 MeetsSeq3 SeqRoads2
end PySem.SeqAt
namespace L2
open PySem PySem.Spec PyProof.Rows
end L2
set_option Elab.async false
set_option linter.all false
set_option maxRecDepth 100000
set_option maxHeartbeats 400000
namespace L2
open PySem PySem.Spec PyProof.Rows
end L2
set_option Elab.async false
set_option linter.all false
set_option maxRecDepth 100000
namespace L2
open PySem
structure Row70 (xs:List (List Nat)):Prop where
  len:xs.length=70
  nd:xs.Nodup
  nm:∀ x∈xs,isNm ⟨x.toArray⟩=true
end L2
set_option Elab.async false
set_option linter.all false
set_option maxRecDepth 100000
set_option maxHeartbeats 400000
namespace L2
open PySem PySem.Spec PyProof.Rows
end L2
set_option Elab.async false
set_option linter.all false
set_option maxRecDepth 100000
set_option maxHeartbeats 400000
namespace L2
open PySem PySem.Spec PyProof.Rows
end L2
set_option Elab.async false
set_option linter.all false
set_option maxRecDepth 100000
set_option maxHeartbeats 4000000
namespace M08
theorem cut_flat (ms ks:List (List Nat)):∀ (n:Nat) (acc t:List Nat),t.length≤n→(cut ms ks acc t).flatten=acc++t
  | n,acc,[],_=>by
    rw [cut_nil]
    split
    · rename_i h
      simp [h]
    · simp
  | 0,_,_ :: _,h=>by simp at h
  | n+1,acc,c :: r,hn=>by
    have h1:=stepN_pos ms ks (c :: r)
    have hl:((c :: r).drop (stepN ms ks (c :: r))).length≤n:=by
      rw [List.length_drop]
      simp at hn ⊢
      omega
    by_cases he:ended ms ks (c :: r)=0
    · rw [cut_on (by simp) he,cut_flat ms ks n _ _ hl,List.append_assoc,List.take_append_drop]
    · rw [cut_end (by simp) he,List.flatten_cons,cut_flat ms ks n _ _ hl,List.append_assoc,List.nil_append,List.take_append_drop]
end M08
namespace L2
open M08
noncomputable def pathD (ks:List Int):D:=.tup (ks.map D.int)
noncomputable def ndD (p:List Int × D):D:=.tup [pathD p.1,p.2]
noncomputable def leafD (p:List Int × List Nat):D:=.tup [pathD p.1,sD p.2]
noncomputable def Tr:Nat→D→Prop
  | 0,d=>∃ x:List Nat,d=sD x
  | n+1,d=>∃ ds,d=.tup ds∧∀ e∈ds,Tr n e
noncomputable def nds:Nat→List Int→D→List (List Int × D)
  | n+1,ks,.tup ds=>(ks,.tup ds) :: ds.zipIdx.flatMap fun p=>nds n (ks++[((p.2:Nat):Int)]) p.1
  | _,ks,d=>[(ks,d)]
noncomputable def lvs:Nat→List Int→D→List (List Int × List Nat)
  | n+1,ks,.tup ds=>ds.zipIdx.flatMap fun p=>lvs n (ks++[((p.2:Nat):Int)]) p.1
  | 0,ks,.str x=>[(ks,x.cps.toList)]
  | _,_,_=>[]
noncomputable def cntN:Nat→D→Nat
  | n+1,.tup ds=>1+(ds.map (cntN n)).sum
  | _,_=>1
noncomputable def isS:D→Bool
  | .str _=>true
  | _=>false
theorem flatMap_zip {α β:Type} (f:α × Nat→List β) (g:α→Nat) (h:∀ x i,(f (x,i)).length=g x):∀ (ds:List α) (k:Nat),((ds.zipIdx k).flatMap f).length=(ds.map g).sum
  | [],_=>rfl
  | d :: ds,k=>by
    rw [List.zipIdx_cons,List.flatMap_cons,List.length_append,h,flatMap_zip f g h ds,List.map_cons,List.sum_cons]
theorem nds_len:∀ (n:Nat) (ks:List Int) (d:D),(nds n ks d).length=cntN n d
  | 0,ks,d=>by cases d <;> rfl
  | n+1,ks,.tup ds=>by
    show _+1=_
    rw [flatMap_zip _ (cntN n) (fun x i=>nds_len n _ x)]
    show _=1+_
    omega
  | _+1,_,.non=>rfl
  | _+1,_,.bl _=>rfl
  | _+1,_,.int _=>rfl
  | _+1,_,.str _=>rfl
theorem nds_lvs:∀ (n:Nat) (ks:List Int) (d:D),Tr n d→((nds n ks d).filter fun p=>isS p.2).map ndD=(lvs n ks d).map leafD
  | 0,ks,d,h=>by
    obtain ⟨x,rfl⟩:=h
    simp [nds,lvs,isS,ndD,leafD]
  | n+1,ks,d,h=>by
    obtain ⟨ds,rfl,h⟩:=h
    have key:∀ (es:List D) (k:Nat),(∀ e∈es,Tr n e)→(((es.zipIdx k).flatMap fun p=>nds n (ks++[((p.2:Nat):Int)]) p.1).filter fun p=>isS p.2).map ndD=(((es.zipIdx k).flatMap fun p=>lvs n (ks++[((p.2:Nat):Int)]) p.1)).map leafD:=by
      intro es
      induction es with
      | nil=>intro k _; rfl
      | cons e es ih =>
        intro k he
        rw [List.zipIdx_cons,List.flatMap_cons,List.flatMap_cons,List.filter_append,List.map_append,List.map_append,nds_lvs n _ e (he e List.mem_cons_self),ih _ fun x hx=>he x (List.mem_cons_of_mem _ hx)]
    have:=key ds 0 h
    simpa [nds,lvs,isS] using this
theorem tr_tree:∀ (ls:List (List (List Nat) × List (List Nat))) (t:List Nat),Tr ls.length (treeD ls t)
  | [],t=>⟨t,rfl⟩
  | l :: ls,t=>⟨_,rfl,fun e he=>by
    obtain ⟨p,_,rfl⟩:=List.mem_map.mp he
    exact tr_tree ls p⟩
theorem sum_len (k:Nat):∀ ps:List (List Nat),(ps.map fun p=>1+k * p.length).sum=ps.length+k * ps.flatten.length
  | []=>by simp
  | p :: ps=>by
    rw [List.map_cons,List.sum_cons,sum_len k ps,List.length_cons,List.flatten_cons,List.length_append,Nat.mul_add]
    omega
theorem sum_mono {α:Type} {f g:α→Nat}:∀ (ps:List α),(∀ p∈ps,f p≤g p)→(ps.map f).sum≤(ps.map g).sum
  | [],_=>Nat.le_refl _
  | p :: ps,h=>by
    rw [List.map_cons,List.sum_cons,List.map_cons,List.sum_cons]
    exact Nat.add_le_add (h p List.mem_cons_self) (sum_mono ps fun q hq=>h q (List.mem_cons_of_mem _ hq))
theorem cnt_tree:∀ (ls:List (List (List Nat) × List (List Nat))) (t:List Nat),cntN ls.length (treeD ls t)≤1+ls.length * t.length
  | [],t=>by
    show 1≤_
    omega
  | l :: ls,t=>by
    show 1+(((cut l.1 l.2 [] t).map (treeD ls)).map (cntN ls.length)).sum≤_
    rw [List.map_map]
    have h1:=sum_mono (f:=cntN ls.length ∘ treeD ls) (g:=fun p=>1+ls.length * p.length) (cut l.1 l.2 [] t) fun p _=>cnt_tree ls p
    rw [sum_len,cut_flat l.1 l.2 t.length [] t (Nat.le_refl _),List.nil_append] at h1
    have h2:=(cut_le l.1 l.2 t.length [] t (Nat.le_refl _)).2.1 rfl
    rw [List.length_cons,Nat.add_mul]
    omega
theorem lvs_cnt:∀ (n:Nat) (ks:List Int) (d:D),(lvs n ks d).length≤cntN n d
  | 0,ks,d=>by cases d <;> simp [lvs,cntN]
  | n+1,ks,.tup ds=>by
    have key:∀ (es:List D) (k:Nat),(((es.zipIdx k).flatMap fun p=>lvs n (ks++[((p.2:Nat):Int)]) p.1)).length≤(es.map (cntN n)).sum:=by
      intro es
      induction es with
      | nil=>intro k; exact Nat.le_refl _
      | cons e es ih =>
        intro k
        rw [List.zipIdx_cons,List.flatMap_cons,List.length_append,List.map_cons,List.sum_cons]
        exact Nat.add_le_add (lvs_cnt n _ e) (ih _)
    have:=key ds 0
    show _≤1+_
    exact Nat.le_trans this (Nat.le_add_left _ _)
  | _+1,_,.non=>Nat.zero_le _
  | _+1,_,.bl _=>Nat.zero_le _
  | _+1,_,.int _=>Nat.zero_le _
  | _+1,_,.str _=>Nat.zero_le _
end L2
set_option Elab.async false
set_option linter.all false
set_option maxRecDepth 100000
set_option maxHeartbeats 4000000
namespace L2
open PySem PySem.Spec PyProof.Rows
end L2
set_option linter.all false
namespace MN
open PySem
noncomputable abbrev kwD (d:Value):List (Str × Value):=[(Str.ofString "default",d)]
section
variable {prog:Program} {w:World} {A:Around} {R:Result→Shared→Prop} {It:Addr} {fp wr:List Addr} {n:Nat} {Pr:Nat→Value→Prop} {Sx:Nat→Heap→Prop}
end
section
variable {prog:Program} {w:World} {A:Around} {E:Value→Shared→Prop} {s:Shared}
end
end MN
set_option Elab.async false
set_option linter.all false
set_option maxRecDepth 100000
set_option maxHeartbeats 4000000
namespace L2
open PySem PySem.Spec PyProof.Rows
end L2
set_option Elab.async false
set_option linter.all false
set_option maxRecDepth 100000
set_option maxHeartbeats 4000000
namespace L2
open PySem PySem.Spec PyProof.Rows
end L2
set_option Elab.async false
set_option linter.all false
set_option maxRecDepth 100000
set_option maxHeartbeats 4000000
namespace L2
open PySem PySem.Spec PyProof.Rows
noncomputable def rEqDt:R2:=fun x y H Q=>∃ (ds es:List D) (n:Nat),Den H x (.tup ds)∧Den H y (.tup es)∧Shal (n+1) (.tup ds)∧Shal (n+1) (.tup es)∧n≤50∧SimL ds es∧Q (.bl (eqD (.tup ds) (.tup es))) H
theorem op_eqDt {X:Cx} (hu:X.A.units+64 < cLine):OpR X (compareOp .Eq) rEqDt:=by
  intro pins s σ H x y v u Q I rx ry h
  obtain ⟨ds,es,n,hx,hy,hs1,hs2,hn,hm,q⟩:=h
  have ih:=cmpD I (s':=s) (fun b o z=>z) n
  obtain ⟨a,vs,rfl,ha,hda⟩:=den_tup hx
  obtain ⟨b,us,rfl,hb,hdb⟩:=den_tup hy
  cases rx
  cases ry
  obtain ⟨its,r1,p1,_⟩:=I.tuple (SqT.of (K:=X.K) ha)
  obtain ⟨its2,r2,p2,_⟩:=I.tuple (SqT.of (K:=X.K) hb)
  have l1:=hda.len
  have l2:=hdb.len
  have m1:=r1.length
  have m2:=r2.length
  have e0:=allR_eq ds es
  rw [show ds.length=its.toArray.size by simp; omega,show es.length=its2.toArray.size by simp; omega] at e0
  refine SeqAt.eq_tupleAt (e:=fun j=>eqD (ds.getD j .non) (es.getD j .non)) p1 p2 (by omega) (fun j h1 h2=>?_) ?_
  · have hj1:j < vs.length:=by simpa [m1] using h1
    have hj2:j < us.length:=by simpa [m2] using h2
    obtain ⟨d1,g1,b1⟩:=hda.at_ (List.getElem?_eq_getElem hj1)
    obtain ⟨d2,g2,b2⟩:=hdb.at_ (List.getElem?_eq_getElem hj2)
    obtain ⟨w1,hw1,rw1⟩:=r1.get (List.getElem?_eq_getElem hj1)
    obtain ⟨w2,hw2,rw2⟩:=r2.get (List.getElem?_eq_getElem hj2)
    have q1:its.toArray[j]=w1:=by
      have:=(List.getElem?_eq_some_iff.mp hw1).2
      simpa using this
    have q2:its2.toArray[j]=w2:=by
      have:=(List.getElem?_eq_some_iff.mp hw2).2
      simpa using this
    rw [q1,q2]
    rw [List.getD_eq_getElem?_getD,List.getD_eq_getElem?_getD,g1,g2]
    have s1:=(hs1.2 ds rfl).2 d1 (List.mem_of_getElem? g1)
    have s2:=(hs2.2 es rfl).2 d2 (List.mem_of_getElem? g2)
    exact (ih d1 d2 X.A.in1 _ _ _ _ s1 s2 (hm.at_ g1 g2) b1 b2 rw1 rw2 (by first | (simp only [Around.in1]; omega) | omega)).1
  · rw [e0]
    exact ⟨.bl _,H,I,rfl,q⟩
end L2
set_option Elab.async false
set_option linter.all false
set_option maxRecDepth 100000
set_option maxHeartbeats 1000000
namespace SO
open PySem PySem.W PyProof.Rows
noncomputable def gallop':Bool→Keyed→Array Keyed→Nat→Nat→Nat→StateT SortSt Sem (Option Nat):=sortPriv% PySem.Builtin.gallop
noncomputable def beyond' (left:Bool) (key:Keyed) (arr:Array Keyed) (base:Nat) (i:Nat):StateT SortSt Sem (Option Bool):=do
  let x ← elem' arr (base+i)
  if left then lt' x key else return (← lt' key x).map (!·)
noncomputable def search' (left:Bool) (key:Keyed) (arr:Array Keyed) (base n lo hi:Nat):StateT SortSt Sem (Option Nat):=do
  let mut lo:=lo
  let mut hi:=hi
  for _ in [0:n] do
    if lo ≥ hi then break
    let m:=lo+(hi - lo) / 2
    let some more ← beyond' left key arr base m | return none
    if more then lo:=m+1 else hi:=m
  return some hi
theorem gallop'_eq (left:Bool) (key:Keyed) (arr:Array Keyed) (base n hint:Nat):gallop' left key arr base n hint=(do
  let some right ← beyond' left key arr base hint | return none
  if right then
    let mut lastofs:=0
    let mut ofs:=1
    let maxofs:=n - hint
    for _ in [0:n] do
      if ofs ≥ maxofs then break
      let some more ← beyond' left key arr base (hint+ofs) | return none
      if !more then break
      lastofs:=ofs
      ofs:=2 * ofs+1
    search' left key arr base n (hint+lastofs+1) (hint+min ofs maxofs)
  else
    let mut lastofs:=0
    let mut ofs:=1
    let maxofs:=hint+1
    for _ in [0:n] do
      if ofs ≥ maxofs then break
      let some found ← beyond' left key arr base (hint - ofs) | return none
      if found then break
      lastofs:=ofs
      ofs:=2 * ofs+1
    search' left key arr base n (hint+1 - min ofs maxofs) (hint - lastofs)):=rfl
section
variable {O:KeyOrd} {key:Nat→O.α} {N:Nat} {prog:Program} {w:World} {A:Around} {E:Value→Shared→Prop} {s:Shared} {κ:SortKind} {it:Array Keyed} {st:SortSt}
noncomputable def BelowN (N:Nat) (q:Array Nat):Prop:=∀ i,i < q.size→q.getD i 0 < N
theorem getD_lt {q:Array Nat} {i:Nat} (h:i < q.size):q.getD i 0=q[i]:=by simp [Array.getD,h]
theorem map_get {q:Array Nat} {i:Nat} (h:i < q.size):(q.map (kas_item it))[i]?=some (kas_item it (q.getD i 0)):=by
  rw [getD_lt h]; simp [h]
theorem wlt {i j:Nat} {Q:Option Bool→SortSt→Prop} (hc:Cmp key N (kas_cmp prog w A κ it) s) (hi:i < N) (hj:j < N) (hk:kindOf st=κ) (h:Q (some (O.blt (key i) (key j))) st) :
    wpS (model prog w) A E s (lt' (kas_item it i) (kas_item it j)) Q st:=by
  rw [lt'_eq]
  refine wpS_bind (wpS_get ?_)
  rw [hk]
  exact wpS_bind (wpS_lift (wpAny_attempt (wpAny_mono (hc i j _ hi hj ⟨rfl,wpS_pure h⟩) (fun _ _ x=>x) fun _ _ f=>f.elim)))
theorem welem {q:Array Nat} {i:Nat} {Q:Keyed→SortSt→Prop} (h:i < q.size) (hq:Q (kas_item it (q.getD i 0)) st):wpS (model prog w) A E s (elem' (q.map (kas_item it)) i) Q st:=by
  rw [elem'_eq,map_get h]
  exact wpS_pure hq
noncomputable def Bey (key:Nat→O.α) (left:Bool) (k:Nat) (q:Array Nat) (base i:Nat):Bool:=if left then O.blt (key (q.getD (base+i) 0)) (key k) else !O.blt (key k) (key (q.getD (base+i) 0))
theorem wbeyond {left:Bool} {k base i:Nat} {q:Array Nat} {Q:Option Bool→SortSt→Prop} (hc:Cmp key N (kas_cmp prog w A κ it) s) (hq:BelowN N q) (hk:k < N) (hκ:kindOf st=κ) (hi:base+i < q.size) (h:Q (some (Bey key left k q base i)) st) :
    wpS (model prog w) A E s (beyond' left (kas_item it k) (q.map (kas_item it)) base i) Q st:=by
  unfold beyond'
  refine wpS_bind (welem hi ?_)
  cases left with
  | true =>
    rw [if_pos rfl]
    exact wlt hc (hq _ hi) hk hκ h
  | false =>
    rw [if_neg (by simp)]
    exact wpS_bind (wlt hc hk (hq _ hi) hκ (wpS_pure h))
theorem wgallop {left:Bool} {k base n hint:Nat} {q:Array Nat} {Q:Option Nat→SortSt→Prop} (hc:Cmp key N (kas_cmp prog w A κ it) s) (hq:BelowN N q) (hk:k < N) (hκ:kindOf st=κ) (hn:base+n≤q.size) (hh:hint < n)
    (mono:∀ i j,i≤j→j < n→Bey key left k q base j=true→Bey key left k q base i=true)
    (h:∀ r,r≤n→(∀ j,j < r→Bey key left k q base j=true)→(∀ j,r≤j→j < n→Bey key left k q base j=false)→Q (some r) st) :
    wpS (model prog w) A E s (gallop' left (kas_item it k) (q.map (kas_item it)) base n hint) Q st:=by
  rw [gallop'_eq]
  generalize hβ:Bey key left k q base=β at mono h
  have wb:∀ {i:Nat} {Q:Option Bool→SortSt→Prop},i < n→Q (some (β i)) st→wpS (model prog w) A E s (beyond' left (kas_item it k) (q.map (kas_item it)) base i) Q st:=fun {i Q} hi h=>wbeyond hc hq hk hκ (by omega) (by rw [hβ]; exact h)
  have no:∀ {i j},i≤j→j < n→β i=false→β j=false:=fun {i j} hij hj hi=>by
    cases e:β j with
    | false=>rfl
    | true=>rw [mono i j hij hj e] at hi; cases hi
  have fin:∀ lo hi,lo≤hi→hi≤n→(∀ j,j < lo→β j=true)→(∀ j,hi≤j→j < n→β j=false) →
      wpS (model prog w) A E s (search' left (kas_item it k) (q.map (kas_item it)) base n lo hi) Q st:=by
    intro lo hi hlh hhn h1 h2
    unfold search'
    refine wpS_bind (wpS_mono (wpS_forRange (I:=fun (x:Nat) (c:Option (Option Nat) × Nat × Nat) (st':SortSt)=>st'=st∧c.1=none∧c.2.1≤c.2.2∧c.2.2≤n∧c.2.2 - c.2.1+x≤n∧(∀ j,j < c.2.1→β j=true)∧∀ j,c.2.2≤j→j < n→β j=false)
      (Q:=fun (c:Option (Option Nat) × Nat × Nat) (st':SortSt)=>st'=st∧c.1=none∧c.2.1=c.2.2∧c.2.2≤n∧(∀ j,j < c.2.1→β j=true)∧∀ j,c.2.2≤j→j < n→β j=false) ?step ?fin ⟨rfl,rfl,hlh,hhn,by dsimp only; omega,h1,h2⟩) ?post)
    case step =>
      rintro x ⟨c0,l,r⟩ st' _ hx ⟨rfl,e0,i1,i2,i3,i4,i5⟩
      dsimp only at *
      subst e0
      by_cases hlr:l ≥ r
      · rw [if_pos hlr]
        exact wpS_pure ⟨rfl,rfl,by dsimp only; omega,i2,i4,i5⟩
      · rw [if_neg hlr]
        refine wpS_bind (wb (by omega) ?_)
        dsimp only
        cases hb:β (l+(r - l) / 2) with
        | true =>
          rw [if_pos rfl]
          exact wpS_pure ⟨rfl,rfl,by dsimp only; omega,i2,by dsimp only; omega,(fun j hj=>mono j _ (by dsimp only at hj; omega) (by omega) hb),i5⟩
        | false =>
          rw [if_neg (by simp)]
          exact wpS_pure ⟨rfl,rfl,by dsimp only; omega,by dsimp only; omega,by dsimp only; omega,i4,fun j hj hjn=>no hj hjn hb⟩
    case fin =>
      rintro ⟨c0,l,r⟩ st' ⟨rfl,e0,i1,i2,i3,i4,i5⟩
      dsimp only at *
      exact ⟨rfl,e0,by omega,i2,i4,i5⟩
    case post =>
      rintro ⟨c0,l,r⟩ st' ⟨rfl,e0,e1,i2,i4,i5⟩
      dsimp only at *
      subst e0 e1
      exact wpS_pure (h l i2 i4 i5)
  refine wpS_bind (wb hh ?_)
  dsimp only
  cases hr:β hint with
  | true =>
    rw [if_pos rfl]
    refine wpS_bind (wpS_mono (wpS_forRange (I:=fun (x:Nat) (c:Option (Option Nat) × Nat × Nat) (st':SortSt)=>st'=st∧c.1=none∧c.2.1 < c.2.2∧x < c.2.2∧hint+c.2.1 < n∧β (hint+c.2.1)=true)
      (Q:=fun (c:Option (Option Nat) × Nat × Nat) (st':SortSt)=>st'=st∧c.1=none∧c.2.1 < c.2.2∧hint+c.2.1 < n∧β (hint+c.2.1)=true∧(n - hint≤c.2.2∨(hint+c.2.2 < n∧β (hint+c.2.2)=false))) ?step ?fin ⟨rfl,rfl,by dsimp only; omega,by dsimp only; omega,by dsimp only; omega,hr⟩) ?post)
    case step =>
      rintro x ⟨c0,l,o⟩ st' _ hx ⟨rfl,e0,i1,i2,i3,i4⟩
      dsimp only at *
      subst e0
      by_cases hlr:o ≥ n - hint
      · rw [if_pos hlr]
        exact wpS_pure ⟨rfl,rfl,i1,i3,i4,.inl hlr⟩
      · rw [if_neg hlr]
        refine wpS_bind (wb (by omega) ?_)
        dsimp only
        cases hb:β (hint+o) with
        | true =>
          rw [if_neg (by simp)]
          exact wpS_pure ⟨rfl,rfl,by dsimp only; omega,by dsimp only; omega,by dsimp only; omega,hb⟩
        | false =>
          rw [if_pos (by rfl)]
          exact wpS_pure ⟨rfl,rfl,i1,i3,i4,.inr ⟨by dsimp only; omega,hb⟩⟩
    case fin =>
      rintro ⟨c0,l,o⟩ st' ⟨rfl,e0,i1,i2,i3,i4⟩
      dsimp only at *
      exact ⟨rfl,e0,i1,i3,i4,.inl (by omega)⟩
    case post =>
      rintro ⟨c0,l,o⟩ st' ⟨rfl,e0,i1,i3,i4,i5⟩
      dsimp only at *
      subst e0
      dsimp only
      refine fin (hint+l+1) (hint+min o (n - hint)) (by omega) (by omega) (fun j hj=>mono j _ (by omega) i3 i4) fun j hj hjn=>?_
      rcases i5 with i5 | ⟨i5,i6⟩
      · omega
      · exact no (by omega) hjn i6
  | false =>
    rw [if_neg (by simp)]
    refine wpS_bind (wpS_mono (wpS_forRange (I:=fun (x:Nat) (c:Option (Option Nat) × Nat × Nat) (st':SortSt)=>st'=st∧c.1=none∧c.2.1 < c.2.2∧x < c.2.2∧c.2.1≤hint∧β (hint - c.2.1)=false)
      (Q:=fun (c:Option (Option Nat) × Nat × Nat) (st':SortSt)=>st'=st∧c.1=none∧c.2.1 < c.2.2∧c.2.1≤hint∧β (hint - c.2.1)=false∧(hint+1≤c.2.2∨(c.2.2≤hint∧β (hint - c.2.2)=true))) ?step ?fin ⟨rfl,rfl,by dsimp only; omega,by dsimp only; omega,by dsimp only; omega,hr⟩) ?post)
    case step =>
      rintro x ⟨c0,l,o⟩ st' _ hx ⟨rfl,e0,i1,i2,i3,i4⟩
      dsimp only at *
      subst e0
      by_cases hlr:o ≥ hint+1
      · rw [if_pos hlr]
        exact wpS_pure ⟨rfl,rfl,i1,i3,i4,.inl hlr⟩
      · rw [if_neg hlr]
        refine wpS_bind (wb (by omega) ?_)
        dsimp only
        cases hb:β (hint - o) with
        | true =>
          rw [if_pos (by rfl)]
          exact wpS_pure ⟨rfl,rfl,i1,i3,i4,.inr ⟨by dsimp only; omega,hb⟩⟩
        | false =>
          rw [if_neg (by simp)]
          exact wpS_pure ⟨rfl,rfl,by dsimp only; omega,by dsimp only; omega,by dsimp only; omega,hb⟩
    case fin =>
      rintro ⟨c0,l,o⟩ st' ⟨rfl,e0,i1,i2,i3,i4⟩
      dsimp only at *
      exact ⟨rfl,e0,i1,i3,i4,.inl (by omega)⟩
    case post =>
      rintro ⟨c0,l,o⟩ st' ⟨rfl,e0,i1,i3,i4,i5⟩
      dsimp only at *
      subst e0
      dsimp only
      refine fin (hint+1 - min o (hint+1)) (hint - l) (by omega) (by omega) (fun j hj=>?_) fun j hj hjn=>no hj hjn i4
      rcases i5 with i5 | ⟨i5,i6⟩
      · omega
      · exact mono j _ (by omega) (by omega) i6
end
end SO
set_option Elab.async false
set_option linter.all false
set_option maxRecDepth 100000
set_option maxHeartbeats 1000000
namespace SO
open PySem PySem.W PyProof.Rows
noncomputable def setMinGallop':Nat→StateT SortSt Sem Unit:=sortPriv% PySem.Builtin.setMinGallop
theorem setMinGallop'_eq (g:Nat):setMinGallop' g=modify fun st=>SortSt.mk' (kindOf st) (arrOf st) (pendingOf st) g (failedOf st):=rfl
noncomputable abbrev arr (it:Array Keyed) (l:List Nat):Array Keyed:=l.toArray.map (kas_item it)
section
variable {it:Array Keyed}
theorem arr_size (l:List Nat):(arr it l).size=l.length:=by simp
theorem arr_push (l:List Nat) (x:Nat):(arr it l).push (kas_item it x)=arr it (l++[x]):=by simp [arr]
theorem arr_app (l m:List Nat):arr it l++arr it m=arr it (l++m):=by simp [arr]
theorem arr_drop (l:List Nat) (i:Nat):(arr it l).extract i (arr it l).size=arr it (l.drop i):=by
  apply Array.ext_getElem?
  intro k
  simp [arr,Array.getElem?_extract]
  by_cases h:k < l.length - i
  · simp [h,show i+k < l.length by omega]
  · simp [h,show l.length≤i+k by omega]
theorem arr_part (l:List Nat) (i k:Nat) (h:i+k≤l.length):(arr it l).extract i (i+k)=arr it ((l.drop i).take k):=by
  apply Array.ext_getElem?
  intro j
  simp [arr,Array.getElem?_extract,List.getElem?_take]
theorem arr_take (l:List Nat) (k:Nat):(arr it l).extract 0 k=arr it (l.take k):=by
  apply Array.ext_getElem?
  intro j
  simp [arr,Array.getElem?_extract,List.getElem?_take]
theorem arr_rev (l:List Nat):(arr it l).reverse=arr it l.reverse:=by simp [arr]
theorem toA_getD (l:List Nat) (i:Nat):l.toArray.getD i 0=l.getD i 0:=by simp [Array.getD_eq_getD_getElem?,List.getD_eq_getElem?_getD]
theorem getD_of {l:List Nat} {i:Nat} (h:i < l.length):l.getD i 0=l[i]:=by simp [List.getD_eq_getElem?_getD,h]
end
section
variable {O:KeyOrd} {key:Nat→O.α} {N:Nat} {prog:Program} {w:World} {A:Around} {E:Value→Shared→Prop} {s:Shared} {κ:SortKind} {it:Array Keyed} {st:SortSt}
noncomputable abbrev Up (key:Nat→O.α) (l:List Nat):Prop:=l.Pairwise fun x y=>O.kle (key x) (key y)
structure Mg (key:Nat→O.α) (As Bs o ra rb:List Nat):Prop where
  perm:(o++(ra++rb)).Perm (As++Bs)
  so:Up key o
  le:∀ x∈o,∀ y∈ra++rb,O.kle (key x) (key y)
  sa:Up key ra
  sb:Up key rb
variable {As Bs o ra rb xs ra' rb':List Nat}
theorem Mg.takeAs (m:Mg key As Bs o ra rb) (e:ra=xs++ra') (h:∀ x∈xs,∀ y∈rb,O.kle (key x) (key y)):Mg key As Bs (o++xs) ra' rb:=by
  subst e
  have sa:=List.pairwise_append.mp m.sa
  refine ⟨(by rw [List.append_assoc,← List.append_assoc xs]; exact m.perm),List.pairwise_append.mpr ⟨m.so,sa.1,fun x hx y hy=>m.le x hx y (by simp [hy])⟩,fun x hx y hy=>?_,sa.2.1,m.sb⟩
  rcases List.mem_append.mp hx with hx | hx
  · exact m.le x hx y (by rcases List.mem_append.mp hy with z | z <;> simp [z])
  · rcases List.mem_append.mp hy with z | z
    · exact sa.2.2 x hx y z
    · exact h x hx y z
theorem Mg.takeBs (m:Mg key As Bs o ra rb) (e:rb=xs++rb') (h:∀ x∈xs,∀ y∈ra,O.kle (key x) (key y)):Mg key As Bs (o++xs) ra rb':=by
  subst e
  have sb:=List.pairwise_append.mp m.sb
  refine ⟨List.Perm.trans ?_ m.perm,List.pairwise_append.mpr ⟨m.so,sb.1,fun x hx y hy=>m.le x hx y (by simp [hy])⟩,fun x hx y hy=>?_,m.sa,sb.2.1⟩
  · rw [List.append_assoc]
    refine List.Perm.append_left o ?_
    rw [← List.append_assoc,← List.append_assoc]
    exact (List.perm_append_comm).append_right rb'
  · rcases List.mem_append.mp hx with hx | hx
    · exact m.le x hx y (by rcases List.mem_append.mp hy with z | z <;> simp [z])
    · rcases List.mem_append.mp hy with z | z
      · exact h x hx y z
      · exact sb.2.2 x hx y z
noncomputable def Merged (key:Nat→O.α) (it:Array Keyed) (As Bs:List Nat) (r:Array Keyed):Prop:=∃ l:List Nat,r=arr it l∧l.Perm (As++Bs)∧Up key l
theorem Mg.doneA (m:Mg key As Bs o ra []):Merged key it As Bs (arr it o++arr it ra++arr it []):=by
  refine ⟨o++ra,by rw [arr_app,arr_app,List.append_nil],by simpa using m.perm,List.pairwise_append.mpr ⟨m.so,m.sa,fun x hx y hy=>m.le x hx y (by simp [hy])⟩⟩
theorem Mg.doneB (m:Mg key As Bs o [] rb):Merged key it As Bs (arr it o++arr it []++arr it rb):=by
  refine ⟨o++rb,by rw [arr_app,arr_app,List.append_nil],by simpa using m.perm,List.pairwise_append.mpr ⟨m.so,m.sb,fun x hx y hy=>m.le x hx y (by simp [hy])⟩⟩
theorem Mg.lastA (m:Mg key As Bs o ra rb) (h:∀ x∈ra,∀ y∈rb,O.kle (key y) (key x)):Merged key it As Bs (arr it o++arr it rb++arr it ra):=by
  refine ⟨o++rb++ra,by rw [arr_app,arr_app],List.Perm.trans ?_ m.perm,List.pairwise_append.mpr ⟨List.pairwise_append.mpr ⟨m.so,m.sb,fun x hx y hy=>m.le x hx y (by simp [hy])⟩,m.sa,fun x hx y hy=>?_⟩⟩
  · rw [List.append_assoc]; exact List.perm_append_comm.append_left o
  · rcases List.mem_append.mp hx with z | z
    · exact m.le x z y (by simp [hy])
    · exact h y hy x z
theorem drop_cons {l:List Nat} {i:Nat} (h:i < l.length):l.drop i=[l.getD i 0]++l.drop (i+1):=by
  rw [getD_of h,List.drop_eq_getElem_cons h]; rfl
theorem drop_split (l:List Nat) (i k:Nat):l.drop i=(l.drop i).take k++l.drop (i+k):=by
  rw [← List.drop_drop]; exact (List.take_append_drop k (l.drop i)).symm
theorem up_drop {l:List Nat} (h:Up key l) {i:Nat} (hi:i < l.length):∀ x∈l.drop i,O.kle (key (l.getD i 0)) (key x):=fun x hx=>by
  rw [drop_cons hi] at hx
  rcases List.mem_append.mp hx with z | z
  · rw [List.mem_singleton.mp z]; exact KeyOrd.kle_refl _
  · have:=h.sublist (List.drop_sublist i l)
    rw [drop_cons hi] at this
    exact (List.pairwise_append.mp this).2.2 _ (by simp) x z
theorem mem_part {l:List Nat} {i k x:Nat} (h:x∈(l.drop i).take k):∃ j,j < k∧i+j < l.length∧x=l.getD (i+j) 0:=by
  obtain ⟨j,hj,e⟩:=List.getElem_of_mem h
  simp at hj
  refine ⟨j,by omega,by omega,?_⟩
  rw [getD_of (by omega)]
  simpa using e.symm
theorem up_le {l:List Nat} (h:Up key l) {i j:Nat} (hij:i≤j) (hj:j < l.length):O.kle (key (l.getD i 0)) (key (l.getD j 0)):=by
  rcases Nat.lt_or_ge i j with z | z
  · rw [getD_of (by omega),getD_of hj]
    exact List.pairwise_iff_getElem.mp h i j (by omega) hj z
  · have:i=j:=by omega
    subst this; exact KeyOrd.kle_refl _
noncomputable def Stay (st st':SortSt):Prop:=kindOf st'=kindOf st∧arrOf st'=arrOf st∧pendingOf st'=pendingOf st∧failedOf st'=failedOf st
theorem Stay.refl (st:SortSt):Stay st st:=⟨rfl,rfl,rfl,rfl⟩
theorem Stay.trans {a b c:SortSt} (h:Stay a b) (g:Stay b c):Stay a c:=⟨g.1.trans h.1,g.2.1.trans h.2.1,g.2.2.1.trans h.2.2.1,g.2.2.2.trans h.2.2.2⟩
theorem wsetMin {g:Nat} {Q:Unit→SortSt→Prop} (h:∀ st',Stay st st'→Q () st'):wpS (model prog w) A E s (setMinGallop' g) Q st:=by
  rw [setMinGallop'_eq]
  exact wpS_modify (h _ ⟨rfl,rfl,rfl,rfl⟩)
theorem belowN {l:List Nat} (h:∀ x∈l,x < N):BelowN N l.toArray:=fun i hi=>by
  rw [toA_getD,getD_of (by simpa using hi)]
  exact h _ (List.getElem_mem _)
theorem welemL {l:List Nat} {i:Nat} {Q:Keyed→SortSt→Prop} (h:i < l.length) (hq:Q (kas_item it (l.getD i 0)) st):wpS (model prog w) A E s (elem' (arr it l) i) Q st:=by
  refine welem (q:=l.toArray) (by simpa using h) ?_
  rw [toA_getD]; exact hq
theorem wgal {left:Bool} {k base n hint:Nat} {l:List Nat} {Q:Option Nat→SortSt→Prop} (hc:Cmp key N (kas_cmp prog w A κ it) s) (hl:∀ x∈l,x < N) (hk:k < N) (hκ:kindOf st=κ) (hn:base+n≤l.length) (hh:hint < n) (hup:Up key l)
    (h:∀ r,r≤n→(∀ j,j < r→if left then O.klt (key (l.getD (base+j) 0)) (key k) else O.kle (key (l.getD (base+j) 0)) (key k))→(∀ j,r≤j→j < n→if left then O.kle (key k) (key (l.getD (base+j) 0)) else O.klt (key k) (key (l.getD (base+j) 0)))→Q (some r) st) :
    wpS (model prog w) A E s (gallop' left (kas_item it k) (arr it l) base n hint) Q st:=by
  have hsz:l.toArray.size=l.length:=by simp
  refine wgallop hc (belowN hl) hk hκ (by rw [hsz]; exact hn) hh (fun i j hij hj hb=>?_) fun r hr h1 h2=>h r hr (fun j hj=>?_) fun j hj hjn=>?_
  · have:=up_le hup (i:=base+i) (j:=base+j) (by omega) (by omega)
    unfold Bey at hb ⊢
    rw [toA_getD] at hb ⊢
    cases left with
    | true =>
      rw [if_pos rfl] at hb ⊢
      exact KeyOrd.klt_of_kle_of_klt this hb
    | false =>
      rw [if_neg (by simp)] at hb ⊢
      have hb':O.kle (key (l.getD (base+j) 0)) (key k):=by unfold KeyOrd.kle; simpa using hb
      have:=KeyOrd.kle_trans this hb'
      unfold KeyOrd.kle at this
      rw [this]
      rfl
  · have hb:=h1 j hj
    unfold Bey at hb
    rw [toA_getD] at hb
    cases left with
    | true=>rw [if_pos rfl] at hb ⊢; exact hb
    | false=>rw [if_neg (by simp)] at hb ⊢; unfold KeyOrd.kle; simpa using hb
  · have hb:=h2 j hj hjn
    unfold Bey at hb
    rw [toA_getD] at hb
    cases left with
    | true=>rw [if_pos rfl] at hb ⊢; exact hb
    | false=>rw [if_neg (by simp)] at hb ⊢; unfold KeyOrd.klt; simpa using hb
end
end SO
set_option Elab.async false
set_option linter.all false
set_option maxRecDepth 100000
set_option maxHeartbeats 2000000
namespace SO
open PySem PySem.W PyProof.Rows
noncomputable def mergeLo':Array Keyed→Array Keyed→StateT SortSt Sem (Array Keyed):=sortPriv% PySem.Builtin.mergeLo
theorem mergeLo'_eq (a b:Array Keyed):mergeLo' a b=(do
  rule "list.sort.merge-lo"
  let total:=a.size+b.size
  let done (out:Array Keyed) (ia ib:Nat):=out++a.extract ia a.size++b.extract ib b.size
  let lastOfA (out:Array Keyed) (ia ib:Nat):=out++b.extract ib b.size++a.extract ia a.size
  let mut out:Array Keyed:=#[← elem' b 0]
  let mut ia:=0
  let mut ib:=1
  if ib == b.size then return done out ia ib
  if ia+1 == a.size then return lastOfA out ia ib
  let mut minGallop:=gallopOf (← get)
  for _ in [0:total] do
    let mut acount:=0
    let mut bcount:=0
    for _ in [0:total] do
      let some bWins ← lt' (← elem' b ib) (← elem' a ia) | return done out ia ib
      if bWins then
        out:=out.push (← elem' b ib); ib:=ib+1; bcount:=bcount+1; acount:=0
        if ib == b.size then return done out ia ib
        if bcount ≥ minGallop then break
      else
        out:=out.push (← elem' a ia); ia:=ia+1; acount:=acount+1; bcount:=0
        if ia+1 == a.size then return lastOfA out ia ib
        if acount ≥ minGallop then break
    rule "list.sort.gallop"
    minGallop:=minGallop+1
    for _ in [0:total] do
      if minGallop > 1 then minGallop:=minGallop - 1
      setMinGallop' minGallop
      let some k ← gallop' false (← elem' b ib) a ia (a.size - ia) 0 | return done out ia ib
      acount:=k
      if k > 0 then
        out:=out++a.extract ia (ia+k); ia:=ia+k
        if ia+1 == a.size then return lastOfA out ia ib
        if ia == a.size then return done out ia ib
      out:=out.push (← elem' b ib); ib:=ib+1
      if ib == b.size then return done out ia ib
      let some k ← gallop' true (← elem' a ia) b ib (b.size - ib) 0 | return done out ia ib
      bcount:=k
      if k > 0 then
        out:=out++b.extract ib (ib+k); ib:=ib+k
        if ib == b.size then return done out ia ib
      out:=out.push (← elem' a ia); ia:=ia+1
      if ia+1 == a.size then return lastOfA out ia ib
      if acount < 7 && bcount < 7 then break
    minGallop:=minGallop+1
    setMinGallop' minGallop
  unsupported "internal:list.sort.merge-bound"):=rfl
section
variable {O:KeyOrd} {key:Nat→O.α} {N:Nat} {prog:Program} {w:World} {A:Around} {E:Value→Shared→Prop} {s:Shared} {κ:SortKind} {it:Array Keyed} {st:SortSt} {As Bs o:List Nat} {ia ib:Nat}
theorem lo_stepB (m:Mg key As Bs o (As.drop ia) (Bs.drop ib)) (hb:ib < Bs.length) (sA:Up key As) (hle:∀ x∈As.drop ia,O.kle (key (Bs.getD ib 0)) (key x)):Mg key As Bs (o++[Bs.getD ib 0]) (As.drop ia) (Bs.drop (ib+1)) :=
  m.takeBs (drop_cons hb) fun x hx y hy=>by rw [List.mem_singleton.mp hx]; exact hle y hy
theorem lo_stepA (m:Mg key As Bs o (As.drop ia) (Bs.drop ib)) (ha:ia < As.length) (hle:∀ y∈Bs.drop ib,O.kle (key (As.getD ia 0)) (key y)):Mg key As Bs (o++[As.getD ia 0]) (As.drop (ia+1)) (Bs.drop ib) :=
  m.takeAs (drop_cons ha) fun x hx y hy=>by rw [List.mem_singleton.mp hx]; exact hle y hy
noncomputable abbrev LoSt:=Option (Array Keyed) × Array Keyed × Nat × Nat × Nat × Nat
noncomputable def JLo (key:Nat→O.α) (it:Array Keyed) (As Bs:List Nat) (out:Array Keyed) (ia ib:Nat):Prop:=∃ o,out=arr it o∧Mg key As Bs o (As.drop ia) (Bs.drop ib)∧ia+1 < As.length∧ib < Bs.length
theorem wmergeLo {Q:Array Keyed→SortSt→Prop} (hc:Cmp key N (kas_cmp prog w A κ it) s) (hA:∀ x∈As,x < N) (hB:∀ x∈Bs,x < N) (hκ:kindOf st=κ) (sA:Up key As) (sB:Up key Bs) (nA:0 < As.length) (nB:0 < Bs.length)
    (first:O.klt (key (Bs.getD 0 0)) (key (As.getD 0 0))) (last:∀ y∈Bs,O.klt (key y) (key (As.getD (As.length - 1) 0))) (h:∀ r st',Stay st st'→Merged key it As Bs r→Q r st') :
    wpS (model prog w) A E s (mergeLo' (arr it As) (arr it Bs)) Q st:=by
  have gA:∀ i,i < As.length→As.getD i 0 < N:=fun i hi=>by rw [getD_of hi]; exact hA _ (List.getElem_mem _)
  have gB:∀ i,i < Bs.length→Bs.getD i 0 < N:=fun i hi=>by rw [getD_of hi]; exact hB _ (List.getElem_mem _)
  have retB:∀ o ia ib,Mg key As Bs o (As.drop ia) (Bs.drop ib)→ib=Bs.length→Merged key it As Bs (arr it o++(arr it As).extract ia As.length++(arr it Bs).extract ib Bs.length):=fun o ia ib m e=>by
    have e1:=arr_drop (it:=it) As ia
    have e2:=arr_drop (it:=it) Bs ib
    rw [arr_size] at e1 e2
    rw [e1,e2]
    rw [e,List.drop_length] at m ⊢
    exact m.doneA
  have retA:∀ o ia ib,Mg key As Bs o (As.drop ia) (Bs.drop ib)→ia=As.length→Merged key it As Bs (arr it o++(arr it As).extract ia As.length++(arr it Bs).extract ib Bs.length):=fun o ia ib m e=>by
    have e1:=arr_drop (it:=it) As ia
    have e2:=arr_drop (it:=it) Bs ib
    rw [arr_size] at e1 e2
    rw [e1,e2]
    rw [e,List.drop_length] at m ⊢
    exact m.doneB
  have retL:∀ o ia ib,Mg key As Bs o (As.drop ia) (Bs.drop ib)→ia+1=As.length→Merged key it As Bs (arr it o++(arr it Bs).extract ib Bs.length++(arr it As).extract ia As.length):=fun o ia ib m e=>by
    have e1:=arr_drop (it:=it) As ia
    have e2:=arr_drop (it:=it) Bs ib
    rw [arr_size] at e1 e2
    rw [e1,e2]
    refine m.lastA fun x hx y hy=>?_
    rw [drop_cons (by omega),show ia+1=As.length by omega,List.drop_length,List.append_nil] at hx
    rw [List.mem_singleton.mp hx,show ia=As.length - 1 by omega]
    exact KeyOrd.kle_of_klt (last y (List.mem_of_mem_drop hy))
  rw [mergeLo'_eq]
  refine wpS_bind (wpS_lift (wpAny_rule ⟨rfl,?_⟩))
  dsimp only
  simp only [arr_size]
  refine wpS_bind (welemL nB ?_)
  have m0:Mg key As Bs [Bs.getD 0 0] (As.drop 0) (Bs.drop 1):=by
    refine lo_stepB (o:=[]) (ia:=0) (ib:=0) ⟨by simp,List.Pairwise.nil,(fun x hx=>by cases hx),sA,sB⟩ nB sA fun x hx=>?_
    exact KeyOrd.kle_trans (KeyOrd.kle_of_klt first) (up_drop sA nA x hx)
  have e0:(#[kas_item it (Bs.getD 0 0)]:Array Keyed)=arr it [Bs.getD 0 0]:=by simp [arr]
  rw [e0]
  by_cases h1:(1 == Bs.length)=true
  · rw [if_pos h1]
    exact wpS_pure (h _ _ (Stay.refl _) (retB _ _ _ m0 (by simpa using h1)))
  rw [if_neg h1]
  by_cases h2:(0+1 == As.length)=true
  · rw [if_pos h2]
    exact wpS_pure (h _ _ (Stay.refl _) (retL _ _ _ m0 (by simpa using h2)))
  rw [if_neg h2]
  have h1':1 < Bs.length:=by simp at h1; omega
  have h2':0+1 < As.length:=by simp at h2; omega
  refine wpS_bind (wpS_get ?_)
  refine wpS_bind (wpS_mono (wpS_forRange
    (I:=fun (x:Nat) (c:Option (Array Keyed) × Array Keyed × Nat × Nat × Nat) (st':SortSt)=>Stay st st'∧c.1=none∧JLo key it As Bs c.2.1 c.2.2.1 c.2.2.2.1∧x+1≤c.2.2.1+c.2.2.2.1)
    (Q:=fun (c:Option (Array Keyed) × Array Keyed × Nat × Nat × Nat) (st':SortSt)=>Stay st st'∧∃ r,c.1=some r∧Merged key it As Bs r) ?step ?fin ⟨Stay.refl _,rfl,⟨_,rfl,m0,h2',h1'⟩,by simp⟩) ?post)
  case fin =>
    rintro ⟨c0,out,ia,ib,mg⟩ st' ⟨hs,e0,⟨o,_,_,b1,b2⟩,hp⟩
    dsimp only at *
    omega
  case post =>
    rintro ⟨c0,out,ia,ib,mg⟩ st' ⟨hs,r,e0,hm⟩
    dsimp only at *
    subst e0
    exact wpS_pure (h _ _ hs hm)
  case step =>
    rintro x ⟨c0,out,ia,ib,mg⟩ st1 _ hx ⟨hs1,e0,j0,hp⟩
    dsimp only at *
    subst e0
    refine wpS_bind (wpS_mono (wpS_forRange
      (I:=fun (y:Nat) (c:LoSt) (st':SortSt)=>st'=st1∧c.1=none∧JLo key it As Bs c.2.1 c.2.2.1 c.2.2.2.1∧ia+ib+y≤c.2.2.1+c.2.2.2.1)
      (Q:=fun (c:LoSt) (st':SortSt)=>st'=st1∧((∃ r,c.1=some r∧Merged key it As Bs r)∨(c.1=none∧JLo key it As Bs c.2.1 c.2.2.1 c.2.2.2.1∧ia+ib+1≤c.2.2.1+c.2.2.2.1))) ?step1 ?fin1 ⟨rfl,rfl,j0,by simp⟩) ?post1)
    case fin1 =>
      rintro ⟨c0,out',ia',ib',ac,bc⟩ st' ⟨hs,e0,j,hp'⟩
      dsimp only at *
      exact ⟨hs,.inr ⟨e0,j,by omega⟩⟩
    case step1 =>
      rintro y ⟨c0,out',ia',ib',ac,bc⟩ st' _ hy ⟨rfl,e0,⟨o,rfl,m,b1,b2⟩,hp'⟩
      dsimp only at *
      subst e0
      refine wpS_bind (welemL b2 (wpS_bind (welemL (by omega) ?_)))
      refine wpS_bind (wlt hc (gB _ b2) (gA _ (by omega)) (hs1.1.trans hκ) ?_)
      dsimp only
      cases hb:O.blt (key (Bs.getD ib' 0)) (key (As.getD ia' 0)) with
      | true =>
        rw [if_pos rfl]
        refine wpS_bind (welemL b2 ?_)
        rw [arr_push]
        have m1:=lo_stepB m b2 sA fun x hx=>KeyOrd.kle_trans (KeyOrd.kle_of_klt hb) (up_drop sA (by omega) x hx)
        by_cases h3:(ib' + 1 == Bs.length)=true
        · rw [if_pos h3]
          exact wpS_pure ⟨rfl,.inl ⟨_,rfl,retB _ _ _ m1 (by simpa using h3)⟩⟩
        rw [if_neg h3]
        have h3':ib' + 1 < Bs.length:=by simp at h3; omega
        by_cases h4:bc+1 ≥ mg
        · rw [if_pos h4]
          exact wpS_pure ⟨rfl,.inr ⟨rfl,⟨_,rfl,m1,b1,h3'⟩,by dsimp only; omega⟩⟩
        · rw [if_neg h4]
          exact wpS_pure ⟨rfl,rfl,⟨_,rfl,m1,b1,h3'⟩,by dsimp only; omega⟩
      | false =>
        rw [if_neg (by simp)]
        refine wpS_bind (welemL (by omega) ?_)
        rw [arr_push]
        have m1:=lo_stepA m (by omega) fun y hy=>KeyOrd.kle_trans (show O.kle _ _ from hb) (up_drop sB b2 y hy)
        by_cases h3:(ia' + 1+1 == As.length)=true
        · rw [if_pos h3]
          exact wpS_pure ⟨rfl,.inl ⟨_,rfl,retL _ _ _ m1 (by simpa using h3)⟩⟩
        rw [if_neg h3]
        have h3':ia' + 1+1 < As.length:=by simp at h3; omega
        by_cases h4:ac+1 ≥ mg
        · rw [if_pos h4]
          exact wpS_pure ⟨rfl,.inr ⟨rfl,⟨_,rfl,m1,h3',b2⟩,by dsimp only; omega⟩⟩
        · rw [if_neg h4]
          exact wpS_pure ⟨rfl,rfl,⟨_,rfl,m1,h3',b2⟩,by dsimp only; omega⟩
    case post1 =>
      rintro ⟨c0,out',ia',ib',ac,bc⟩ st' ⟨rfl,⟨r,e0,hm⟩ | ⟨e0,j,hp1⟩⟩
      · dsimp only at *
        subst e0
        exact wpS_pure ⟨hs1,r,rfl,hm⟩
      dsimp only at *
      subst e0
      dsimp only
      refine wpS_bind (wpS_lift (wpAny_rule ⟨rfl,?_⟩))
      refine wpS_bind (wpS_mono (wpS_forRange
        (I:=fun (y:Nat) (c:Option (Array Keyed) × Array Keyed × Nat × Nat × Nat × Nat × Nat) (st2:SortSt)=>Stay st' st2∧c.1=none∧JLo key it As Bs c.2.1 c.2.2.1 c.2.2.2.1∧ia' + ib'≤c.2.2.1+c.2.2.2.1)
        (Q:=fun (c:Option (Array Keyed) × Array Keyed × Nat × Nat × Nat × Nat × Nat) (st2:SortSt)=>Stay st' st2∧((∃ r,c.1=some r∧Merged key it As Bs r)∨(c.1=none∧JLo key it As Bs c.2.1 c.2.2.1 c.2.2.2.1∧ia' + ib'≤c.2.2.1+c.2.2.2.1))) ?step2 ?fin2 ⟨Stay.refl _,rfl,j,Nat.le_refl _⟩) ?post2)
      case fin2 =>
        rintro ⟨c0,out2,ia2,ib2,mg2,ac2,bc2⟩ st2 ⟨hs,e0,j,hp'⟩
        dsimp only at *
        exact ⟨hs,.inr ⟨e0,j,hp'⟩⟩
      case post2 =>
        rintro ⟨c0,out2,ia2,ib2,mg2,ac2,bc2⟩ st2 ⟨hs,⟨r,e0,hm⟩ | ⟨e0,j,hp2⟩⟩
        · dsimp only at *
          subst e0
          exact wpS_pure ⟨hs1.trans hs,r,rfl,hm⟩
        · dsimp only at *
          subst e0
          dsimp only
          refine wpS_bind (wsetMin fun st3 hs3=>wpS_pure ⟨(hs1.trans hs).trans hs3,rfl,j,by dsimp only; omega⟩)
      case step2 =>
        rintro y ⟨c0,out2,ia2,ib2,mg2,ac2,bc2⟩ st2 _ hy ⟨hs2,e0,⟨o,rfl,m,b1,b2⟩,hp2⟩
        dsimp only at *
        subst e0
        by_cases hmg:mg2 > 1
        all_goals first | rw [if_pos hmg] | rw [if_neg hmg]
        all_goals
          refine wpS_bind (wsetMin fun st3 hs3=>?_)
          have hS:=hs2.trans hs3
          have hκ3:kindOf st3=κ:=(hs1.trans hS).1.trans hκ
          refine wpS_bind (welemL b2 (wpS_bind (wgal hc hA (gB _ b2) hκ3 (by omega) (by omega) sA fun k p1 p2 p3=>?_)))
          dsimp only
          by_cases hk0:k > 0
          · rw [if_pos hk0]
            have ex:=arr_part (it:=it) As ia2 k (by omega)
            rw [ex,arr_app]
            have m1:=m.takeAs (drop_split As ia2 k) (fun x hx y hy=>by
              obtain ⟨j,hj,hjl,rfl⟩:=mem_part hx
              exact KeyOrd.kle_trans (show O.kle _ _ from p2 j hj) (up_drop sB b2 y hy))
            by_cases h3:(ia2+k+1 == As.length)=true
            · rw [if_pos h3]
              exact wpS_pure ⟨hS,.inl ⟨_,rfl,retL _ _ _ m1 (by simpa using h3)⟩⟩
            rw [if_neg h3]
            by_cases h4:(ia2+k == As.length)=true
            · rw [if_pos h4]
              exact wpS_pure ⟨hS,.inl ⟨_,rfl,retA _ _ _ m1 (by simpa using h4)⟩⟩
            rw [if_neg h4]
            have b3:ia2+k+1 < As.length:=by simp at h3 h4; omega
            have hle:∀ x∈As.drop (ia2+k),O.kle (key (Bs.getD ib2 0)) (key x):=fun x hx=>by
              have:=p3 k (Nat.le_refl _) (by omega)
              exact KeyOrd.kle_trans (KeyOrd.kle_of_klt (show O.klt _ _ from this)) (up_drop sA (by omega) x hx)
            have hpk:ia' + ib'≤ia2+k+ib2:=by omega
            generalize o++(As.drop ia2).take k=o3 at m1 ⊢
            generalize ia2+k=ia3 at m1 b3 hle hpk ⊢
            refine wpS_bind (welemL b2 ?_)
            rw [arr_push]
            have m2:=lo_stepB m1 b2 sA hle
            by_cases h5:(ib2+1 == Bs.length)=true
            · rw [if_pos h5]
              exact wpS_pure ⟨hS,.inl ⟨_,rfl,retB _ _ _ m2 (by simpa using h5)⟩⟩
            rw [if_neg h5]
            have b5:ib2+1 < Bs.length:=by simp at h5; omega
            refine wpS_bind (welemL (by omega) (wpS_bind (wgal hc hB (gA _ (by omega)) hκ3 (by omega) (by omega) sB fun k2 q1 q2 q3=>?_)))
            dsimp only
            generalize o3++[Bs.getD ib2 0]=o4 at m2 ⊢
            by_cases hk2:k2 > 0
            · rw [if_pos hk2]
              have ex2:=arr_part (it:=it) Bs (ib2+1) k2 (by omega)
              rw [ex2,arr_app]
              have m3:=m2.takeBs (drop_split Bs (ib2+1) k2) (fun x hx y hy=>by
                obtain ⟨j,hj,hjl,rfl⟩:=mem_part hx
                exact KeyOrd.kle_trans (KeyOrd.kle_of_klt (show O.klt _ _ from q2 j hj)) (up_drop sA (by omega) y hy))
              by_cases h6:(ib2+1+k2 == Bs.length)=true
              · rw [if_pos h6]
                exact wpS_pure ⟨hS,.inl ⟨_,rfl,retB _ _ _ m3 (by simpa using h6)⟩⟩
              rw [if_neg h6]
              have b6:ib2+1+k2 < Bs.length:=by simp at h6; omega
              have hl2:∀ y∈Bs.drop (ib2+1+k2),O.kle (key (As.getD ia3 0)) (key y):=fun y hy=>by
                have:=q3 k2 (Nat.le_refl _) (by omega)
                exact KeyOrd.kle_trans (show O.kle _ _ from this) (up_drop sB b6 y hy)
              have hp3:ia' + ib'≤ia3+(ib2+1+k2):=by omega
              generalize o4++(Bs.drop (ib2+1)).take k2=o5 at m3 ⊢
              generalize ib2+1+k2=ib3 at m3 b6 hl2 hp3 ⊢
              refine wpS_bind (welemL (by omega) ?_)
              rw [arr_push]
              have m4:=lo_stepA m3 (by omega) hl2
              by_cases h7:(ia3+1+1 == As.length)=true
              · rw [if_pos h7]
                exact wpS_pure ⟨hS,.inl ⟨_,rfl,retL _ _ _ m4 (by simpa using h7)⟩⟩
              rw [if_neg h7]
              have b7:ia3+1+1 < As.length:=by simp at h7; omega
              by_cases h8:(decide (k < 7) && decide (k2 < 7))=true
              · rw [if_pos h8]
                exact wpS_pure ⟨hS,.inr ⟨rfl,⟨_,rfl,m4,b7,b6⟩,by dsimp only; omega⟩⟩
              · rw [if_neg h8]
                exact wpS_pure ⟨hS,rfl,⟨_,rfl,m4,b7,b6⟩,by dsimp only; omega⟩
            · rw [if_neg hk2]
              have ek2:k2=0:=by omega
              have m3:=m2
              have b6:=b5
              have hl2:∀ y∈Bs.drop (ib2+1),O.kle (key (As.getD ia3 0)) (key y):=fun y hy=>by
                have:=q3 0 (by omega) (by omega)
                exact KeyOrd.kle_trans (show O.kle _ _ from this) (up_drop sB b5 y hy)
              have hp3:ia' + ib'≤ia3+(ib2+1):=by omega
              generalize o4=o5 at m3 ⊢
              generalize ib2+1=ib3 at m3 b6 hl2 hp3 ⊢
              refine wpS_bind (welemL (by omega) ?_)
              rw [arr_push]
              have m4:=lo_stepA m3 (by omega) hl2
              by_cases h7:(ia3+1+1 == As.length)=true
              · rw [if_pos h7]
                exact wpS_pure ⟨hS,.inl ⟨_,rfl,retL _ _ _ m4 (by simpa using h7)⟩⟩
              rw [if_neg h7]
              have b7:ia3+1+1 < As.length:=by simp at h7; omega
              by_cases h8:(decide (k < 7) && decide (k2 < 7))=true
              · rw [if_pos h8]
                exact wpS_pure ⟨hS,.inr ⟨rfl,⟨_,rfl,m4,b7,b6⟩,by dsimp only; omega⟩⟩
              · rw [if_neg h8]
                exact wpS_pure ⟨hS,rfl,⟨_,rfl,m4,b7,b6⟩,by dsimp only; omega⟩
          · rw [if_neg hk0]
            have ek:k=0:=by omega
            have m1:=m
            have b3:=b1
            have hle:∀ x∈As.drop ia2,O.kle (key (Bs.getD ib2 0)) (key x):=fun x hx=>by
              have:=p3 0 (by omega) (by omega)
              exact KeyOrd.kle_trans (KeyOrd.kle_of_klt (show O.klt _ _ from this)) (up_drop sA (by omega) x hx)
            have hpk:=hp2
            generalize o=o3 at m1 ⊢
            generalize ia2=ia3 at m1 b3 hle hpk ⊢
            refine wpS_bind (welemL b2 ?_)
            rw [arr_push]
            have m2:=lo_stepB m1 b2 sA hle
            by_cases h5:(ib2+1 == Bs.length)=true
            · rw [if_pos h5]
              exact wpS_pure ⟨hS,.inl ⟨_,rfl,retB _ _ _ m2 (by simpa using h5)⟩⟩
            rw [if_neg h5]
            have b5:ib2+1 < Bs.length:=by simp at h5; omega
            refine wpS_bind (welemL (by omega) (wpS_bind (wgal hc hB (gA _ (by omega)) hκ3 (by omega) (by omega) sB fun k2 q1 q2 q3=>?_)))
            dsimp only
            generalize o3++[Bs.getD ib2 0]=o4 at m2 ⊢
            by_cases hk2:k2 > 0
            · rw [if_pos hk2]
              have ex2:=arr_part (it:=it) Bs (ib2+1) k2 (by omega)
              rw [ex2,arr_app]
              have m3:=m2.takeBs (drop_split Bs (ib2+1) k2) (fun x hx y hy=>by
                obtain ⟨j,hj,hjl,rfl⟩:=mem_part hx
                exact KeyOrd.kle_trans (KeyOrd.kle_of_klt (show O.klt _ _ from q2 j hj)) (up_drop sA (by omega) y hy))
              by_cases h6:(ib2+1+k2 == Bs.length)=true
              · rw [if_pos h6]
                exact wpS_pure ⟨hS,.inl ⟨_,rfl,retB _ _ _ m3 (by simpa using h6)⟩⟩
              rw [if_neg h6]
              have b6:ib2+1+k2 < Bs.length:=by simp at h6; omega
              have hl2:∀ y∈Bs.drop (ib2+1+k2),O.kle (key (As.getD ia3 0)) (key y):=fun y hy=>by
                have:=q3 k2 (Nat.le_refl _) (by omega)
                exact KeyOrd.kle_trans (show O.kle _ _ from this) (up_drop sB b6 y hy)
              have hp3:ia' + ib'≤ia3+(ib2+1+k2):=by omega
              generalize o4++(Bs.drop (ib2+1)).take k2=o5 at m3 ⊢
              generalize ib2+1+k2=ib3 at m3 b6 hl2 hp3 ⊢
              refine wpS_bind (welemL (by omega) ?_)
              rw [arr_push]
              have m4:=lo_stepA m3 (by omega) hl2
              by_cases h7:(ia3+1+1 == As.length)=true
              · rw [if_pos h7]
                exact wpS_pure ⟨hS,.inl ⟨_,rfl,retL _ _ _ m4 (by simpa using h7)⟩⟩
              rw [if_neg h7]
              have b7:ia3+1+1 < As.length:=by simp at h7; omega
              by_cases h8:(decide (k < 7) && decide (k2 < 7))=true
              · rw [if_pos h8]
                exact wpS_pure ⟨hS,.inr ⟨rfl,⟨_,rfl,m4,b7,b6⟩,by dsimp only; omega⟩⟩
              · rw [if_neg h8]
                exact wpS_pure ⟨hS,rfl,⟨_,rfl,m4,b7,b6⟩,by dsimp only; omega⟩
            · rw [if_neg hk2]
              have ek2:k2=0:=by omega
              have m3:=m2
              have b6:=b5
              have hl2:∀ y∈Bs.drop (ib2+1),O.kle (key (As.getD ia3 0)) (key y):=fun y hy=>by
                have:=q3 0 (by omega) (by omega)
                exact KeyOrd.kle_trans (show O.kle _ _ from this) (up_drop sB b5 y hy)
              have hp3:ia' + ib'≤ia3+(ib2+1):=by omega
              generalize o4=o5 at m3 ⊢
              generalize ib2+1=ib3 at m3 b6 hl2 hp3 ⊢
              refine wpS_bind (welemL (by omega) ?_)
              rw [arr_push]
              have m4:=lo_stepA m3 (by omega) hl2
              by_cases h7:(ia3+1+1 == As.length)=true
              · rw [if_pos h7]
                exact wpS_pure ⟨hS,.inl ⟨_,rfl,retL _ _ _ m4 (by simpa using h7)⟩⟩
              rw [if_neg h7]
              have b7:ia3+1+1 < As.length:=by simp at h7; omega
              by_cases h8:(decide (k < 7) && decide (k2 < 7))=true
              · rw [if_pos h8]
                exact wpS_pure ⟨hS,.inr ⟨rfl,⟨_,rfl,m4,b7,b6⟩,by dsimp only; omega⟩⟩
              · rw [if_neg h8]
                exact wpS_pure ⟨hS,rfl,⟨_,rfl,m4,b7,b6⟩,by dsimp only; omega⟩
end
end SO
set_option Elab.async false
set_option linter.all false
set_option maxRecDepth 100000
set_option maxHeartbeats 2000000
namespace SO
open PySem PySem.W PyProof.Rows
noncomputable def mergeHi':Array Keyed→Array Keyed→StateT SortSt Sem (Array Keyed):=sortPriv% PySem.Builtin.mergeHi
theorem mergeHi'_eq (a b:Array Keyed):mergeHi' a b=(do
  rule "list.sort.merge-hi"
  let total:=a.size+b.size
  let done (out:Array Keyed) (na nb:Nat):=a.extract 0 na++b.extract 0 nb++out.reverse
  let firstOfB (out:Array Keyed) (na nb:Nat):=b.extract 0 nb++a.extract 0 na++out.reverse
  let mut na:=a.size - 1
  let mut nb:=b.size
  let mut out:Array Keyed:=#[← elem' a na]
  if na == 0 then return done out na nb
  if nb == 1 then return firstOfB out na nb
  let mut minGallop:=gallopOf (← get)
  for _ in [0:total] do
    let mut acount:=0
    let mut bcount:=0
    for _ in [0:total] do
      let some aWins ← lt' (← elem' b (nb - 1)) (← elem' a (na - 1)) | return done out na nb
      if aWins then
        na:=na - 1; out:=out.push (← elem' a na); acount:=acount+1; bcount:=0
        if na == 0 then return done out na nb
        if acount ≥ minGallop then break
      else
        nb:=nb - 1; out:=out.push (← elem' b nb); bcount:=bcount+1; acount:=0
        if nb == 1 then return firstOfB out na nb
        if bcount ≥ minGallop then break
    rule "list.sort.gallop"
    minGallop:=minGallop+1
    for _ in [0:total] do
      if minGallop > 1 then minGallop:=minGallop - 1
      setMinGallop' minGallop
      let some at_ ← gallop' false (← elem' b (nb - 1)) a 0 na (na - 1) | return done out na nb
      let k:=na - at_
      acount:=k
      if k > 0 then
        out:=out++(a.extract at_ na).reverse; na:=at_
        if na == 0 then return done out na nb
      nb:=nb - 1; out:=out.push (← elem' b nb)
      if nb == 1 then return firstOfB out na nb
      let some at_ ← gallop' true (← elem' a (na - 1)) b 0 nb (nb - 1) | return done out na nb
      let k:=nb - at_
      bcount:=k
      if k > 0 then
        out:=out++(b.extract at_ nb).reverse; nb:=at_
        if nb == 1 then return firstOfB out na nb
        if nb == 0 then return done out na nb
      na:=na - 1; out:=out.push (← elem' a na)
      if na == 0 then return done out na nb
      if acount < 7 && bcount < 7 then break
    minGallop:=minGallop+1
    setMinGallop' minGallop
  unsupported "internal:list.sort.merge-bound"):=rfl
section
variable {O:KeyOrd} {key:Nat→O.α} {N:Nat} {prog:Program} {w:World} {A:Around} {E:Value→Shared→Prop} {s:Shared} {κ:SortKind} {it:Array Keyed} {st:SortSt} {As Bs o ra rb xs ra' rb':List Nat} {na nb:Nat}
structure Mh (key:Nat→O.α) (As Bs o ra rb:List Nat):Prop where
  perm:(ra++rb++o).Perm (As++Bs)
  so:Up key o
  le:∀ x∈ra++rb,∀ y∈o,O.kle (key x) (key y)
  sa:Up key ra
  sb:Up key rb
theorem Mh.takeBs (m:Mh key As Bs o ra rb) (e:rb=rb'++xs) (h:∀ x∈ra,∀ y∈xs,O.kle (key x) (key y)):Mh key As Bs (xs++o) ra rb':=by
  subst e
  have sb:=List.pairwise_append.mp m.sb
  refine ⟨(by rw [← List.append_assoc,List.append_assoc ra]; exact m.perm),List.pairwise_append.mpr ⟨sb.2.1,m.so,fun x hx y hy=>m.le x (by simp [hx]) y hy⟩,fun x hx y hy=>?_,m.sa,sb.1⟩
  rcases List.mem_append.mp hy with hy | hy
  · rcases List.mem_append.mp hx with z | z
    · exact h x z y hy
    · exact sb.2.2 x z y hy
  · exact m.le x (by rcases List.mem_append.mp hx with z | z <;> simp [z]) y hy
theorem Mh.takeAs (m:Mh key As Bs o ra rb) (e:ra=ra'++xs) (h:∀ x∈rb,∀ y∈xs,O.kle (key x) (key y)):Mh key As Bs (xs++o) ra' rb:=by
  subst e
  have sa:=List.pairwise_append.mp m.sa
  refine ⟨List.Perm.trans ?_ m.perm,List.pairwise_append.mpr ⟨sa.2.1,m.so,fun x hx y hy=>m.le x (by simp [hx]) y hy⟩,fun x hx y hy=>?_,sa.1,m.sb⟩
  · rw [← List.append_assoc]
    refine List.Perm.append_right o ?_
    rw [List.append_assoc,List.append_assoc]
    exact List.perm_append_comm.append_left ra'
  · rcases List.mem_append.mp hy with hy | hy
    · rcases List.mem_append.mp hx with z | z
      · exact sa.2.2 x z y hy
      · exact h x z y hy
    · exact m.le x (by rcases List.mem_append.mp hx with z | z <;> simp [z]) y hy
theorem Mh.doneB (m:Mh key As Bs o [] rb):Merged key it As Bs (arr it []++arr it rb++arr it o) :=
  ⟨rb++o,by rw [arr_app,arr_app,List.nil_append],by simpa using m.perm,List.pairwise_append.mpr ⟨m.sb,m.so,fun x hx y hy=>m.le x (by simp [hx]) y hy⟩⟩
theorem Mh.doneA (m:Mh key As Bs o ra []):Merged key it As Bs (arr it ra++arr it []++arr it o) :=
  ⟨ra++o,by rw [arr_app,arr_app,List.append_nil],by simpa using m.perm,List.pairwise_append.mpr ⟨m.sa,m.so,fun x hx y hy=>m.le x (by simp [hx]) y hy⟩⟩
theorem Mh.firstB (m:Mh key As Bs o ra rb) (h:∀ x∈ra,∀ y∈rb,O.kle (key y) (key x)):Merged key it As Bs (arr it rb++arr it ra++arr it o):=by
  refine ⟨rb++ra++o,by rw [arr_app,arr_app],List.Perm.trans (List.perm_append_comm.append_right o) m.perm,List.pairwise_append.mpr ⟨List.pairwise_append.mpr ⟨m.sb,m.sa,fun x hx y hy=>h y hy x hx⟩,m.so,fun x hx y hy=>m.le x (by rcases List.mem_append.mp hx with z | z <;> simp [z]) y hy⟩⟩
theorem take_snoc {l:List Nat} {i:Nat} (h:i < l.length):l.take (i+1)=l.take i++[l.getD i 0]:=by
  rw [getD_of h,List.take_add_one,List.getElem?_eq_getElem h]; rfl
theorem take_pred {l:List Nat} {i:Nat} (h0:0 < i) (h:i≤l.length):l.take i=l.take (i - 1)++[l.getD (i - 1) 0]:=by
  have:=take_snoc (l:=l) (i:=i - 1) (by omega)
  rwa [show i - 1+1=i by omega] at this
theorem take_split (l:List Nat) {i k:Nat} (h:k≤i):l.take i=l.take k++(l.drop k).take (i - k):=by
  have:=List.take_append_drop k (l.take i)
  rw [List.take_take,Nat.min_eq_left h,List.drop_take] at this
  exact this.symm
theorem up_take {l:List Nat} (h:Up key l) {i:Nat} (h0:0 < i) (hi:i≤l.length):∀ x∈l.take i,O.kle (key x) (key (l.getD (i - 1) 0)):=fun x hx=>by
  obtain ⟨j,hj,e⟩:=List.getElem_of_mem hx
  simp at hj
  have:=up_le h (i:=j) (j:=i - 1) (by omega) (by omega)
  rw [getD_of (by omega)] at this
  have e':l[j]=x:=by simpa using e
  rwa [e'] at this
theorem hi_stepB (m:Mh key As Bs o (As.take na) (Bs.take nb)) (h0:0 < nb) (hb:nb≤Bs.length) (hle:∀ x∈As.take na,O.kle (key x) (key (Bs.getD (nb - 1) 0))):Mh key As Bs ([Bs.getD (nb - 1) 0]++o) (As.take na) (Bs.take (nb - 1)) :=
  m.takeBs (take_pred h0 hb) fun x hx y hy=>by rw [List.mem_singleton.mp hy]; exact hle x hx
theorem hi_stepA (m:Mh key As Bs o (As.take na) (Bs.take nb)) (h0:0 < na) (ha:na≤As.length) (hle:∀ x∈Bs.take nb,O.kle (key x) (key (As.getD (na - 1) 0))):Mh key As Bs ([As.getD (na - 1) 0]++o) (As.take (na - 1)) (Bs.take nb) :=
  m.takeAs (take_pred h0 ha) fun x hx y hy=>by rw [List.mem_singleton.mp hy]; exact hle x hx
noncomputable def JHi (key:Nat→O.α) (it:Array Keyed) (As Bs:List Nat) (out:Array Keyed) (na nb:Nat):Prop:=∃ o,out=arr it o.reverse∧Mh key As Bs o (As.take na) (Bs.take nb)∧0 < na∧na≤As.length∧1 < nb∧nb≤Bs.length
theorem rev_push (x:Nat) (o:List Nat):(arr it o.reverse).push (kas_item it x)=arr it ([x]++o).reverse:=by rw [arr_push]; simp
theorem rev_app (l:List Nat) (i k:Nat) (o:List Nat) (h:k≤i) (hi:i≤l.length):arr it o.reverse++((arr it l).extract k i).reverse=arr it ((l.drop k).take (i - k)++o).reverse:=by
  have e:=arr_part (it:=it) l k (i - k) (by omega)
  rw [show k+(i - k)=i by omega] at e
  rw [e,arr_rev,arr_app,List.reverse_append]
theorem wmergeHi {Q:Array Keyed→SortSt→Prop} (hc:Cmp key N (kas_cmp prog w A κ it) s) (hA:∀ x∈As,x < N) (hB:∀ x∈Bs,x < N) (hκ:kindOf st=κ) (sA:Up key As) (sB:Up key Bs) (nA:0 < As.length) (nB:0 < Bs.length)
    (first:∀ x∈As,O.klt (key (Bs.getD 0 0)) (key x)) (last:∀ y∈Bs,O.klt (key y) (key (As.getD (As.length - 1) 0))) (h:∀ r st',Stay st st'→Merged key it As Bs r→Q r st') :
    wpS (model prog w) A E s (mergeHi' (arr it As) (arr it Bs)) Q st:=by
  have gA:∀ i,i < As.length→As.getD i 0 < N:=fun i hi=>by rw [getD_of hi]; exact hA _ (List.getElem_mem _)
  have gB:∀ i,i < Bs.length→Bs.getD i 0 < N:=fun i hi=>by rw [getD_of hi]; exact hB _ (List.getElem_mem _)
  have retA:∀ o na nb,Mh key As Bs o (As.take na) (Bs.take nb)→na=0→Merged key it As Bs ((arr it As).extract 0 na++(arr it Bs).extract 0 nb++(arr it o.reverse).reverse):=fun o na nb m e=>by
    rw [arr_take,arr_take,arr_rev,List.reverse_reverse]
    rw [e,List.take_zero] at m ⊢
    exact m.doneB
  have retB:∀ o na nb,Mh key As Bs o (As.take na) (Bs.take nb)→nb=0→Merged key it As Bs ((arr it As).extract 0 na++(arr it Bs).extract 0 nb++(arr it o.reverse).reverse):=fun o na nb m e=>by
    rw [arr_take,arr_take,arr_rev,List.reverse_reverse]
    rw [e,List.take_zero] at m ⊢
    exact m.doneA
  have retF:∀ o na nb,Mh key As Bs o (As.take na) (Bs.take nb)→nb=1→Merged key it As Bs ((arr it Bs).extract 0 nb++(arr it As).extract 0 na++(arr it o.reverse).reverse):=fun o na nb m e=>by
    rw [arr_take,arr_take,arr_rev,List.reverse_reverse]
    refine m.firstB fun x hx y hy=>?_
    rw [e,take_pred (by omega) (by omega)] at hy
    have hy':y=Bs.getD 0 0:=by simpa using hy
    rw [hy']
    exact KeyOrd.kle_of_klt (first x (List.mem_of_mem_take hx))
  rw [mergeHi'_eq]
  refine wpS_bind (wpS_lift (wpAny_rule ⟨rfl,?_⟩))
  dsimp only
  simp only [arr_size]
  refine wpS_bind (welemL (by omega) ?_)
  have m0:Mh key As Bs ([As.getD (As.length - 1) 0]++[]) (As.take (As.length - 1)) (Bs.take Bs.length):=by
    refine hi_stepA (o:=[]) (na:=As.length) (nb:=Bs.length) ⟨by simp,List.Pairwise.nil,(fun x _ y hy=>by cases hy),by rw [List.take_length]; exact sA,by rw [List.take_length]; exact sB⟩ nA (Nat.le_refl _) fun x hx=>?_
    rw [List.take_length] at hx
    exact KeyOrd.kle_of_klt (last x hx)
  have e0:(#[kas_item it (As.getD (As.length - 1) 0)]:Array Keyed)=arr it ([As.getD (As.length - 1) 0]++[]).reverse:=by simp [arr]
  rw [e0]
  by_cases h1:(As.length - 1 == 0)=true
  · rw [if_pos h1]
    exact wpS_pure (h _ _ (Stay.refl _) (retA _ _ _ m0 (by simpa using h1)))
  rw [if_neg h1]
  by_cases h2:(Bs.length == 1)=true
  · rw [if_pos h2]
    exact wpS_pure (h _ _ (Stay.refl _) (retF _ _ _ m0 (by simpa using h2)))
  rw [if_neg h2]
  have h1':0 < As.length - 1:=by simp at h1; omega
  have h2':1 < Bs.length:=by simp at h2; omega
  refine wpS_bind (wpS_get ?_)
  refine wpS_bind (wpS_mono (wpS_forRange
    (I:=fun (x:Nat) (c:Option (Array Keyed) × Nat × Nat × Array Keyed × Nat) (st':SortSt)=>Stay st st'∧c.1=none∧JHi key it As Bs c.2.2.2.1 c.2.1 c.2.2.1∧c.2.1+c.2.2.1+x+1≤As.length+Bs.length)
    (Q:=fun (c:Option (Array Keyed) × Nat × Nat × Array Keyed × Nat) (st':SortSt)=>Stay st st'∧∃ r,c.1=some r∧Merged key it As Bs r) ?step ?fin ⟨Stay.refl _,rfl,⟨_,rfl,m0,h1',by dsimp only; omega,h2',Nat.le_refl _⟩,by dsimp only; omega⟩) ?post)
  case fin =>
    rintro ⟨c0,na,nb,out,mg⟩ st' ⟨hs,e0,⟨o,_,_,b1,b2,b3,b4⟩,hp⟩
    dsimp only at *
    omega
  case post =>
    rintro ⟨c0,na,nb,out,mg⟩ st' ⟨hs,r,e0,hm⟩
    dsimp only at *
    subst e0
    exact wpS_pure (h _ _ hs hm)
  case step =>
    rintro x ⟨c0,na,nb,out,mg⟩ st1 _ hx ⟨hs1,e0,j0,hp⟩
    dsimp only at *
    subst e0
    refine wpS_bind (wpS_mono (wpS_forRange
      (I:=fun (y:Nat) (c:Option (Array Keyed) × Nat × Nat × Array Keyed × Nat × Nat) (st':SortSt)=>st'=st1∧c.1=none∧JHi key it As Bs c.2.2.2.1 c.2.1 c.2.2.1∧c.2.1+c.2.2.1+y≤na+nb)
      (Q:=fun (c:Option (Array Keyed) × Nat × Nat × Array Keyed × Nat × Nat) (st':SortSt)=>st'=st1∧((∃ r,c.1=some r∧Merged key it As Bs r)∨(c.1=none∧JHi key it As Bs c.2.2.2.1 c.2.1 c.2.2.1∧c.2.1+c.2.2.1+1≤na+nb))) ?step1 ?fin1 ⟨rfl,rfl,j0,by dsimp only; omega⟩) ?post1)
    case fin1 =>
      rintro ⟨c0,na',nb',out',ac,bc⟩ st' ⟨hs,e0,j,hp'⟩
      dsimp only at *
      exact ⟨hs,.inr ⟨e0,j,by omega⟩⟩
    case step1 =>
      rintro y ⟨c0,na',nb',out',ac,bc⟩ st' _ hy ⟨rfl,e0,⟨o,rfl,m,b1,b2,b3,b4⟩,hp'⟩
      dsimp only at *
      subst e0
      refine wpS_bind (welemL (by omega) (wpS_bind (welemL (by omega) ?_)))
      refine wpS_bind (wlt hc (gB _ (by omega)) (gA _ (by omega)) (hs1.1.trans hκ) ?_)
      dsimp only
      cases hb:O.blt (key (Bs.getD (nb' - 1) 0)) (key (As.getD (na' - 1) 0)) with
      | true =>
        rw [if_pos rfl]
        refine wpS_bind (welemL (by omega) ?_)
        rw [rev_push]
        have m1:=hi_stepA m b1 b2 fun x hx=>KeyOrd.kle_trans (up_take sB (by omega) b4 x hx) (KeyOrd.kle_of_klt hb)
        by_cases h3:(na' - 1 == 0)=true
        · rw [if_pos h3]
          exact wpS_pure ⟨rfl,.inl ⟨_,rfl,retA _ _ _ m1 (by simpa using h3)⟩⟩
        rw [if_neg h3]
        have h3':0 < na' - 1:=by simp at h3; omega
        by_cases h4:ac+1 ≥ mg
        · rw [if_pos h4]
          exact wpS_pure ⟨rfl,.inr ⟨rfl,⟨_,rfl,m1,h3',by dsimp only; omega,b3,b4⟩,by dsimp only; omega⟩⟩
        · rw [if_neg h4]
          exact wpS_pure ⟨rfl,rfl,⟨_,rfl,m1,h3',by dsimp only; omega,b3,b4⟩,by dsimp only; omega⟩
      | false =>
        rw [if_neg (by simp)]
        refine wpS_bind (welemL (by omega) ?_)
        rw [rev_push]
        have m1:=hi_stepB m (by omega) b4 fun x hx=>KeyOrd.kle_trans (up_take sA b1 b2 x hx) (show O.kle _ _ from hb)
        by_cases h3:(nb' - 1 == 1)=true
        · rw [if_pos h3]
          exact wpS_pure ⟨rfl,.inl ⟨_,rfl,retF _ _ _ m1 (by simpa using h3)⟩⟩
        rw [if_neg h3]
        have h3':1 < nb' - 1:=by simp at h3; omega
        by_cases h4:bc+1 ≥ mg
        · rw [if_pos h4]
          exact wpS_pure ⟨rfl,.inr ⟨rfl,⟨_,rfl,m1,b1,b2,h3',by dsimp only; omega⟩,by dsimp only; omega⟩⟩
        · rw [if_neg h4]
          exact wpS_pure ⟨rfl,rfl,⟨_,rfl,m1,b1,b2,h3',by dsimp only; omega⟩,by dsimp only; omega⟩
    case post1 =>
      rintro ⟨c0,na',nb',out',ac,bc⟩ st' ⟨rfl,⟨r,e0,hm⟩ | ⟨e0,j,hp1⟩⟩
      · dsimp only at *
        subst e0
        exact wpS_pure ⟨hs1,r,rfl,hm⟩
      dsimp only at *
      subst e0
      dsimp only
      refine wpS_bind (wpS_lift (wpAny_rule ⟨rfl,?_⟩))
      refine wpS_bind (wpS_mono (wpS_forRange
        (I:=fun (y:Nat) (c:Option (Array Keyed) × Nat × Nat × Array Keyed × Nat × Nat × Nat) (st2:SortSt)=>Stay st' st2∧c.1=none∧JHi key it As Bs c.2.2.2.1 c.2.1 c.2.2.1∧c.2.1+c.2.2.1≤na' + nb')
        (Q:=fun (c:Option (Array Keyed) × Nat × Nat × Array Keyed × Nat × Nat × Nat) (st2:SortSt)=>Stay st' st2∧((∃ r,c.1=some r∧Merged key it As Bs r)∨(c.1=none∧JHi key it As Bs c.2.2.2.1 c.2.1 c.2.2.1∧c.2.1+c.2.2.1≤na' + nb'))) ?step2 ?fin2 ⟨Stay.refl _,rfl,j,Nat.le_refl _⟩) ?post2)
      case fin2 =>
        rintro ⟨c0,na2,nb2,out2,mg2,ac2,bc2⟩ st2 ⟨hs,e0,j,hp'⟩
        dsimp only at *
        exact ⟨hs,.inr ⟨e0,j,hp'⟩⟩
      case post2 =>
        rintro ⟨c0,na2,nb2,out2,mg2,ac2,bc2⟩ st2 ⟨hs,⟨r,e0,hm⟩ | ⟨e0,j,hp2⟩⟩
        · dsimp only at *
          subst e0
          exact wpS_pure ⟨hs1.trans hs,r,rfl,hm⟩
        · dsimp only at *
          subst e0
          dsimp only
          refine wpS_bind (wsetMin fun st3 hs3=>wpS_pure ⟨(hs1.trans hs).trans hs3,rfl,j,by dsimp only; omega⟩)
      case step2 =>
        rintro y ⟨c0,na2,nb2,out2,mg2,ac2,bc2⟩ st2 _ hy ⟨hs2,e0,⟨o,rfl,m,b1,b2,b3,b4⟩,hp2⟩
        dsimp only at *
        subst e0
        by_cases hmg:mg2 > 1
        all_goals first | rw [if_pos hmg] | rw [if_neg hmg]
        all_goals
          refine wpS_bind (wsetMin fun st3 hs3=>?_)
          have hS:=hs2.trans hs3
          have hκ3:kindOf st3=κ:=(hs1.trans hS).1.trans hκ
          refine wpS_bind (welemL (by omega) (wpS_bind (wgal hc hA (gB _ (by omega)) hκ3 (by omega) (by omega) sA fun at1 p1 p2 p3=>?_)))
          dsimp only
          by_cases hk0:na2 - at1 > 0
          · rw [if_pos hk0]
            rw [rev_app As na2 at1 o (by omega) b2]
            have m1:=m.takeAs (take_split As (i:=na2) (k:=at1) (by omega)) (fun x hx y hy=>by
              obtain ⟨j,hj,hjl,rfl⟩:=mem_part hy
              have:=p3 (at1+j) (by omega) (by omega)
              rw [Nat.zero_add] at this
              exact KeyOrd.kle_trans (up_take sB (by omega) b4 x hx) (KeyOrd.kle_of_klt (show O.klt _ _ from this)))
            by_cases h3:(at1 == 0)=true
            · rw [if_pos h3]
              exact wpS_pure ⟨hS,.inl ⟨_,rfl,retA _ _ _ m1 (by simpa using h3)⟩⟩
            rw [if_neg h3]
            have c1:0 < at1:=by simp at h3; omega
            have c2:at1≤As.length:=by omega
            have hle:∀ x∈As.take at1,O.kle (key x) (key (Bs.getD (nb2 - 1) 0)):=fun x hx=>by
              have:=p2 (at1 - 1) (by omega)
              rw [Nat.zero_add] at this
              exact KeyOrd.kle_trans (up_take sA c1 c2 x hx) (show O.kle _ _ from this)
            have hpk:at1≤na2:=by omega
            generalize (As.drop at1).take (na2 - at1)++o=o3 at m1 ⊢
            refine wpS_bind (welemL (by omega) ?_)
            rw [rev_push]
            have m2:=hi_stepB m1 (by omega) b4 hle
            by_cases h5:(nb2 - 1 == 1)=true
            · rw [if_pos h5]
              exact wpS_pure ⟨hS,.inl ⟨_,rfl,retF _ _ _ m2 (by simpa using h5)⟩⟩
            rw [if_neg h5]
            have b5:1 < nb2 - 1:=by simp at h5; omega
            refine wpS_bind (welemL (by omega) (wpS_bind (wgal hc hB (gA _ (by omega)) hκ3 (by omega) (by omega) sB fun at2 q1 q2 q3=>?_)))
            dsimp only
            generalize [Bs.getD (nb2 - 1) 0]++o3=o4 at m2 ⊢
            by_cases hk2:nb2 - 1 - at2 > 0
            · rw [if_pos hk2]
              rw [rev_app Bs (nb2 - 1) at2 o4 (by omega) (by omega)]
              have m3:=m2.takeBs (take_split Bs (i:=nb2 - 1) (k:=at2) (by omega)) (fun x hx y hy=>by
                obtain ⟨j,hj,hjl,rfl⟩:=mem_part hy
                have:=q3 (at2+j) (by omega) (by omega)
                rw [Nat.zero_add] at this
                exact KeyOrd.kle_trans (up_take sA c1 c2 x hx) (show O.kle _ _ from this))
              by_cases h6:(at2 == 1)=true
              · rw [if_pos h6]
                exact wpS_pure ⟨hS,.inl ⟨_,rfl,retF _ _ _ m3 (by simpa using h6)⟩⟩
              rw [if_neg h6]
              by_cases h6b:(at2 == 0)=true
              · rw [if_pos h6b]
                exact wpS_pure ⟨hS,.inl ⟨_,rfl,retB _ _ _ m3 (by simpa using h6b)⟩⟩
              rw [if_neg h6b]
              have d1:1 < at2:=by simp at h6 h6b; omega
              have d2:at2≤Bs.length:=by omega
              have hl2:∀ x∈Bs.take at2,O.kle (key x) (key (As.getD (at1 - 1) 0)):=fun x hx=>by
                have:=q2 (at2 - 1) (by omega)
                rw [Nat.zero_add] at this
                exact KeyOrd.kle_trans (up_take sB (by omega) d2 x hx) (KeyOrd.kle_of_klt (show O.klt _ _ from this))
              generalize (Bs.drop at2).take (nb2 - 1 - at2)++o4=o5 at m3 ⊢
              refine wpS_bind (welemL (by omega) ?_)
              rw [rev_push]
              have m4:=hi_stepA m3 c1 c2 hl2
              by_cases h7:(at1 - 1 == 0)=true
              · rw [if_pos h7]
                exact wpS_pure ⟨hS,.inl ⟨_,rfl,retA _ _ _ m4 (by simpa using h7)⟩⟩
              rw [if_neg h7]
              have b7:0 < at1 - 1:=by simp at h7; omega
              by_cases h8:(decide (na2 - at1 < 7) && decide (nb2 - 1 - at2 < 7))=true
              · rw [if_pos h8]
                exact wpS_pure ⟨hS,.inr ⟨rfl,⟨_,rfl,m4,b7,by dsimp only; omega,d1,d2⟩,by dsimp only; omega⟩⟩
              · rw [if_neg h8]
                exact wpS_pure ⟨hS,rfl,⟨_,rfl,m4,b7,by dsimp only; omega,d1,d2⟩,by dsimp only; omega⟩
            · rw [if_neg hk2]
              have m3:=m2
              have d1:=b5
              have d2:nb2 - 1≤Bs.length:=by omega
              have hl2:∀ x∈Bs.take (nb2 - 1),O.kle (key x) (key (As.getD (at1 - 1) 0)):=fun x hx=>by
                have:=q2 (nb2 - 1 - 1) (by omega)
                rw [Nat.zero_add] at this
                exact KeyOrd.kle_trans (up_take sB (by omega) d2 x hx) (KeyOrd.kle_of_klt (show O.klt _ _ from this))
              generalize o4=o5 at m3 ⊢
              refine wpS_bind (welemL (by omega) ?_)
              rw [rev_push]
              have m4:=hi_stepA m3 c1 c2 hl2
              by_cases h7:(at1 - 1 == 0)=true
              · rw [if_pos h7]
                exact wpS_pure ⟨hS,.inl ⟨_,rfl,retA _ _ _ m4 (by simpa using h7)⟩⟩
              rw [if_neg h7]
              have b7:0 < at1 - 1:=by simp at h7; omega
              by_cases h8:(decide (na2 - at1 < 7) && decide (nb2 - 1 - at2 < 7))=true
              · rw [if_pos h8]
                exact wpS_pure ⟨hS,.inr ⟨rfl,⟨_,rfl,m4,b7,by dsimp only; omega,d1,d2⟩,by dsimp only; omega⟩⟩
              · rw [if_neg h8]
                exact wpS_pure ⟨hS,rfl,⟨_,rfl,m4,b7,by dsimp only; omega,d1,d2⟩,by dsimp only; omega⟩
          · rw [if_neg hk0]
            have m1:=m
            have c1:=b1
            have c2:=b2
            have hle:∀ x∈As.take na2,O.kle (key x) (key (Bs.getD (nb2 - 1) 0)):=fun x hx=>by
              have:=p2 (na2 - 1) (by omega)
              rw [Nat.zero_add] at this
              exact KeyOrd.kle_trans (up_take sA c1 c2 x hx) (show O.kle _ _ from this)
            have hpk:=Nat.le_refl na2
            generalize o=o3 at m1 ⊢
            refine wpS_bind (welemL (by omega) ?_)
            rw [rev_push]
            have m2:=hi_stepB m1 (by omega) b4 hle
            by_cases h5:(nb2 - 1 == 1)=true
            · rw [if_pos h5]
              exact wpS_pure ⟨hS,.inl ⟨_,rfl,retF _ _ _ m2 (by simpa using h5)⟩⟩
            rw [if_neg h5]
            have b5:1 < nb2 - 1:=by simp at h5; omega
            refine wpS_bind (welemL (by omega) (wpS_bind (wgal hc hB (gA _ (by omega)) hκ3 (by omega) (by omega) sB fun at2 q1 q2 q3=>?_)))
            dsimp only
            generalize [Bs.getD (nb2 - 1) 0]++o3=o4 at m2 ⊢
            by_cases hk2:nb2 - 1 - at2 > 0
            · rw [if_pos hk2]
              rw [rev_app Bs (nb2 - 1) at2 o4 (by omega) (by omega)]
              have m3:=m2.takeBs (take_split Bs (i:=nb2 - 1) (k:=at2) (by omega)) (fun x hx y hy=>by
                obtain ⟨j,hj,hjl,rfl⟩:=mem_part hy
                have:=q3 (at2+j) (by omega) (by omega)
                rw [Nat.zero_add] at this
                exact KeyOrd.kle_trans (up_take sA c1 c2 x hx) (show O.kle _ _ from this))
              by_cases h6:(at2 == 1)=true
              · rw [if_pos h6]
                exact wpS_pure ⟨hS,.inl ⟨_,rfl,retF _ _ _ m3 (by simpa using h6)⟩⟩
              rw [if_neg h6]
              by_cases h6b:(at2 == 0)=true
              · rw [if_pos h6b]
                exact wpS_pure ⟨hS,.inl ⟨_,rfl,retB _ _ _ m3 (by simpa using h6b)⟩⟩
              rw [if_neg h6b]
              have d1:1 < at2:=by simp at h6 h6b; omega
              have d2:at2≤Bs.length:=by omega
              have hl2:∀ x∈Bs.take at2,O.kle (key x) (key (As.getD (na2 - 1) 0)):=fun x hx=>by
                have:=q2 (at2 - 1) (by omega)
                rw [Nat.zero_add] at this
                exact KeyOrd.kle_trans (up_take sB (by omega) d2 x hx) (KeyOrd.kle_of_klt (show O.klt _ _ from this))
              generalize (Bs.drop at2).take (nb2 - 1 - at2)++o4=o5 at m3 ⊢
              refine wpS_bind (welemL (by omega) ?_)
              rw [rev_push]
              have m4:=hi_stepA m3 c1 c2 hl2
              by_cases h7:(na2 - 1 == 0)=true
              · rw [if_pos h7]
                exact wpS_pure ⟨hS,.inl ⟨_,rfl,retA _ _ _ m4 (by simpa using h7)⟩⟩
              rw [if_neg h7]
              have b7:0 < na2 - 1:=by simp at h7; omega
              by_cases h8:(decide (na2 - at1 < 7) && decide (nb2 - 1 - at2 < 7))=true
              · rw [if_pos h8]
                exact wpS_pure ⟨hS,.inr ⟨rfl,⟨_,rfl,m4,b7,by dsimp only; omega,d1,d2⟩,by dsimp only; omega⟩⟩
              · rw [if_neg h8]
                exact wpS_pure ⟨hS,rfl,⟨_,rfl,m4,b7,by dsimp only; omega,d1,d2⟩,by dsimp only; omega⟩
            · rw [if_neg hk2]
              have m3:=m2
              have d1:=b5
              have d2:nb2 - 1≤Bs.length:=by omega
              have hl2:∀ x∈Bs.take (nb2 - 1),O.kle (key x) (key (As.getD (na2 - 1) 0)):=fun x hx=>by
                have:=q2 (nb2 - 1 - 1) (by omega)
                rw [Nat.zero_add] at this
                exact KeyOrd.kle_trans (up_take sB (by omega) d2 x hx) (KeyOrd.kle_of_klt (show O.klt _ _ from this))
              generalize o4=o5 at m3 ⊢
              refine wpS_bind (welemL (by omega) ?_)
              rw [rev_push]
              have m4:=hi_stepA m3 c1 c2 hl2
              by_cases h7:(na2 - 1 == 0)=true
              · rw [if_pos h7]
                exact wpS_pure ⟨hS,.inl ⟨_,rfl,retA _ _ _ m4 (by simpa using h7)⟩⟩
              rw [if_neg h7]
              have b7:0 < na2 - 1:=by simp at h7; omega
              by_cases h8:(decide (na2 - at1 < 7) && decide (nb2 - 1 - at2 < 7))=true
              · rw [if_pos h8]
                exact wpS_pure ⟨hS,.inr ⟨rfl,⟨_,rfl,m4,b7,by dsimp only; omega,d1,d2⟩,by dsimp only; omega⟩⟩
              · rw [if_neg h8]
                exact wpS_pure ⟨hS,rfl,⟨_,rfl,m4,b7,by dsimp only; omega,d1,d2⟩,by dsimp only; omega⟩
end
end SO
set_option Elab.async false
set_option linter.all false
set_option maxRecDepth 100000
set_option maxHeartbeats 2000000
namespace SO
open PySem PySem.W PyProof.Rows
noncomputable def tail3L (lo n nrem:Nat):StateT SortSt Sem (Option Nat):=do
  reverseSlice' lo (lo+n)
  let mut m:=n
  for _ in [n:nrem] do
    let some smaller ← ltAt' (lo+m) (lo+m - 1) | return none
    if smaller then break
    m:=m+1
  return some m
noncomputable def descL (lo n nrem:Nat):StateT SortSt Sem (Option Nat):=do
  rule "list.sort.descending-run"
  let mut m:=n
  let mut neq:=0
  for _ in [n:nrem] do
    let some smaller ← ltAt' (lo+m) (lo+m - 1) | return none
    if smaller then
      if neq > 0 then reverseSlice' (lo+m - (neq+1)) (lo+m)
      neq:=0
    else
      let some larger ← ltAt' (lo+m - 1) (lo+m) | return none
      if larger then break
      neq:=neq+1
    m:=m+1
  if neq > 0 then reverseSlice' (lo+m - (neq+1)) (lo+m)
  tail3L lo m nrem
theorem countRunL_eq (lo nrem:Nat):countRun' lo nrem=(do
  let mut n:=1
  for _ in [1:nrem] do
    let some smaller ← ltAt' (lo+n) (lo+n - 1) | return none
    if smaller then break
    n:=n+1
  if n == nrem then return some n
  if n > 1 then
    let some rose ← ltAt' lo (lo+n - 1) | return none
    if rose then return some n
    reverseSlice' lo (lo+n)
    descL lo (n+1) nrem
  else descL lo (n+1) nrem):=rfl
section
variable {O:KeyOrd} {key:Nat→O.α} {N:Nat} {prog:Program} {w:World} {A:Around} {E:Value→Shared→Prop} {s:Shared} {κ:SortKind} {it:Array Keyed} {pend:Array (Nat × Nat × Nat)} {st:SortSt} {q:Array Nat}
structure Ss (κ:SortKind) (it:Array Keyed) (pend:Array (Nat × Nat × Nat)) (q:Array Nat) (st:SortSt):Prop where
  kind:kindOf st=κ
  arr:arrOf st=q.map (kas_item it)
  pend:pendingOf st=pend
  failed:failedOf st=none
theorem wltAt {i j:Nat} {Q:Option Bool→SortSt→Prop} (hc:Cmp key N (kas_cmp prog w A κ it) s) (S:Ss κ it pend q st) (hq:InN N q) (hi:i < N) (hj:j < N) (h:Q (some (O.blt (KN key q i) (KN key q j))) st) :
    wpS (model prog w) A E s (ltAt' i j) Q st:=by
  rw [ltAt'_eq]
  refine wpS_bind (wpS_get ?_)
  show wpS _ _ _ _ (do let x ← elem' (arrOf st) i; let y ← elem' (arrOf st) j; lt' x y) Q st
  rw [S.arr]
  exact wpS_bind (welem (by rw [hq.size]; exact hi) (wpS_bind (welem (by rw [hq.size]; exact hj) (wlt hc (hq.lt hi) (hq.lt hj) S.kind h))))
theorem wrev {i j:Nat} {Q:Unit→SortSt→Prop} (S:Ss κ it pend q st) (h:∀ st',Ss κ it pend (kas_rev q i j) st'→Q () st'):wpS (model prog w) A E s (reverseSlice' i j) Q st:=by
  rw [reverseSlice'_eq]
  refine wpS_modify (h _ ⟨S.kind,?_,S.pend,S.failed⟩)
  show mirror (arrOf st) i j ((j - i) / 2)=_
  rw [S.arr]
  exact kas_swaps_map _ _ _ _ _
theorem wmove {k l:Nat} {Q:Unit→SortSt→Prop} (S:Ss κ it pend q st) (h:∀ st',Ss κ it pend (bubble q k (k - l)) st'→Q () st'):wpS (model prog w) A E s (moveDown' k l) Q st:=by
  rw [moveDown'_eq]
  refine wpS_modify (h _ ⟨S.kind,?_,S.pend,S.failed⟩)
  show bubble (arrOf st) k (k - l)=_
  rw [S.arr]
  exact kas_swaps_map _ _ _ _ _
noncomputable def SortedR (key:Nat→O.α) (q:Array Nat) (lo n:Nat):Prop:=∀ i j,i≤j→j < n→O.kle (KN key q (lo+i)) (KN key q (lo+j))
noncomputable def FallR (key:Nat→O.α) (q:Array Nat) (lo n:Nat):Prop:=∀ i j,i≤j→j < n→O.kle (KN key q (lo+j)) (KN key q (lo+i))
noncomputable def Fix (key:Nat→O.α) (lo hi:Nat) (q q':Array Nat):Prop:=∀ i,(i < lo∨hi≤i)→KN key q' i=KN key q i
theorem Fix.refl {lo hi:Nat} (q:Array Nat):Fix key lo hi q q:=fun _ _=>rfl
theorem Fix.trans {lo hi:Nat} {q q1 q2:Array Nat} (a:Fix key lo hi q q1) (b:Fix key lo hi q1 q2):Fix key lo hi q q2:=fun i hi=>(b i hi).trans (a i hi)
theorem Fix.rev {lo hi i j:Nat} {q:Array Nat} (h1:lo≤i) (h2:j≤hi) (hj:j≤q.size):Fix key lo hi q (kas_rev q i j):=fun k hk=>by
  rw [KN_rev hj,if_neg (by omega)]
theorem SortedR.snoc {lo n:Nat} (h:SortedR key q lo n) (h1:1≤n) (hl:O.kle (KN key q (lo+n - 1)) (KN key q (lo+n))):SortedR key q lo (n+1):=fun i j hij hj=>by
  by_cases hjx:j < n
  · exact h i j hij hjx
  · have hj':j=n:=by omega
    subst hj'
    by_cases hi':i=j
    · subst hi'; exact KeyOrd.kle_refl _
    · have:=h i (j - 1) (by omega) (by omega)
      rw [show lo+(j - 1)=lo+j - 1 by omega] at this
      exact KeyOrd.kle_trans this hl
theorem FallR.snoc {lo n:Nat} (h:FallR key q lo n) (h1:1≤n) (hl:O.kle (KN key q (lo+n)) (KN key q (lo+n - 1))):FallR key q lo (n+1):=fun i j hij hj=>by
  by_cases hjx:j < n
  · exact h i j hij hjx
  · have hj':j=n:=by omega
    subst hj'
    by_cases hi':i=j
    · subst hi'; exact KeyOrd.kle_refl _
    · have:=h i (j - 1) (by omega) (by omega)
      rw [show lo+(j - 1)=lo+j - 1 by omega] at this
      exact KeyOrd.kle_trans hl this
theorem wtail3L {lo n nrem:Nat} {Q:Option Nat→SortSt→Prop} (hc:Cmp key N (kas_cmp prog w A κ it) s) (S:Ss κ it pend q st) (hq:InN N q) (hN:lo+nrem=N) (h1:1≤n) (hn:n≤nrem) (hf:FallR key q lo n)
    (h:∀ m q' st',Ss κ it pend q' st'→InN N q'→Fix key lo N q q'→1≤m→m≤nrem→SortedR key q' lo m→Q (some m) st'):wpS (model prog w) A E s (tail3L lo n nrem) Q st:=by
  have hsz:=hq.size
  unfold tail3L
  refine wpS_bind (wrev S fun st1 S1=>?_)
  have hq1:=hq.rev lo (lo+n)
  have hfix:Fix key lo N q (kas_rev q lo (lo+n)):=Fix.rev (Nat.le_refl _) (by omega) (by omega)
  have hs1:SortedR key (kas_rev q lo (lo+n)) lo n:=fun i j hij hj=>by
    rw [KN_rev (by omega),KN_rev (by omega),if_pos (by omega),if_pos (by omega)]
    have:=hf (n - 1 - j) (n - 1 - i) (by omega) (by omega)
    rw [show lo+(n - 1 - i)=lo+(lo+n) - 1 - (lo+i) by omega,show lo+(n - 1 - j)=lo+(lo+n) - 1 - (lo+j) by omega] at this
    exact this
  generalize kas_rev q lo (lo+n)=q1 at S1 hq1 hfix hs1
  refine wpS_bind (wpS_mono (wpS_forRange
    (I:=fun (x:Nat) (c:Option (Option Nat) × Nat) (st':SortSt)=>st'=st1∧c.1=none∧c.2=x∧SortedR key q1 lo c.2)
    (Q:=fun (c:Option (Option Nat) × Nat) (st':SortSt)=>st'=st1∧c.1=none∧n≤c.2∧c.2≤nrem∧SortedR key q1 lo c.2) ?step ?fin ⟨rfl,rfl,rfl,hs1⟩) ?post)
  case fin =>
    rintro ⟨c0,m⟩ st' ⟨rfl,e0,e1,i2⟩
    dsimp only at *
    exact ⟨rfl,e0,by omega,by omega,i2⟩
  case post =>
    rintro ⟨c0,m⟩ st' ⟨rfl,e0,b1,b2,i2⟩
    dsimp only at *
    subst e0
    exact wpS_pure (h m q1 _ S1 hq1 hfix (by omega) b2 i2)
  case step =>
    rintro x ⟨c0,m⟩ st' hx1 hx2 ⟨rfl,e0,e1,i2⟩
    dsimp only at *
    subst e0 e1
    refine wpS_bind (wltAt hc S1 hq1 (by omega) (by omega) ?_)
    dsimp only
    cases hb:O.blt (KN key q1 (lo+m)) (KN key q1 (lo+m - 1)) with
    | true =>
      rw [if_pos rfl]
      exact wpS_pure ⟨rfl,rfl,hx1,by dsimp only; omega,i2⟩
    | false =>
      rw [if_neg (by simp)]
      exact wpS_pure ⟨rfl,rfl,rfl,i2.snoc (by omega) hb⟩
theorem wdescL {lo n nrem:Nat} {Q:Option Nat→SortSt→Prop} (hc:Cmp key N (kas_cmp prog w A κ it) s) (S:Ss κ it pend q st) (hq:InN N q) (hN:lo+nrem=N) (h1:1≤n) (hn:n≤nrem) (hf:FallR key q lo n)
    (h:∀ m q' st',Ss κ it pend q' st'→InN N q'→Fix key lo N q q'→1≤m→m≤nrem→SortedR key q' lo m→Q (some m) st'):wpS (model prog w) A E s (descL lo n nrem) Q st:=by
  unfold descL
  refine wpS_bind (wpS_lift (wpAny_rule ⟨rfl,?_⟩))
  dsimp only
  refine wpS_bind (wpS_mono (wpS_forRange
    (I:=fun (x:Nat) (c:Option (Option Nat) × Nat × Nat) (st':SortSt)=>c.1=none∧c.2.1=x∧∃ q',Ss κ it pend q' st'∧InN N q'∧Fix key lo N q q'∧FallR key q' lo c.2.1∧c.2.2+1≤c.2.1∧∀ i,c.2.1 - (c.2.2+1)≤i→i < c.2.1→KN key q' (lo+i)=KN key q' (lo+c.2.1 - 1))
    (Q:=fun (c:Option (Option Nat) × Nat × Nat) (st':SortSt)=>c.1=none∧n≤c.2.1∧c.2.1≤nrem∧∃ q',Ss κ it pend q' st'∧InN N q'∧Fix key lo N q q'∧FallR key q' lo c.2.1∧c.2.2+1≤c.2.1∧∀ i,c.2.1 - (c.2.2+1)≤i→i < c.2.1→KN key q' (lo+i)=KN key q' (lo+c.2.1 - 1)) ?step ?fin
      ⟨rfl,rfl,q,S,hq,Fix.refl _,hf,by dsimp only; omega,fun i a b=>by dsimp only at *; congr 1; omega⟩) ?post)
  case fin =>
    rintro ⟨c0,m,e⟩ st' ⟨e0,e1,r⟩
    dsimp only at *
    exact ⟨e0,by omega,by omega,r⟩
  case post =>
    rintro ⟨c0,m,e⟩ st' ⟨e0,b1,b2,q1,S1,hq1,hfix,hf1,he1,heq⟩
    dsimp only at *
    subst e0
    dsimp only
    have hsz:=hq1.size
    by_cases hneq:e > 0
    · rw [if_pos hneq]
      refine wpS_bind (wrev S1 fun st2 S2=>?_)
      have same:∀ k,KN key (kas_rev q1 (lo+m - (e+1)) (lo+m)) k=KN key q1 k:=KN_rev_equal (by omega) fun k hk1 hk2=>by
        have:=heq (k - lo) (by omega) (by omega)
        rwa [show lo+(k - lo)=k by omega] at this
      refine wtail3L hc S2 (hq1.rev _ _) hN (by omega) b2 (fun i j hij hj=>?_) fun m' q' st3 S3 hq3 hfix3 c1 c2 c3=>h m' q' st3 S3 hq3 (fun i hi=>?_) c1 c2 c3
      · rw [same,same]; exact hf1 i j hij hj
      · rw [hfix3 i hi,same]; exact hfix i hi
    · rw [if_neg hneq]
      exact wtail3L hc S1 hq1 hN (by omega) b2 hf1 fun m' q' st3 S3 hq3 hfix3 c1 c2 c3=>h m' q' st3 S3 hq3 (hfix.trans hfix3) c1 c2 c3
  case step =>
    rintro x ⟨c0,m,e⟩ st' hx1 hx2 ⟨e0,e1,q1,S1,hq1,hfix,hf1,he1,heq⟩
    dsimp only at *
    subst e0 e1
    have hsz:=hq1.size
    refine wpS_bind (wltAt hc S1 hq1 (by omega) (by omega) ?_)
    dsimp only
    cases hb:O.blt (KN key q1 (lo+m)) (KN key q1 (lo+m - 1)) with
    | true =>
      rw [if_pos rfl]
      by_cases hneq:e > 0
      · rw [if_pos hneq]
        refine wpS_bind (wrev S1 fun st2 S2=>?_)
        have same:∀ k,KN key (kas_rev q1 (lo+m - (e+1)) (lo+m)) k=KN key q1 k:=KN_rev_equal (by omega) fun k hk1 hk2=>by
          have:=heq (k - lo) (by omega) (by omega)
          rwa [show lo+(k - lo)=k by omega] at this
        refine wpS_pure ⟨rfl,rfl,_,S2,hq1.rev _ _,(fun i hi=>by rw [same]; exact hfix i hi),(fun i j hij hj=>?_),by dsimp only; omega,fun i a b=>by dsimp only at *; congr 1; omega⟩
        rw [same,same]
        exact hf1.snoc (by omega) (KeyOrd.kle_of_klt hb) i j hij hj
      · rw [if_neg hneq]
        exact wpS_pure ⟨rfl,rfl,q1,S1,hq1,hfix,hf1.snoc (by omega) (KeyOrd.kle_of_klt hb),by dsimp only; omega,fun i a b=>by dsimp only at *; congr 1; omega⟩
    | false =>
      rw [if_neg (by simp)]
      refine wpS_bind (wltAt hc S1 hq1 (by omega) (by omega) ?_)
      dsimp only
      cases hg:O.blt (KN key q1 (lo+m - 1)) (KN key q1 (lo+m)) with
      | true =>
        rw [if_pos rfl]
        exact wpS_pure ⟨rfl,hx1,by dsimp only; omega,q1,S1,hq1,hfix,hf1,he1,heq⟩
      | false =>
        rw [if_neg (by simp)]
        have heqx:KN key q1 (lo+m)=KN key q1 (lo+m - 1):=KeyOrd.kle_antisymm hg hb
        refine wpS_pure ⟨rfl,rfl,q1,S1,hq1,hfix,hf1.snoc (by omega) hg,by dsimp only; omega,fun i a b=>?_⟩
        dsimp only at *
        rw [show lo+(m+1) - 1=lo+m by omega]
        by_cases hix:i=m
        · subst hix; rfl
        · rw [heqx]; exact heq i (by omega) (by omega)
theorem wcountRun {lo nrem:Nat} {Q:Option Nat→SortSt→Prop} (hc:Cmp key N (kas_cmp prog w A κ it) s) (S:Ss κ it pend q st) (hq:InN N q) (hN:lo+nrem=N) (h1:1≤nrem)
    (h:∀ m q' st',Ss κ it pend q' st'→InN N q'→Fix key lo N q q'→1≤m→m≤nrem→SortedR key q' lo m→Q (some m) st'):wpS (model prog w) A E s (countRun' lo nrem) Q st:=by
  have hsz:=hq.size
  rw [countRunL_eq]
  refine wpS_bind (wpS_mono (wpS_forRange
    (I:=fun (x:Nat) (c:Option (Option Nat) × Nat) (st':SortSt)=>st'=st∧c.1=none∧c.2=x∧SortedR key q lo c.2)
    (Q:=fun (c:Option (Option Nat) × Nat) (st':SortSt)=>st'=st∧c.1=none∧1≤c.2∧c.2≤nrem∧SortedR key q lo c.2∧(c.2=nrem∨O.klt (KN key q (lo+c.2)) (KN key q (lo+c.2 - 1)))) ?step ?fin
      ⟨rfl,rfl,rfl,fun i j hij hj=>by dsimp only at hj; have:i=j:=(by omega); subst this; exact KeyOrd.kle_refl _⟩) ?post)
  case fin =>
    rintro ⟨c0,m⟩ st' ⟨rfl,e0,e1,i2⟩
    dsimp only at *
    exact ⟨rfl,e0,by omega,by omega,i2,.inl (by omega)⟩
  case step =>
    rintro x ⟨c0,m⟩ st' hx1 hx2 ⟨rfl,e0,e1,i2⟩
    dsimp only at *
    subst e0 e1
    refine wpS_bind (wltAt hc S hq (by omega) (by omega) ?_)
    dsimp only
    cases hb:O.blt (KN key q (lo+m)) (KN key q (lo+m - 1)) with
    | true =>
      rw [if_pos rfl]
      exact wpS_pure ⟨rfl,rfl,hx1,by dsimp only; omega,i2,.inr hb⟩
    | false =>
      rw [if_neg (by simp)]
      exact wpS_pure ⟨rfl,rfl,rfl,i2.snoc (by omega) hb⟩
  case post =>
    rintro ⟨c0,m⟩ st' ⟨rfl,e0,b1,b2,i2,hor⟩
    dsimp only at *
    subst e0
    dsimp only
    by_cases hnn:(m == nrem)=true
    · rw [if_pos hnn]
      exact wpS_pure (h m q _ S hq (Fix.refl _) b1 b2 i2)
    rw [if_neg hnn]
    have hlt:m < nrem:=by simp at hnn; omega
    have hd:O.klt (KN key q (lo+m)) (KN key q (lo+m - 1)):=hor.resolve_left (by omega)
    by_cases hm:m > 1
    · rw [if_pos hm]
      refine wpS_bind (wltAt hc S hq (by omega) (by omega) ?_)
      dsimp only
      cases hb:O.blt (KN key q lo) (KN key q (lo+m - 1)) with
      | true =>
        rw [if_pos rfl]
        exact wpS_pure (h m q _ S hq (Fix.refl _) b1 b2 i2)
      | false =>
        rw [if_neg (by simp)]
        refine wpS_bind (wrev S fun st2 S2=>?_)
        have alike:∀ k,lo≤k→k < lo+m→KN key q k=KN key q (lo+m - 1):=fun k k1 k2=>by
          have a1:=i2 0 (k - lo) (by omega) (by omega)
          have a2:=i2 (k - lo) (m - 1) (by omega) (by omega)
          rw [show lo+(k - lo)=k by omega] at a1 a2
          rw [show lo+(m - 1)=lo+m - 1 by omega] at a2
          rw [Nat.add_zero] at a1
          exact KeyOrd.kle_antisymm a2 (KeyOrd.kle_trans (show O.kle _ _ from hb) a1)
        have same:∀ k,KN key (kas_rev q lo (lo+m)) k=KN key q k:=KN_rev_equal (by omega) alike
        refine wdescL hc S2 (hq.rev _ _) hN (by omega) (by omega) (fun i j hij hj=>?_) fun m' q' st3 S3 hq3 hfix3 c1 c2 c3=>h m' q' st3 S3 hq3 (fun i hi=>by rw [hfix3 i hi,same]) c1 c2 c3
        rw [same,same]
        refine FallR.snoc (q:=q) (fun i j hij hj=>?_) b1 (KeyOrd.kle_of_klt hd) i j hij hj
        rw [alike _ (by omega) (by omega),alike (lo+i) (by omega) (by omega)]
        exact KeyOrd.kle_refl _
    · rw [if_neg hm]
      obtain rfl:m=1:=by omega
      refine wdescL hc S hq hN (by omega) (by omega) ?_ fun m' q' st3 S3 hq3 hfix3 c1 c2 c3=>h m' q' st3 S3 hq3 hfix3 c1 c2 c3
      refine FallR.snoc (fun i j hij hj=>?_) (Nat.le_refl 1) (KeyOrd.kle_of_klt hd)
      have:i=j:=by omega
      subst this; exact KeyOrd.kle_refl _
end
end SO
set_option Elab.async false
set_option linter.all false
set_option maxRecDepth 100000
set_option maxHeartbeats 2000000
namespace SO
open PySem PySem.W PyProof.Rows
section
variable {O:KeyOrd} {key:Nat→O.α} {N:Nat} {prog:Program} {w:World} {A:Around} {E:Value→Shared→Prop} {s:Shared} {κ:SortKind} {it:Array Keyed} {pend:Array (Nat × Nat × Nat)} {st:SortSt} {q:Array Nat}
theorem wbinary {lo n ok:Nat} {Q:Bool→SortSt→Prop} (hc:Cmp key N (kas_cmp prog w A κ it) s) (S:Ss κ it pend q st) (hq:InN N q) (hN:lo+n≤N) (h1:1≤ok) (hok:ok≤n) (hs:SortedR key q lo ok)
    (h:∀ q' st',Ss κ it pend q' st'→InN N q'→Fix key lo (lo+n) q q'→SortedR key q' lo n→Q true st'):wpS (model prog w) A E s (binarySort' lo n ok) Q st:=by
  rw [binarySort'_eq]
  refine wpS_bind (wpS_mono (wpS_forRange
    (I:=fun (k:Nat) (c:Option Bool × PUnit) (st':SortSt)=>c.1=none∧∃ q',Ss κ it pend q' st'∧InN N q'∧Fix key lo (lo+n) q q'∧SortedR key q' lo (min k n))
    (Q:=fun (c:Option Bool × PUnit) (st':SortSt)=>c.1=none∧∃ q',Ss κ it pend q' st'∧InN N q'∧Fix key lo (lo+n) q q'∧SortedR key q' lo n) ?step ?fin ⟨rfl,q,S,hq,Fix.refl _,by rw [show min (max ok 1) n=ok by omega]; exact hs⟩) ?post)
  case fin =>
    rintro ⟨c0,_⟩ st' ⟨e0,q',a,b,c,d⟩
    rw [show min (max (max ok 1) n) n=n by omega] at d
    exact ⟨e0,q',a,b,c,d⟩
  case post =>
    rintro ⟨c0,_⟩ st' ⟨e0,q',a,b,c,d⟩
    dsimp only at *
    subst e0
    exact wpS_pure (h q' st' a b c d)
  case step =>
    rintro k ⟨c0,_⟩ st' hk1 hk2 ⟨e0,q',S',hq',hfix,hso⟩
    dsimp only at *
    subst e0
    rw [show min k n=k by omega] at hso
    have hsz:=hq'.size
    refine wpS_bind (wpS_mono (wpS_forRange
      (I:=fun (x:Nat) (c:Option Bool × Nat × Nat) (st2:SortSt)=>st2=st'∧c.1=none∧c.2.1≤c.2.2∧c.2.2≤k∧c.2.2 - c.2.1+x≤k∧(∀ i,i < c.2.1→O.kle (KN key q' (lo+i)) (KN key q' (lo+k)))∧∀ i,c.2.2≤i→i < k→O.klt (KN key q' (lo+k)) (KN key q' (lo+i)))
      (Q:=fun (c:Option Bool × Nat × Nat) (st2:SortSt)=>st2=st'∧c.1=none∧c.2.1≤k∧(∀ i,i < c.2.1→O.kle (KN key q' (lo+i)) (KN key q' (lo+k)))∧∀ i,c.2.1≤i→i < k→O.klt (KN key q' (lo+k)) (KN key q' (lo+i))) ?step1 ?fin1
        ⟨rfl,rfl,Nat.zero_le _,Nat.le_refl _,by dsimp only; omega,(fun i hi=>absurd hi (Nat.not_lt_zero _)),fun i a b=>by dsimp only at *; omega⟩) ?post1)
    case fin1 =>
      rintro ⟨c0,l,r⟩ st2 ⟨rfl,e0,i1,i2,i3,i4,i5⟩
      dsimp only at *
      exact ⟨rfl,e0,by omega,i4,fun i a b=>i5 i (by omega) b⟩
    case step1 =>
      rintro x ⟨c0,l,r⟩ st2 _ hx ⟨rfl,e0,i1,i2,i3,i4,i5⟩
      dsimp only at *
      subst e0
      by_cases hlr:l ≥ r
      · rw [if_pos hlr]
        exact wpS_pure ⟨rfl,rfl,by dsimp only; omega,i4,fun i a b=>i5 i (by dsimp only at a; omega) b⟩
      · rw [if_neg hlr]
        refine wpS_bind (wltAt hc S' hq' (by omega) (by omega) ?_)
        dsimp only
        cases hb:O.blt (KN key q' (lo+k)) (KN key q' (lo+(l+r) / 2)) with
        | true =>
          rw [if_pos rfl]
          exact wpS_pure ⟨rfl,rfl,by dsimp only; omega,by dsimp only; omega,by dsimp only; omega,i4,fun i a b=>KeyOrd.klt_of_klt_of_kle hb (hso _ i a b)⟩
        | false =>
          rw [if_neg (by simp)]
          exact wpS_pure ⟨rfl,rfl,by dsimp only; omega,i2,by dsimp only; omega,(fun i hi=>KeyOrd.kle_trans (hso i _ (by dsimp only at hi; omega) (by omega)) hb),i5⟩
    case post1 =>
      rintro ⟨c0,l,r⟩ st2 ⟨rfl,e0,i1,i4,i5⟩
      dsimp only at *
      subst e0
      dsimp only
      refine wpS_bind (wmove S' fun st3 S3=>?_)
      have hb:∀ j,KN key (bubble q' (lo+k) (lo+k - (lo+l))) j=if j=lo+l then KN key q' (lo+k) else if lo+l < j∧j≤lo+k then KN key q' (j - 1) else KN key q' j:=fun j=>by
        rw [KN_bubble (by omega) (by omega),show lo+k - (lo+k - (lo+l))=lo+l by omega]
      refine wpS_pure ⟨rfl,_,S3,hq'.of (bubble_perm _ _ _),hfix.trans (fun j hj=>?_),fun i j hij hj=>?_⟩
      · rw [hb,if_neg (by omega),if_neg (by omega)]
      · rw [show min (k+1) n=k+1 by omega] at hj
        rw [hb,hb]
        by_cases c1:j=l
        · rw [if_pos (show lo+j=lo+l by omega)]
          by_cases c2:i=l
          · rw [if_pos (by omega)]; exact KeyOrd.kle_refl _
          · rw [if_neg (by omega),if_neg (by omega)]
            exact i4 i (by omega)
        · rw [if_neg (show ¬ lo+j=lo+l by omega)]
          by_cases c3:l < j
          · rw [if_pos (show lo+l < lo+j∧lo+j≤lo+k by omega),show lo+j - 1=lo+(j - 1) by omega]
            by_cases c2:i=l
            · rw [if_pos (by omega)]
              exact KeyOrd.kle_of_klt (i5 (j - 1) (by omega) (by omega))
            · rw [if_neg (by omega)]
              by_cases c4:l < i
              · rw [if_pos (by omega),show lo+i - 1=lo+(i - 1) by omega]
                exact hso _ _ (by omega) (by omega)
              · rw [if_neg (by omega)]
                exact hso _ _ (by omega) (by omega)
          · rw [if_neg (by omega),if_neg (by omega),if_neg (by omega)]
            exact hso _ _ hij (by omega)
end
section
variable {O:KeyOrd} {key:Nat→O.α} {N:Nat} {q:Array Nat}
theorem KN_list (i:Nat):KN key q i=key (q.toList.getD i 0):=by
  unfold KN
  rw [Array.getD_eq_getD_getElem?,List.getD_eq_getElem?_getD,Array.getElem?_toList]
theorem region_get {lo n i:Nat} (h:lo+n≤q.size) (hi:i < n):((q.toList.drop lo).take n).getD i 0=q.toList.getD (lo+i) 0:=by
  rw [List.getD_eq_getElem?_getD,List.getD_eq_getElem?_getD,List.getElem?_take,if_pos hi,List.getElem?_drop]
theorem region_len {lo n:Nat} (h:lo+n≤q.size):((q.toList.drop lo).take n).length=n:=by
  rw [List.length_take,List.length_drop,Array.length_toList]; omega
theorem up_of_R {lo n:Nat} (h:SortedR key q lo n) (hz:lo+n≤q.size):Up key ((q.toList.drop lo).take n):=by
  rw [Up,List.pairwise_iff_getElem]
  intro i j hi hj hij
  rw [region_len hz] at hi hj
  have:=h i j (by omega) hj
  rw [KN_list,KN_list,← region_get hz hi,← region_get hz hj,getD_of (by rw [region_len hz]; exact hi),getD_of (by rw [region_len hz]; exact hj)] at this
  exact this
theorem R_of_up {lo n:Nat} (h:Up key ((q.toList.drop lo).take n)) (hz:lo+n≤q.size):SortedR key q lo n:=fun i j hij hj=>by
  have:=up_le h hij (by rw [region_len hz]; exact hj)
  rw [region_get hz (by omega),region_get hz hj] at this
  rw [KN_list,KN_list]
  exact this
theorem splice {α:Type}:∀ (l:List α) (a:Array α) (i k:Nat),i+k+l.length≤a.size→((l.zipIdx k).foldl (fun a (x:α × Nat)=>a.setIfInBounds (i+x.2) x.1) a).toList=a.toList.take (i+k)++l++a.toList.drop (i+k+l.length)
  | [],a,i,k,h=>by simp
  | x :: l,a,i,k,h=>by
    rw [List.zipIdx_cons,List.foldl_cons,splice l _ i (k+1) (by simp at h ⊢; omega)]
    have hlt:i+k < a.toList.length:=by simp at h ⊢; omega
    rw [Array.toList_setIfInBounds,show i+(k+1)=i+k+1 by omega,List.length_cons,show i+k+(l.length+1)=i+k+1+l.length by omega]
    have e1:(a.toList.set (i+k) x).take (i+k+1)=a.toList.take (i+k)++[x]:=by
      rw [List.take_add_one,List.take_set_of_le (Nat.le_refl _),List.getElem?_set_self hlt]
      rfl
    rw [e1,List.drop_set_of_lt (by omega)]
    simp
end
end SO
set_option Elab.async false
set_option linter.all false
set_option maxRecDepth 100000
set_option maxHeartbeats 2000000
namespace SO
open PySem PySem.W PyProof.Rows
theorem mergeAt'_eq (i:Nat):mergeAt' i=(do
  let s ← get
  let (some (sa,na,power),some (sb,nb,_)):=((pendingOf s)[i]?,(pendingOf s)[i+1]?) | unsupported "internal:list.sort.pending"
  set (SortSt.mk' (kindOf s) (arrOf s) (((pendingOf s).setIfInBounds i (sa,na+nb,power)).eraseIdxIfInBounds (i+1)) (gallopOf s) (failedOf s))
  let some k ← gallop' false (← elem' (arrOf s) sb) (arrOf s) sa na 0 | return false
  let (sa,na):=(sa+k,na - k)
  if na == 0 then return true
  let some nb ← gallop' true (← elem' (arrOf s) (sa+na - 1)) (arrOf s) sb nb (nb - 1) | return false
  if nb == 0 then return true
  let x:=(arrOf s).extract sa sb
  let y:=(arrOf s).extract sb (sb+nb)
  let merged ← if na≤nb then mergeLo' x y else mergeHi' x y
  modify fun s=>setArr s (merged.toList.zipIdx.foldl (fun a (p,j)=>a.setIfInBounds (sa+j) p) (arrOf s))
  return (failedOf (← get)).isNone):=rfl
section
variable {O:KeyOrd} {key:Nat→O.α} {N:Nat} {prog:Program} {w:World} {A:Around} {E:Value→Shared→Prop} {s:Shared} {κ:SortKind} {it:Array Keyed} {pend:Array (Nat × Nat × Nat)} {st:SortSt} {q:Array Nat}
theorem wset {st0:SortSt} {Q:PUnit→SortSt→Prop} (h:Q ⟨⟩ st0):wpS (model prog w) A E s (set st0:StateT SortSt Sem PUnit) Q st:=by
  unfold wpS; rw [StateT.run_set]; exact wpAny_pure ⟨rfl,h⟩
theorem wgalR {left:Bool} {k base n hint:Nat} {Q:Option Nat→SortSt→Prop} (hc:Cmp key N (kas_cmp prog w A κ it) s) (hq:InN N q) (hk:k < N) (hκ:kindOf st=κ) (hn:base+n≤N) (hh:hint < n) (hup:SortedR key q base n)
    (h:∀ r,r≤n→(∀ j,j < r→if left then O.klt (KN key q (base+j)) (key k) else O.kle (KN key q (base+j)) (key k))→(∀ j,r≤j→j < n→if left then O.kle (key k) (KN key q (base+j)) else O.klt (key k) (KN key q (base+j)))→Q (some r) st) :
    wpS (model prog w) A E s (gallop' left (kas_item it k) (q.map (kas_item it)) base n hint) Q st:=by
  refine wgallop hc (fun i hi=>hq.lt (by rw [← hq.size]; exact hi)) hk hκ (by rw [hq.size]; exact hn) hh (fun i j hij hj hb=>?_) fun r hr h1 h2=>h r hr (fun j hj=>?_) fun j hj hjn=>?_
  · have:=hup i j hij hj
    unfold Bey at hb ⊢
    cases left with
    | true =>
      rw [if_pos rfl] at hb ⊢
      exact KeyOrd.klt_of_kle_of_klt this hb
    | false =>
      rw [if_neg (by simp)] at hb ⊢
      have hb':O.kle (KN key q (base+j)) (key k):=by unfold KeyOrd.kle KN; simpa using hb
      have:=KeyOrd.kle_trans this hb'
      unfold KeyOrd.kle KN at this
      rw [this]
      rfl
  · have hb:=h1 j hj
    unfold Bey at hb
    cases left with
    | true=>rw [if_pos rfl] at hb ⊢; exact hb
    | false=>rw [if_neg (by simp)] at hb ⊢; unfold KeyOrd.kle KN; simpa using hb
  · have hb:=h2 j hj hjn
    unfold Bey at hb
    cases left with
    | true=>rw [if_pos rfl] at hb ⊢; exact hb
    | false=>rw [if_neg (by simp)] at hb ⊢; unfold KeyOrd.klt KN; simpa using hb
theorem arr_toList (q:Array Nat):q.map (kas_item it)=arr it q.toList:=by simp [arr]
theorem mem_region {lo n x:Nat} (h:x∈(q.toList.drop lo).take n):∃ j,j < n∧lo+j < q.size∧key x=KN key q (lo+j):=by
  obtain ⟨j,h1,h2,e⟩:=mem_part h
  exact ⟨j,h1,by simpa using h2,by rw [KN_list,← e]⟩
theorem wmergeAt {i sa na pw sb nb pw2:Nat} {Q:Bool→SortSt→Prop} (hc:Cmp key N (kas_cmp prog w A κ it) s) (S:Ss κ it pend q st) (hq:InN N q) (hp1:pend[i]?=some (sa,na,pw)) (hp2:pend[i+1]?=some (sb,nb,pw2)) (hsb:sb=sa+na) (h1:1≤na) (h2:1≤nb) (hz:sb+nb≤N)
    (sA:SortedR key q sa na) (sB:SortedR key q sb nb)
    (h:∀ q' st',Ss κ it ((pend.setIfInBounds i (sa,na+nb,pw)).eraseIdxIfInBounds (i+1)) q' st'→InN N q'→Fix key sa (sa+(na+nb)) q q'→SortedR key q' sa (na+nb)→Q true st') :
    wpS (model prog w) A E s (mergeAt' i) Q st:=by
  have hsz:=hq.size
  rw [mergeAt'_eq]
  refine wpS_bind (wpS_get ?_)
  rw [S.pend,hp1,hp2]
  dsimp only
  refine wpS_bind (wset ?_)
  have S1:Ss κ it ((pend.setIfInBounds i (sa,na+nb,pw)).eraseIdxIfInBounds (i+1)) q (SortSt.mk' (kindOf st) (arrOf st) ((pend.setIfInBounds i (sa,na+nb,pw)).eraseIdxIfInBounds (i+1)) (gallopOf st) (failedOf st)):=⟨S.kind,S.arr,rfl,S.failed⟩
  rw [S.arr]
  rw [S.arr] at S1
  generalize SortSt.mk' (kindOf st) (q.map (kas_item it)) ((pend.setIfInBounds i (sa,na+nb,pw)).eraseIdxIfInBounds (i+1)) (gallopOf st) (failedOf st)=st1 at S1
  generalize (pend.setIfInBounds i (sa,na+nb,pw)).eraseIdxIfInBounds (i+1)=pend1 at S1 h
  have join:(∀ i j,i < na→j < nb→O.kle (KN key q (sa+i)) (KN key q (sb+j)))→SortedR key q sa (na+nb):=fun hab i j hij hj=>by
    by_cases hj':j < na
    · exact sA i j hij hj'
    · by_cases hi':i < na
      · have:=hab i (j - na) hi' (by omega)
        rwa [show sb+(j - na)=sa+j by omega] at this
      · have:=sB (i - na) (j - na) (by omega) (by omega)
        rwa [show sb+(i - na)=sa+i by omega,show sb+(j - na)=sa+j by omega] at this
  have kb0:key (q.getD sb 0)=KN key q (sb+0):=rfl
  refine wpS_bind (welem (by omega) (wpS_bind (wgalR hc hq (hq.lt (by omega)) S1.kind (by omega) (by omega) sA fun k hk1 hk2 hk3=>?_)))
  dsimp only
  have a1:∀ j,j < k→O.kle (KN key q (sa+j)) (KN key q sb):=fun j hj=>hk2 j hj
  have a2:∀ j,k≤j→j < na→O.klt (KN key q sb) (KN key q (sa+j)):=fun j hj hjn=>hk3 j hj hjn
  have b0:∀ j,j < nb→O.kle (KN key q sb) (KN key q (sb+j)):=fun j hj=>by
    have:=sB 0 j (Nat.zero_le _) hj
    rwa [Nat.add_zero] at this
  by_cases hz1:(na - k == 0)=true
  · rw [if_pos hz1]
    have hk:k=na:=by simp at hz1; omega
    exact wpS_pure (h q st1 S1 hq (Fix.refl _) (join fun i j hi hj=>KeyOrd.kle_trans (a1 i (by omega)) (b0 j hj)))
  rw [if_neg hz1]
  have hkn:k < na:=by simp at hz1; omega
  refine wpS_bind (welem (by omega) (wpS_bind (wgalR hc hq (hq.lt (by omega)) S1.kind (by omega) (by omega) sB fun m hm1 hm2 hm3=>?_)))
  dsimp only
  have el:sa+k+(na - k) - 1=sa+(na - 1):=by omega
  have c1:∀ j,j < m→O.klt (KN key q (sb+j)) (KN key q (sa+(na - 1))):=fun j hj=>by
    have:=hm2 j hj
    rw [el] at this
    exact this
  have c2:∀ j,m≤j→j < nb→O.kle (KN key q (sa+(na - 1))) (KN key q (sb+j)):=fun j hj hjn=>by
    have:=hm3 j hj hjn
    rw [el] at this
    exact this
  have aL:∀ i,i < na→O.kle (KN key q (sa+i)) (KN key q (sa+(na - 1))):=fun i hi=>sA i (na - 1) (by omega) (by omega)
  by_cases hz2:(m == 0)=true
  · rw [if_pos hz2]
    have hm:m=0:=by simpa using hz2
    exact wpS_pure (h q st1 S1 hq (Fix.refl _) (join fun i j hi hj=>KeyOrd.kle_trans (aL i hi) (c2 j (by omega) hj)))
  rw [if_neg hz2]
  have hm0:0 < m:=by simp at hz2; omega
  have eA:(q.map (kas_item it)).extract (sa+k) sb=arr it ((q.toList.drop (sa+k)).take (na - k)):=by
    have:=arr_part (it:=it) q.toList (sa+k) (na - k) (by simp; omega)
    rw [show sa+k+(na - k)=sb by omega] at this
    rw [arr_toList]; exact this
  have eB:(q.map (kas_item it)).extract sb (sb+m)=arr it ((q.toList.drop sb).take m):=by
    rw [arr_toList]; exact arr_part q.toList sb m (by simp; omega)
  rw [eA,eB]
  have lA:((q.toList.drop (sa+k)).take (na - k)).length=na - k:=region_len (by omega)
  have lB:((q.toList.drop sb).take m).length=m:=region_len (by omega)
  have inQ:∀ x∈q.toList,x < N:=fun x hx=>List.mem_range.mp (hq.mem_iff.mp hx)
  have hA:∀ x∈(q.toList.drop (sa+k)).take (na - k),x < N:=fun x hx=>inQ x (List.mem_of_mem_drop (List.mem_of_mem_take hx))
  have hB:∀ x∈(q.toList.drop sb).take m,x < N:=fun x hx=>inQ x (List.mem_of_mem_drop (List.mem_of_mem_take hx))
  have uA:Up key ((q.toList.drop (sa+k)).take (na - k)):=up_of_R (fun i j hij hj=>by
    have:=sA (k+i) (k+j) (by omega) (by omega)
    rwa [← Nat.add_assoc,← Nat.add_assoc] at this) (by omega)
  have uB:Up key ((q.toList.drop sb).take m):=up_of_R (fun i j hij hj=>sB i j hij (by omega)) (by omega)
  have g0:key (((q.toList.drop sb).take m).getD 0 0)=KN key q sb:=by rw [region_get (by omega) hm0,KN_list,Nat.add_zero]
  have first:∀ x∈(q.toList.drop (sa+k)).take (na - k),O.klt (key (((q.toList.drop sb).take m).getD 0 0)) (key x):=fun x hx=>by
    obtain ⟨j,hj,_,e⟩:=mem_region (key:=key) hx
    rw [g0,e,Nat.add_assoc]
    exact a2 (k+j) (by omega) (by omega)
  have last:∀ y∈(q.toList.drop sb).take m,O.klt (key y) (key (((q.toList.drop (sa+k)).take (na - k)).getD (((q.toList.drop (sa+k)).take (na - k)).length - 1) 0)):=fun y hy=>by
    obtain ⟨j,hj,_,e⟩:=mem_region (key:=key) hy
    rw [lA,region_get (by omega) (by omega),e,← KN_list (key:=key) (q:=q),show sa+k+(na - k - 1)=sa+(na - 1) by omega]
    exact c1 j hj
  have fin:∀ r st2,Stay st1 st2→Merged key it ((q.toList.drop (sa+k)).take (na - k)) ((q.toList.drop sb).take m) r →
      wpS (model prog w) A E s (do
        modify fun s=>setArr s (r.toList.zipIdx.foldl (fun a (x:Keyed × Nat)=>a.setIfInBounds (sa+k+x.2) x.1) (arrOf s))
        return (failedOf (← get)).isNone) Q st2:=by
    intro r st2 hst ⟨l,er,hl,ul⟩
    subst er
    refine wpS_bind (wpS_modify ?_)
    refine wpS_bind (wpS_get ?_)
    have hf:(failedOf (setArr st2 ((arr it l).toList.zipIdx.foldl (fun a (x:Keyed × Nat)=>a.setIfInBounds (sa+k+x.2) x.1) (arrOf st2)))).isNone=true:=by
      show (failedOf st2).isNone=true
      rw [hst.2.2.2,S1.failed]; rfl
    rw [hf]
    have hll:l.length=na - k+m:=by rw [hl.length_eq,List.length_append,lA,lB]
    have hQl:q.toList.length=N:=by simpa using hsz
    have hap:(q.toList.drop (sa+k)).take (na - k)++(q.toList.drop sb).take m=(q.toList.drop (sa+k)).take (na - k+m):=by
      rw [List.take_add,List.drop_drop,show sa+k+(na - k)=sb by omega]
    have hnew:arrOf (setArr st2 ((arr it l).toList.zipIdx.foldl (fun a (x:Keyed × Nat)=>a.setIfInBounds (sa+k+x.2) x.1) (arrOf st2)))=(q.toList.take (sa+k)++l++q.toList.drop (sa+k+l.length)).toArray.map (kas_item it):=by
      show (arr it l).toList.zipIdx.foldl (fun a (x:Keyed × Nat)=>a.setIfInBounds (sa+k+x.2) x.1) (arrOf st2)=_
      rw [hst.2.1,S1.arr]
      apply Array.toList_inj.mp
      rw [splice _ _ _ 0 (by simp [hll]; omega)]
      simp [List.map_take,List.map_drop]
    have hperm:(q.toList.take (sa+k)++l++q.toList.drop (sa+k+l.length)).Perm q.toList:=by
      have e:q.toList=q.toList.take (sa+k)++((q.toList.drop (sa+k)).take (na - k+m)++q.toList.drop (sa+k+l.length)):=by
        rw [hll,← drop_split q.toList (sa+k) (na - k+m),List.take_append_drop]
      rw [List.append_assoc]
      refine List.Perm.trans (List.Perm.append_left _ (List.Perm.append_right _ ?_)) (List.Perm.of_eq e.symm)
      rw [← hap]; exact hl
    refine wpS_pure (h _ _ ⟨hst.1.trans S1.kind,hnew,hst.2.2.1.trans S1.pend,hst.2.2.2.trans S1.failed⟩ (show List.Perm _ _ from hperm.trans hq) (fun i hi=>?_) ?_)
    · rw [KN_list,KN_list]
      congr 1
      rw [List.getD_eq_getElem?_getD,List.getD_eq_getElem?_getD]
      congr 1
      show (q.toList.take (sa+k)++l++q.toList.drop (sa+k+l.length))[i]?=_
      have lt:(q.toList.take (sa+k)).length=sa+k:=by rw [List.length_take,hQl]; omega
      rcases hi with hi | hi
      · rw [List.append_assoc,List.getElem?_append_left (by omega),List.getElem?_take,if_pos (by omega)]
      · rw [List.getElem?_append_right (by rw [List.length_append]; omega),List.getElem?_drop]
        congr 1
        rw [List.length_append]; omega
    · have hsz':(q.toList.take (sa+k)++l++q.toList.drop (sa+k+l.length)).toArray.size=N:=by rw [List.size_toArray,hperm.length_eq,hQl]
      refine R_of_up ?_ (by rw [hsz']; omega)
      have ereg:((q.toList.take (sa+k)++l++q.toList.drop (sa+k+l.length)).toArray.toList.drop sa).take (na+nb)=(q.toList.drop sa).take k++l++(q.toList.drop (sb+m)).take (nb - m):=by
        show (((q.toList.take (sa+k)++l++q.toList.drop (sa+k+l.length))).drop sa).take (na+nb)=_
        have lt:(q.toList.take (sa+k)).length=sa+k:=by rw [List.length_take,hQl]; omega
        rw [List.append_assoc,List.drop_append_of_le_length (by omega),List.drop_take,show sa+k - sa=k by omega]
        have l1:((q.toList.drop sa).take k).length=k:=region_len (by omega)
        have t1:∀ X:List Nat,((q.toList.drop sa).take k++X).take (na+nb)=(q.toList.drop sa).take k++X.take (na+nb - k):=fun X=>by
          rw [List.take_append,l1,List.take_of_length_le (l:=(q.toList.drop sa).take k) (by rw [l1]; omega)]
        have t2:∀ X:List Nat,(l++X).take (na+nb - k)=l++X.take (nb - m):=fun X=>by
          rw [List.take_append,List.take_of_length_le (l:=l) (by omega),hll,show na+nb - k - (na - k+m)=nb - m by omega]
        rw [t1,t2,hll,show sa+k+(na - k+m)=sb+m by omega,List.append_assoc]
      rw [ereg]
      have u1:Up key ((q.toList.drop sa).take k):=up_of_R (fun i j hij hj=>sA i j hij (by omega)) (by omega)
      have u3:Up key ((q.toList.drop (sb+m)).take (nb - m)):=up_of_R (fun i j hij hj=>by
        have:=sB (m+i) (m+j) (by omega) (by omega)
        rwa [← Nat.add_assoc,← Nat.add_assoc] at this) (by omega)
      have of3:∀ y∈(q.toList.drop (sb+m)).take (nb - m),∃ j,m≤j∧j < nb∧key y=KN key q (sb+j):=fun y hy=>by
        obtain ⟨j,hj,_,e⟩:=mem_region (key:=key) hy
        exact ⟨m+j,by omega,by omega,by rw [e,Nat.add_assoc]⟩
      have of1:∀ x∈(q.toList.drop sa).take k,∃ i,i < k∧key x=KN key q (sa+i):=fun x hx=>by
        obtain ⟨i,hi,_,e⟩:=mem_region (key:=key) hx
        exact ⟨i,hi,e⟩
      have ofl:∀ x∈l,(∃ i,k≤i∧i < na∧key x=KN key q (sa+i))∨∃ j,j < m∧key x=KN key q (sb+j):=fun x hx=>by
        rcases List.mem_append.mp (hl.mem_iff.mp hx) with z | z
        · obtain ⟨i,hi,_,e⟩:=mem_region (key:=key) z
          exact .inl ⟨k+i,by omega,by omega,by rw [e,Nat.add_assoc]⟩
        · obtain ⟨j,hj,_,e⟩:=mem_region (key:=key) z
          exact .inr ⟨j,hj,e⟩
      refine List.pairwise_append.mpr ⟨List.pairwise_append.mpr ⟨u1,ul,fun x hx y hy=>?_⟩,u3,fun x hx y hy=>?_⟩
      · obtain ⟨i,hi,ex⟩:=of1 x hx
        rw [ex]
        rcases ofl y hy with ⟨j,hj1,hj2,ey⟩ | ⟨j,hj,ey⟩
        · rw [ey]; exact sA i j (by omega) hj2
        · rw [ey]; exact KeyOrd.kle_trans (a1 i hi) (b0 j (by omega))
      · obtain ⟨j,hj1,hj2,ey⟩:=of3 y hy
        rw [ey]
        rcases List.mem_append.mp hx with z | z
        · obtain ⟨i,hi,ex⟩:=of1 x z
          rw [ex]; exact KeyOrd.kle_trans (a1 i hi) (b0 j hj2)
        · rcases ofl x z with ⟨i,hi1,hi2,ex⟩ | ⟨i,hi,ex⟩
          · rw [ex]; exact KeyOrd.kle_trans (aL i hi2) (c2 j hj1 hj2)
          · rw [ex]; exact sB i j (by omega) hj2
  by_cases hle:na - k≤m
  · rw [if_pos hle]
    refine wpS_bind (wmergeLo hc hA hB S1.kind uA uB (by omega) (by omega) ?_ last fun r st2 hst hm=>fin r st2 hst hm)
    refine first _ ?_
    rw [getD_of (by omega)]
    exact List.getElem_mem _
  · rw [if_neg hle]
    exact wpS_bind (wmergeHi hc hA hB S1.kind uA uB (by omega) (by omega) first last fun r st2 hst hm=>fin r st2 hst hm)
end
end SO
set_option Elab.async false
set_option linter.all false
set_option maxRecDepth 100000
set_option maxHeartbeats 2000000
namespace SO
open PySem PySem.W PyProof.Rows
noncomputable abbrev pr (t:Nat × Nat × Nat):Nat × Nat:=(t.1,t.2.1)
noncomputable def Chain:Nat→List (Nat × Nat)→Nat→Prop
  | a,[],b=>a=b
  | a,t :: r,b=>t.1=a∧1≤t.2∧Chain (a+t.2) r b
theorem Chain.append:∀ {a b:Nat} {P S:List (Nat × Nat)},Chain a (P++S) b↔∃ c,Chain a P c∧Chain c S b
  | a,b,[],S=>⟨fun h=>⟨a,rfl,h⟩,fun ⟨c,e,h⟩=>by have e:a=c:=e; subst e; exact h⟩
  | a,b,t :: P,S=>by
    constructor
    · rintro ⟨h1,h2,h3⟩
      obtain ⟨c,h4,h5⟩:=Chain.append.mp h3
      exact ⟨c,⟨h1,h2,h4⟩,h5⟩
    · rintro ⟨c,⟨h1,h2,h4⟩,h5⟩
      exact ⟨h1,h2,Chain.append.mpr ⟨c,h4,h5⟩⟩
theorem Chain.le:∀ {a b:Nat} {P:List (Nat × Nat)},Chain a P b→a+P.length≤b∧∀ t∈P,a≤t.1∧t.1+t.2≤b
  | a,b,[],h=>by have h:a=b:=h; subst h; exact ⟨Nat.le_refl _,fun t ht=>by cases ht⟩
  | a,b,t :: P,⟨h1,h2,h3⟩=>by
    obtain ⟨g1,g2⟩:=Chain.le h3
    refine ⟨by rw [List.length_cons]; omega,fun u hu=>?_⟩
    rcases List.mem_cons.mp hu with rfl | hu
    · omega
    · have:=g2 u hu
      omega
section
variable {O:KeyOrd} {key:Nat→O.α} {N:Nat} {prog:Program} {w:World} {A:Around} {E:Value→Shared→Prop} {s:Shared} {κ:SortKind} {it:Array Keyed} {pend:Array (Nat × Nat × Nat)} {st:SortSt} {q:Array Nat}
structure Rn (key:Nat→O.α) (N:Nat) (κ:SortKind) (it:Array Keyed) (pend:Array (Nat × Nat × Nat)) (q:Array Nat) (st:SortSt) (lo:Nat):Prop where
  S:Ss κ it pend q st
  hq:InN N q
  ch:Chain 0 (pend.toList.map pr) lo
  up:∀ t∈pend.toList.map pr,SortedR key q t.1 t.2
theorem wmergeRn {i lo:Nat} {Q:Bool→SortSt→Prop} (hc:Cmp key N (kas_cmp prog w A κ it) s) (R:Rn key N κ it pend q st lo) (hlo:lo≤N) (hi:i+1 < pend.size) (h:∀ pend' q' st',Rn key N κ it pend' q' st' lo→pend'.size+1=pend.size→Fix key 0 lo q q'→Q true st') :
    wpS (model prog w) A E s (mergeAt' i) Q st:=by
  have hl:pend.toList.length=pend.size:=by simp
  obtain ⟨P,t,u,S',hP,e⟩:∃ P t u S',P.length=i∧pend.toList=P++t :: u :: S':=by
    refine ⟨pend.toList.take i,pend.toList[i],pend.toList[i+1],pend.toList.drop (i+2),by rw [List.length_take]; omega,?_⟩
    rw [← List.drop_eq_getElem_cons (by omega),← List.drop_eq_getElem_cons (by omega),List.take_append_drop]
  have hch:=R.ch
  rw [e,List.map_append,List.map_cons,List.map_cons] at hch
  obtain ⟨c,c1,c2,c3,c4,c5,c6⟩:=Chain.append.mp hch
  obtain ⟨sa,na,pw⟩:=t
  obtain ⟨sb,nb,pw2⟩:=u
  dsimp only [pr] at c2 c3 c4 c5 c6
  have l6:=Chain.le c6
  have l1:=Chain.le c1
  have g1:pend[i]?=some (sa,na,pw):=by
    rw [← Array.getElem?_toList,e,← hP,List.getElem?_append_right (Nat.le_refl _)]; simp
  have g2:pend[i+1]?=some (sb,nb,pw2):=by
    rw [← Array.getElem?_toList,e,← hP,List.getElem?_append_right (by omega)]; simp
  have up1:=R.up (sa,na) (by rw [e]; simp [pr])
  have up2:=R.up (sb,nb) (by rw [e]; simp [pr])
  refine wmergeAt hc R.S R.hq g1 g2 (by omega) c3 c5 (by omega) up1 up2 fun q' st' S2 hq2 hfix hso=>?_
  have e2:((pend.setIfInBounds i (sa,na+nb,pw)).eraseIdxIfInBounds (i+1)).toList=P++(sa,na+nb,pw) :: S':=by
    rw [Array.toList_eraseIdxIfInBounds,Array.toList_setIfInBounds,e,← hP,List.set_append_right _ _ (Nat.le_refl _),List.eraseIdx_append_of_length_le (by omega)]
    simp
  refine h _ q' st' ⟨S2,hq2,?_,fun v hv=>?_⟩ ?_ fun j hj=>hfix j (by omega)
  · rw [e2,List.map_append,List.map_cons]
    refine Chain.append.mpr ⟨c,c1,c2,by dsimp only [pr]; omega,?_⟩
    dsimp only [pr]
    rw [show c+(na+nb)=c+na+nb by omega]
    exact c6
  · rw [e2,List.map_append,List.map_cons] at hv
    rcases List.mem_append.mp hv with hv | hv
    · have b:=l1.2 v hv
      intro x y hxy hy
      rw [hfix _ (by omega),hfix _ (by omega)]
      exact R.up v (by rw [e,List.map_append]; exact List.mem_append_left _ hv) x y hxy hy
    · rcases List.mem_cons.mp hv with rfl | hv
      · exact hso
      · have b:=l6.2 v hv
        intro x y hxy hy
        rw [hfix _ (by omega),hfix _ (by omega)]
        exact R.up v (by rw [e,List.map_append]; exact List.mem_append_right _ (List.mem_cons_of_mem _ (List.mem_cons_of_mem _ hv))) x y hxy hy
  · have h3:=congrArg List.length e2
    have h0:=congrArg List.length e
    rw [Array.length_toList] at h3 h0
    simp only [List.length_append,List.length_cons] at h3 h0
    omega
theorem mod_pr (p:Array (Nat × Nat × Nat)) (i g:Nat):(p.modify i fun x=>(x.1,x.2.1,g)).toList.map pr=p.toList.map pr:=by
  apply List.ext_getElem?
  intro k
  rw [List.getElem?_map,List.getElem?_map,Array.getElem?_toList,Array.getElem?_toList,Array.getElem?_modify]
  split
  · rw [Option.map_map]; rfl
  · rfl
theorem wruns {Q:Unit→SortSt→Prop} (hc:Cmp key N (kas_cmp prog w A κ it) s) (S:Ss κ it #[] q st) (hq:InN N q) (h2:2≤N)
    (h:∀ q' st',arrOf st'=q'.map (kas_item it)→failedOf st'=none→InN N q'→SortedN key q' N→Q () st'):wpS (model prog w) A E s sortRuns' Q st:=by
  have hsz:(arrOf st).size=N:=by rw [S.arr,Array.size_map,hq.size]
  rw [sortRuns'_eq]
  refine wpS_bind (wpS_get ?_)
  dsimp only
  rw [hsz]
  refine wpS_bind (wpS_mono (wpS_forRange
    (I:=fun (x:Nat) (c:Option Unit × Nat) (st':SortSt)=>c.1=none∧∃ pend' q',Rn key N κ it pend' q' st' c.2∧c.2≤N∧x≤c.2)
    (Q:=fun (c:Option Unit × Nat) (st':SortSt)=>c.1=none∧∃ pend' q',Rn key N κ it pend' q' st' N) ?step ?fin ⟨rfl,#[],q,⟨S,hq,rfl,fun t ht=>by cases ht⟩,Nat.zero_le _,Nat.zero_le _⟩) ?post)
  case fin =>
    rintro ⟨c0,lo⟩ st' ⟨e0,pend',q',R,b1,b2⟩
    dsimp only at *
    obtain rfl:lo=N:=by omega
    exact ⟨e0,pend',q',R⟩
  case step =>
    rintro x ⟨c0,lo⟩ st0 _ hx ⟨e0,pend0,q0,R0,b1,b2⟩
    dsimp only at *
    subst e0
    by_cases hlo:lo ≥ N
    · rw [if_pos hlo]
      obtain rfl:lo=N:=by omega
      exact wpS_pure ⟨rfl,pend0,q0,R0⟩
    rw [if_neg hlo]
    refine wpS_bind (wcountRun hc R0.S R0.hq (by omega) (by omega) fun m q2 st2 S2 hq2 hfix2 m1 m2 hm=>?_)
    dsimp only
    have keep:∀ {q2 q3:Array Nat} {hi:Nat},(∀ t∈pend0.toList.map pr,SortedR key q2 t.1 t.2)→Fix key lo hi q2 q3→∀ t∈pend0.toList.map pr,SortedR key q3 t.1 t.2:=fun {q2 q3 hi} hu hf t ht i j hij hj=>by
      have:=(Chain.le R0.ch).2 t ht
      rw [hf _ (by omega),hf _ (by omega)]
      exact hu t ht i j hij hj
    have u2:=keep R0.up hfix2
    by_cases hmr:m < minRun' N N 0
    · rw [if_pos hmr]
      refine wpS_bind (wpS_lift (wpAny_rule ⟨rfl,?_⟩))
      refine wpS_bind (wbinary hc S2 hq2 (by omega) m1 (by omega) hm fun q1 st1 S1 hq1 hfix1 hs1=>?_)
      rw [if_neg (by simp)]
      have R1:Rn key N κ it pend0 q1 st1 lo:=⟨S1,hq1,R0.ch,keep u2 hfix1⟩
      have hn1:1≤min (N - lo) (minRun' N N 0):=by omega
      have hn2:lo+min (N - lo) (minRun' N N 0)≤N:=by omega
      generalize min (N - lo) (minRun' N N 0)=n at hs1 hn1 hn2 ⊢
      generalize pend0=pend1 at R1
      refine wpS_bind (wpS_get ?_)
      rw [R1.S.pend]
      have fin:∀ pend2 q2 st2,Rn key N κ it pend2 q2 st2 lo→SortedR key q2 lo n→∃ pend' q',Rn key N κ it pend' q' (setPending st2 ((pendingOf st2).push (lo,n,0))) (lo+n):=fun pend2 q2 st2 R2 hs2=>by
        refine ⟨pend2.push (lo,n,0),q2,⟨R2.S.kind,R2.S.arr,by show (pendingOf st2).push _=_; rw [R2.S.pend],R2.S.failed⟩,R2.hq,?_,fun t ht=>?_⟩
        · rw [Array.toList_push,List.map_append]
          exact Chain.append.mpr ⟨lo,R2.ch,rfl,hn1,rfl⟩
        · rw [Array.toList_push,List.map_append] at ht
          rcases List.mem_append.mp ht with ht | ht
          · exact R2.up t ht
          · rw [List.mem_singleton.mp ht]; exact hs2
      cases hb:pend1.back? with
      | none =>
        dsimp only
        refine wpS_bind (wpS_modify (wpS_pure ?_))
        obtain ⟨pend',q',R'⟩:=fin pend1 q1 _ R1 hs1
        exact ⟨rfl,pend',q',R',by dsimp only; omega,by dsimp only; omega⟩
      | some t =>
        obtain ⟨s1,n1,p1⟩:=t
        dsimp only
        refine wpS_bind (wpS_mono (wpS_forRange
          (I:=fun (_:Nat) (c:Option Unit × PUnit) (st':SortSt)=>c.1=none∧∃ pend' q',Rn key N κ it pend' q' st' lo∧SortedR key q' lo n)
          (Q:=fun (c:Option Unit × PUnit) (st':SortSt)=>c.1=none∧∃ pend' q',Rn key N κ it pend' q' st' lo∧SortedR key q' lo n) ?_ (fun _ _ z=>z) ⟨rfl,pend1,q1,R1,hs1⟩) ?_)
        · rintro y ⟨c0,_⟩ st2 _ hy ⟨e0,pend2,q2,R2,hs2⟩
          dsimp only at *
          subst e0
          refine wpS_bind (wpS_get ?_)
          rw [R2.S.pend]
          by_cases h2z:pend2.size > 1
          · rw [if_pos h2z,getElem?_pos pend2 (pend2.size - 2) (by omega)]
            generalize pend2[pend2.size - 2]=t2
            obtain ⟨x1,x2,older⟩:=t2
            dsimp only
            split
            · exact wpS_pure ⟨rfl,pend2,q2,R2,hs2⟩
            · refine wpS_bind (wmergeRn hc R2 (by omega) (by omega) fun pend3 q3 st3 R3 _ hfix=>?_)
              rw [if_neg (by simp)]
              refine wpS_pure ⟨rfl,pend3,q3,R3,fun i j hij hj=>?_⟩
              rw [hfix _ (by omega),hfix _ (by omega)]
              exact hs2 i j hij hj
          · rw [if_neg h2z]
            exact wpS_pure ⟨rfl,pend2,q2,R2,hs2⟩
        · rintro ⟨c0,_⟩ st2 ⟨e0,pend2,q2,R2,hs2⟩
          dsimp only at *
          subst e0
          dsimp only
          refine wpS_bind (wpS_modify (wpS_bind (wpS_modify (wpS_pure ?_))))
          have R3:Rn key N κ it (pend2.modify (pend2.size - 1) fun x=>(x.1,x.2.1,power' N (2 * s1+n1) (2 * s1+n1+n1+n) N)) q2 (setPending st2 ((pendingOf st2).modify ((pendingOf st2).size - 1) fun x=>(x.1,x.2.1,power' N (2 * s1+n1) (2 * s1+n1+n1+n) N))) lo :=
            ⟨⟨R2.S.kind,R2.S.arr,by rw [R2.S.pend],R2.S.failed⟩,R2.hq,by rw [mod_pr]; exact R2.ch,by rw [mod_pr]; exact R2.up⟩
          obtain ⟨pend',q',R'⟩:=fin _ q2 _ R3 hs2
          exact ⟨rfl,pend',q',R',by dsimp only; omega,by dsimp only; omega⟩
    · rw [if_neg hmr]
      have R1:Rn key N κ it pend0 q2 st2 lo:=⟨S2,hq2,R0.ch,u2⟩
      have hn1:=m1
      have hn2:lo+m≤N:=by omega
      have hs1:=hm
      generalize m=n at hs1 hn1 hn2 ⊢
      generalize pend0=pend1 at R1
      generalize q2=q1 at R1 hs1
      refine wpS_bind (wpS_get ?_)
      rw [R1.S.pend]
      have fin:∀ pend2 q2 st2,Rn key N κ it pend2 q2 st2 lo→SortedR key q2 lo n→∃ pend' q',Rn key N κ it pend' q' (setPending st2 ((pendingOf st2).push (lo,n,0))) (lo+n):=fun pend2 q2 st2 R2 hs2=>by
        refine ⟨pend2.push (lo,n,0),q2,⟨R2.S.kind,R2.S.arr,by show (pendingOf st2).push _=_; rw [R2.S.pend],R2.S.failed⟩,R2.hq,?_,fun t ht=>?_⟩
        · rw [Array.toList_push,List.map_append]
          exact Chain.append.mpr ⟨lo,R2.ch,rfl,hn1,rfl⟩
        · rw [Array.toList_push,List.map_append] at ht
          rcases List.mem_append.mp ht with ht | ht
          · exact R2.up t ht
          · rw [List.mem_singleton.mp ht]; exact hs2
      cases hb:pend1.back? with
      | none =>
        dsimp only
        refine wpS_bind (wpS_modify (wpS_pure ?_))
        obtain ⟨pend',q',R'⟩:=fin pend1 q1 _ R1 hs1
        exact ⟨rfl,pend',q',R',by dsimp only; omega,by dsimp only; omega⟩
      | some t =>
        obtain ⟨s1,n1,p1⟩:=t
        dsimp only
        refine wpS_bind (wpS_mono (wpS_forRange
          (I:=fun (_:Nat) (c:Option Unit × PUnit) (st':SortSt)=>c.1=none∧∃ pend' q',Rn key N κ it pend' q' st' lo∧SortedR key q' lo n)
          (Q:=fun (c:Option Unit × PUnit) (st':SortSt)=>c.1=none∧∃ pend' q',Rn key N κ it pend' q' st' lo∧SortedR key q' lo n) ?_ (fun _ _ z=>z) ⟨rfl,pend1,q1,R1,hs1⟩) ?_)
        · rintro y ⟨c0,_⟩ st2 _ hy ⟨e0,pend2,q2,R2,hs2⟩
          dsimp only at *
          subst e0
          refine wpS_bind (wpS_get ?_)
          rw [R2.S.pend]
          by_cases h2z:pend2.size > 1
          · rw [if_pos h2z,getElem?_pos pend2 (pend2.size - 2) (by omega)]
            generalize pend2[pend2.size - 2]=t2
            obtain ⟨x1,x2,older⟩:=t2
            dsimp only
            split
            · exact wpS_pure ⟨rfl,pend2,q2,R2,hs2⟩
            · refine wpS_bind (wmergeRn hc R2 (by omega) (by omega) fun pend3 q3 st3 R3 _ hfix=>?_)
              rw [if_neg (by simp)]
              refine wpS_pure ⟨rfl,pend3,q3,R3,fun i j hij hj=>?_⟩
              rw [hfix _ (by omega),hfix _ (by omega)]
              exact hs2 i j hij hj
          · rw [if_neg h2z]
            exact wpS_pure ⟨rfl,pend2,q2,R2,hs2⟩
        · rintro ⟨c0,_⟩ st2 ⟨e0,pend2,q2,R2,hs2⟩
          dsimp only at *
          subst e0
          dsimp only
          refine wpS_bind (wpS_modify (wpS_bind (wpS_modify (wpS_pure ?_))))
          have R3:Rn key N κ it (pend2.modify (pend2.size - 1) fun x=>(x.1,x.2.1,power' N (2 * s1+n1) (2 * s1+n1+n1+n) N)) q2 (setPending st2 ((pendingOf st2).modify ((pendingOf st2).size - 1) fun x=>(x.1,x.2.1,power' N (2 * s1+n1) (2 * s1+n1+n1+n) N))) lo :=
            ⟨⟨R2.S.kind,R2.S.arr,by rw [R2.S.pend],R2.S.failed⟩,R2.hq,by rw [mod_pr]; exact R2.ch,by rw [mod_pr]; exact R2.up⟩
          obtain ⟨pend',q',R'⟩:=fin _ q2 _ R3 hs2
          exact ⟨rfl,pend',q',R',by dsimp only; omega,by dsimp only; omega⟩
  case post =>
    rintro ⟨c0,lo⟩ st0 ⟨e0,pend0,q0,R0⟩
    dsimp only at *
    subst e0
    dsimp only
    have hl0:pend0.size≤N:=by
      have:=(Chain.le R0.ch).1
      rw [List.length_map,Array.length_toList] at this
      omega
    refine wpS_bind (wpS_mono (wpS_forRange
      (I:=fun (x:Nat) (c:Option Unit × PUnit) (st':SortSt)=>c.1=none∧∃ pend' q',Rn key N κ it pend' q' st' N∧pend'.size+x≤N)
      (Q:=fun (c:Option Unit × PUnit) (st':SortSt)=>c.1=none∧∃ pend' q',Rn key N κ it pend' q' st' N∧pend'.size≤1) ?step3 ?fin3 ⟨rfl,pend0,q0,R0,by omega⟩) ?post3)
    case fin3 =>
      rintro ⟨c0,_⟩ st' ⟨e0,pend',q',R,b⟩
      exact ⟨e0,pend',q',R,by omega⟩
    case post3 =>
      rintro ⟨c0,_⟩ st' ⟨e0,pend',q',R,b⟩
      dsimp only at *
      subst e0
      dsimp only
      have hch:=R.ch
      have hup:=R.up
      obtain ⟨n0,e⟩:∃ n0,pend'.toList.map pr=[(0,n0)]∧n0=N:=by
        match hL:pend'.toList.map pr with
        | []=>rw [hL] at hch; have:0=N:=hch; omega
        | [(a,n0)] =>
          rw [hL] at hch
          obtain ⟨h3,h4,h5⟩:=hch
          have h3:a=0:=h3
          have h5:0+n0=N:=h5
          subst h3
          exact ⟨n0,rfl,by omega⟩
        | _ :: _ :: _ =>
          have:=congrArg List.length hL
          rw [List.length_map,Array.length_toList,List.length_cons,List.length_cons] at this
          omega
      obtain ⟨e,rfl⟩:=e
      refine wpS_pure (h q' st' R.S.arr R.S.failed R.hq fun i j hij hj=>?_)
      have:=hup (0,n0) (by rw [e]; exact .head _) i j hij hj
      rwa [Nat.zero_add,Nat.zero_add] at this
    case step3 =>
      rintro x ⟨c0,_⟩ st2 _ hx ⟨e0,pend2,q2,R2,b⟩
      dsimp only at *
      subst e0
      refine wpS_bind (wpS_get ?_)
      rw [R2.S.pend]
      by_cases h1:pend2.size≤1
      · rw [if_pos h1]
        exact wpS_pure ⟨rfl,pend2,q2,R2,h1⟩
      · rw [if_neg h1]
        have hi:∀ (c:Prop) [Decidable c],(if c then pend2.size - 2 - 1 else pend2.size - 2)+1 < pend2.size:=fun c _=>by split <;> omega
        refine wpS_bind (wmergeRn hc R2 (Nat.le_refl _) (hi _) fun pend3 q3 st3 R3 hsz3 _=>?_)
        rw [if_neg (by simp)]
        exact wpS_pure ⟨rfl,pend3,q3,R3,by omega⟩
end
end SO
set_option Elab.async false
set_option linter.all false
set_option maxRecDepth 100000
set_option maxHeartbeats 1000000
namespace SO
open PySem PySem.W PyProof.Rows
variable {O:KeyOrd} {key:Nat→O.α} {N:Nat}
section
variable {prog:Program} {w:World} {A:Around} {E:Value→Shared→Prop} {s:Shared}
theorem list_sortB {a:Addr} {vs:List Value} {n:Nat} {P:PySem.Fin→Shared→Prop} (key:Nat→O.α) (κ:SortKind) (ho:s.heap.get? a=some (seqObj "list" vs.toArray n)) (h64:vs.length≤100000)
    (hk:2≤vs.length→∀ h',(∀ b o,b≠a→s.heap.get? b=some o→h'.get? b=some o)→∀ (Q:SortKind→Shared→Prop),Q κ { s with heap:=h' }→wpAny (model prog w) A (keyKind' vs.toArray) Q E { s with heap:=h' })
    (hc:∀ h',(∀ b o,b≠a→s.heap.get? b=some o→h'.get? b=some o)→Cmp key vs.length (kas_ask prog w A κ vs) { s with heap:=h' })
    (h:∀ p,InN vs.length p→SortedN key p vs.length→P (.done (.ret .none)) { s with heap:=sortedHeap s.heap a vs (List.toArray (p.toList.map fun i=>vs.getD i Value.none)) }) :
    wpAny (model prog w) A (Builtin.«list.sort» ⟨[.ref a],[]⟩) P E s:=by
  rw [list_sort_plain]
  have ha:a < s.heap.objs.size:=Heap.lt_size ho
  refine wpAny_bind (listItems_at ho rfl ?_)
  refine wpAny_bind (listUpdate_at ho rfl ?_ (by rw [sizeLine_eq]; simp; omega))
  obtain ⟨e1,ho1⟩:∃ e1,(s.heap.update a (Obj.mapSeq fun _=>#[])).get? a=some (seqObj "list" #[] e1):=⟨_,get?_update_seq ho (fun _=>#[])⟩
  refine wpAny_bind (seqEpoch_at ho1 rfl ?_)
  refine wpAny_bind (wpAny_newTuple ?_ (by rw [sizeLine_eq]; simp; omega))
  refine wpAny_bind (wpAny_newList ?_)
  refine wpAny_holding ?_
  have keep:∀ b o,b≠a→s.heap.get? b=some o→(((s.heap.update a (Obj.mapSeq fun _=>#[])).push (seqObj "tuple" vs.toArray 0)).push (seqObj "list" #[] 0)).get? b=some o:=fun b o hb q=>by
    have hlt:b < s.heap.objs.size:=Heap.lt_size q
    rw [Heap.get?_push_ne _ _ _ (by rw [size_push',Heap.size_update]; exact Nat.ne_of_lt (Nat.lt_succ_of_lt hlt)),Heap.get?_push_ne _ _ _ (by rw [Heap.size_update]; exact Nat.ne_of_lt hlt),Heap.get?_update_ne _ _ _ _ hb]
    exact q
  have ho6:(((s.heap.update a (Obj.mapSeq fun _=>#[])).push (seqObj "tuple" vs.toArray 0)).push (seqObj "list" #[] 0)).get? a=some (seqObj "list" #[] e1):=by
    rw [Heap.get?_push_ne _ _ _ (by rw [size_push',Heap.size_update]; exact Nat.ne_of_lt (Nat.lt_succ_of_lt ha)),Heap.get?_push_ne _ _ _ (by rw [Heap.size_update]; exact Nat.ne_of_lt ha)]
    exact ho1
  show wpAny (model prog w) A _ P E { s with heap:=((s.heap.update a (Obj.mapSeq fun _=>#[])).push (seqObj "tuple" vs.toArray 0)).push (seqObj "list" #[] 0) }
  dsimp only
  have hsz:vs.toArray.size=vs.length:=by simp
  by_cases h2:vs.toArray.size < 2
  · rw [if_pos h2,if_pos h2]
    refine wpAny_bind (wpAny_pure ?_)
    rw [StateT.run_pure]
    refine wpAny_bind (wpAny_pure ?_)
    dsimp only
    refine wpAny_bind (seqEpoch_at ho6 rfl ?_)
    have e:((arrOf (SortSt.mk' general' (vs.toArray.zip vs.toArray) #[] 7 none)).map (·.2))=List.toArray ((List.range vs.length).toArray.toList.map fun i=>vs.getD i Value.none):=by
      show (vs.toArray.zip vs.toArray).map (·.2)=_
      apply Array.toList_inj.mp
      apply List.ext_getElem
      · simp
      · intro i h1 h2'
        simp at h1 h2' ⊢
        simp [h1]
    rw [e]
    refine wpAny_bind (listUpdate_at ho6 rfl ?_ (hsz2:=by rw [sizeLine_eq]; simp; omega))
    simp only [bne_self_eq_false,Bool.false_eq_true,if_false]
    refine wpAny_pure (h _ (show InN vs.length (List.range vs.length).toArray from List.Perm.refl _) ?_)
    intro i j hij hj
    have:i=j:=by omega
    subst this; exact KeyOrd.kle_refl _
  · rw [if_neg h2,if_neg h2]
    refine wpAny_bind (hk (by omega) _ keep _ ?_)
    have hN:(vs.toArray.zip vs.toArray).size=vs.length:=by simp
    refine wpAny_bind (wpAny_mono (wruns (key:=key) (κ:=κ) (it:=vs.toArray.zip vs.toArray) (N:=vs.length) (q:=(List.range vs.length).toArray) (Q:=fun _ st'=>∃ p:Array Nat,arrOf st'=p.map (kas_item (vs.toArray.zip vs.toArray))∧failedOf st'=none∧InN vs.length p∧SortedN key p vs.length)
      (by have:=hc _ keep; rw [kas_ask_eq] at this; exact this) ⟨rfl,?_,rfl,rfl⟩ (show InN vs.length (List.range vs.length).toArray from List.Perm.refl _) (by omega) fun p st' a b c d=>⟨p,a,b,c,d⟩) ?_ fun _ _ x=>x)
    · show vs.toArray.zip vs.toArray=_
      have:=kas_range (vs.toArray.zip vs.toArray)
      rw [hN] at this
      exact this.symm
    rintro ⟨⟨⟩,st'⟩ s' ⟨rfl,p,har,hf,hi,hso⟩
    dsimp only
    have hpl:p.size≤100000:=by rw [hi.size]; omega
    refine wpAny_bind (seqEpoch_at ho6 rfl ?_)
    rw [kat_snds rfl har]
    refine wpAny_bind (listUpdate_at ho6 rfl ?_ (hsz2:=by rw [sizeLine_eq]; simp; omega))
    rw [hf]
    simp only [bne_self_eq_false,Bool.false_eq_true,if_false]
    exact wpAny_pure (h p hi hso)
theorem sorted_ofB {v:Value} {vs:List Value} {g:Heap} {Q:Value→Shared→Prop} (key:Nat→O.α) (κ:SortKind) (h64:vs.length≤100000) (kg:Keeps s.heap g)
    (hcol:∀ (Q:List Value→Shared→Prop),Q vs { s with heap:=g }→wpAny (model prog w) A.in1 (collect v) Q E { s with heap:=s.heap })
    (hk:2≤vs.length→∀ h',Keeps s.heap h'→∀ (E:Value→Shared→Prop) (Q:SortKind→Shared→Prop),Q κ { s with heap:=h' }→wpAny (model prog w) A.in1.in1 (keyKind' vs.toArray) Q E { s with heap:=h' })
    (hc:∀ h',Keeps s.heap h'→Cmp key vs.length (kas_ask prog w A.in1.in1 κ vs) { s with heap:=h' })
    (h:∀ (g':Heap) (p:Array Nat),Keeps s.heap g'→InN vs.length p→SortedN key p vs.length→(∃ n,g'.get? g.objs.size=some (seqObj "list" (List.toArray (p.toList.map fun i=>vs.getD i Value.none)) n))→Q (.ref g.objs.size) { s with heap:=g' }) :
    wpAny (model prog w) A (call (.builtin "sorted") [v]) Q E s:=by
  refine Calls.call_function_entry kind_sorted plain_sorted entry_sorted (args_sorted1 _) ?_
  unfold Builtin.«sorted»
  refine wpAny_bind (m:=checkCount "sorted" 1 1 _) (wpAny_pure ?_)
  refine wpAny_bind (hcol _ ?_)
  refine wpAny_bind (wpAny_newList ?_ (by rw [sizeLine_eq]; omega))
  have hoL:(g.push (seqObj "list" vs.toArray 0)).get? g.objs.size=some (seqObj "list" vs.toArray 0):=Heap.get?_push_size _ rfl
  have keep:∀ h',(∀ b o,b≠g.objs.size→(g.push (seqObj "list" vs.toArray 0)).get? b=some o→h'.get? b=some o)→Keeps s.heap h':=fun h' k b o q=>by
    have q':=kg b o q
    exact k b o (Nat.ne_of_lt (Heap.lt_size q')) (Heap.get?_push_of_some _ q')
  show wpAny _ _ _ _ _ { s with heap:=g.push (seqObj "list" vs.toArray 0) }
  refine wpAny_bind (wpAny_holding (wpAny_call_entry slot_list_sort ⟨_,hoL,rfl⟩ entry_list_sort (list_sortB key κ hoL h64 (fun z h' k Q q=>hk z h' (keep h' k) _ Q q) (fun h' k=>hc h' (keep h' k)) fun p a1 a2=>⟨_,rfl,?_⟩) (args_list_sort _)))
  refine wpAny_pure ⟨_,rfl,h _ p (keep _ fun b o hb q=>?_) a1 a2 ?_⟩
  · unfold sortedHeap
    have hlt:b < (g.push (seqObj "list" vs.toArray 0)).objs.size:=Heap.lt_size q
    rw [Heap.get?_update_ne _ _ _ _ hb,Heap.get?_push_ne _ _ _ (by rw [size_push',Heap.size_update]; exact Nat.ne_of_lt (Nat.lt_succ_of_lt hlt)),Heap.get?_push_ne _ _ _ (by rw [Heap.size_update]; exact Nat.ne_of_lt hlt),Heap.get?_update_ne _ _ _ _ hb]
    exact q
  · unfold sortedHeap
    have ha:g.objs.size < (g.push (seqObj "list" vs.toArray 0)).objs.size:=Heap.lt_size hoL
    obtain ⟨e1,ho1⟩:∃ e1,((g.push (seqObj "list" vs.toArray 0)).update g.objs.size (Obj.mapSeq fun _=>#[])).get? g.objs.size=some (seqObj "list" #[] e1):=⟨_,get?_update_seq hoL (fun _=>#[])⟩
    have ho6:((((g.push (seqObj "list" vs.toArray 0)).update g.objs.size (Obj.mapSeq fun _=>#[])).push (seqObj "tuple" vs.toArray 0)).push (seqObj "list" #[] 0)).get? g.objs.size=some (seqObj "list" #[] e1):=by
      rw [Heap.get?_push_ne _ _ _ (by rw [size_push',Heap.size_update]; exact Nat.ne_of_lt (Nat.lt_succ_of_lt ha)),Heap.get?_push_ne _ _ _ (by rw [Heap.size_update]; exact Nat.ne_of_lt ha)]
      exact ho1
    exact ⟨_,get?_update_seq ho6 _⟩
end
end SO
set_option Elab.async false
set_option linter.all false
set_option maxRecDepth 100000
namespace L2
open PySem PySem.W PyProof.Rows
section
variable {prog:Program} {w:World} {A:Around} {E:Value→Shared→Prop} {s:Shared}
variable {X:Cx} {pins:List (Addr × Obj)} {σ:St} {H:Hp} {s:Shared}
noncomputable def rSortDB (K:PySem.W.Frag):List V→Hp→VK→Prop:=fun xs H Q=>∃ (p:Addr) (vs:List V) (ds:List D),xs=[.ref p]∧(SqL K H p vs∨SqT K H p vs)∧DenL H vs ds∧Hom ds∧ds.length≤100000∧(∀ d∈ds,Shal 50 d) ∧
  ∀ (l:Addr) (us:List V) (ds':List D),H l=none→ds'.Perm ds→UpD ds'→DenL H us ds'→Q (.ref l) (upd H l (.lst us))
theorem sortD_withB {E:Value→Shared→Prop} (I:Inv X pins σ H s) {a:Addr} {c:String} {o:Obj} {n:Nat} {vs:List V} {ds:List D} {its:List Value} {Q:VK} (κ:SortKind) (ho:s.heap.get? a=some o) (hc:o.cls=.type c) (hcc:c = "list"∨c = "tuple") (hd:o.data=.seq its.toArray n)
    (hD:DenL H vs ds) (r:Vals vs its) (h64:ds.length≤100000)
    (hk:2≤its.length→∀ h',SO.Keeps s.heap h'→∀ (E:Value→Shared→Prop) (Q:SortKind→Shared→Prop),Q κ { s with heap:=h' }→wpAny (model X.prog X.w) X.A.in1.in1 (keyKind' its.toArray) Q E { s with heap:=h' })
    (hcm:∀ h',SO.Keeps s.heap h'→SO.Cmp (O:=ordD) (fun i=>ds.getD i .non) its.length (PySem.W.kas_ask X.prog X.w X.A.in1.in1 κ its) { s with heap:=h' })
    (q:∀ (l:Addr) (us:List V) (ds':List D),H l=none→ds'.Perm ds→UpD ds'→DenL H us ds'→Q (.ref l) (upd H l (.lst us))):wpAny (model X.prog X.w) X.A (call (.builtin "sorted") [.ref a]) (EP X pins σ Q) E s:=by
  have l1:=hD.len
  have l2:=r.length
  have kg:SO.Keeps s.heap ((s.heap.push (seqObj "list" #[] 0)).update s.heap.objs.size (Obj.mapSeq (· ++ its.toArray))):=fun b u e=>by
    rw [Heap.get?_update_ne _ _ _ _ (Nat.ne_of_lt (Heap.lt_size e))]
    exact Heap.get?_push_of_some _ e
  refine SO.sorted_ofB (O:=ordD) (vs:=its) (fun i=>ds.getD i .non) κ (by omega) kg (fun Q q=>SO.collect_seq ho hc hcc hd q (by rw [sizeLine_eq]; omega)) hk hcm fun g' p kp hp hs hob=>?_
  obtain ⟨m,hob⟩:=hob
  have hlt:∀ i∈p.toList,i < its.length:=fun i hi=>List.mem_range.mp (hp.mem_iff.mp hi)
  have hsz:s.heap.objs.size≤((s.heap.push (seqObj "list" #[] 0)).update s.heap.objs.size (Obj.mapSeq (· ++ its.toArray))).objs.size:=by
    rw [Heap.size_update,size_push']
    exact Nat.le_succ _
  have hps:p.toList.length=its.length:=by simpa using hp.length_eq
  have hU:=vals_map r p.toList fun i hi=>by rw [l2]; exact hlt i hi
  refine ⟨.ref _,_,I.laid (t':=s.toks) (o:=.lst (p.toList.map fun i=>vs.getD i .non)) kp hsz ⟨?_,_,m,hU,hob⟩,rfl,q _ _ (p.toList.map fun i=>ds.getD i .non) (I.hok.fresh hsz) ?_ ?_ (denL_map hD _ fun i hi=>by have:=hlt i hi; omega)⟩
  · rw [List.length_map,sizeLine_eq]
    omega
  · have e:(List.range its.length).map (fun i=>ds.getD i .non)=ds:=by
      apply List.ext_getElem
      · simp; omega
      · intro i h1 h2
        simp [List.getD_eq_getElem?_getD,h2]
    have:=hp.map fun i=>ds.getD i D.non
    rw [e] at this
    exact this
  · unfold UpD
    rw [List.pairwise_iff_getElem]
    intro i j hi hj hij
    have h:=hs i j (Nat.le_of_lt hij) (by simpa [hps] using hj)
    have e:∀ k (hk:k < p.toList.length),SO.KN (O:=ordD) (fun i=>ds.getD i .non) p k=(p.toList.map fun i=>ds.getD i D.non)[k]'(by rw [List.length_map]; exact hk):=by
      intro k hk
      have hk':k < p.size:=by simpa using hk
      unfold SO.KN
      rw [List.getElem_map]
      congr 1
      simp [Array.getD,hk']
    rw [e i (by simpa using hi),e j (by simpa using hj)] at h
    exact h
theorem call_sortedDB (hu:X.A.units+64 < cLine):CallR X (.builtin "sorted") (rSortDB X.K):=by
  intro pins s σ H xs us Q I r h
  obtain ⟨a,vs,ds,rfl,hp,hD,hom,h64,hsh,q⟩:=h
  obtain ⟨u,rfl,rx⟩:=vals1 r
  cases rx
  obtain ⟨its,rv,c,o,n,hcc,ho,hc,hd⟩:∃ its:List Value,Vals vs its∧∃ (c:String) (o:Obj) (n:Nat),(c = "list"∨c = "tuple")∧s.heap.get? a=some o∧o.cls=.type c∧o.data=.seq its.toArray n:=by
    rcases hp with hp | hp
    · obtain ⟨its,rv,pl,_⟩:=I.list hp
      obtain ⟨o,ho,hc,n,hd⟩:=pl.isList
      exact ⟨its,rv, "list",o,n,.inl rfl,ho,hc,hd⟩
    · obtain ⟨its,rv,⟨o,ho,hc,n,hd⟩,_⟩:=I.tuple hp
      exact ⟨its,rv, "tuple",o,n,.inr rfl,ho,hc,hd⟩
  have l1:=hD.len
  have l2:=rv.length
  have one:(∀ d∈ds,∀ xs,d≠.tup xs)→∀ T,(T != Value.type "tuple")=true→(T == T)=true→(∀ d∈ds,tyD d=T)→wpAny (model X.prog X.w) X.A (call (.builtin "sorted") [.ref a]) (EP X pins σ Q) X.xe s:=by
    intro nt T hT1 hT2 hT
    refine sortD_withB I oneType' ho hc hcc hd hD rv h64 (fun h2 h' kp E Q q=>?_) (fun h' kp i j C hi hj q=>?_) q
    · refine PySem.W.kas_kind h2 (T:=T) (fun v hv=>?_) hT1 hT2 q
      obtain ⟨i,hi,rfl⟩:=List.mem_iff_getElem.mp hv
      obtain ⟨x,v,e1,e2,e3,e4,e5,e6⟩:=at3 (i:=i) hD rv (by omega)
      rw [List.getElem?_eq_getElem hi] at e2
      cases e2
      rw [← hT _ e6]
      exact looks_ty I kp (hom.1 _ e6 _ e6) e4 e5
    · obtain ⟨x,v,e1,e2,e3,e4,e5,e6⟩:=at3 (i:=i) hD rv (by omega)
      obtain ⟨y,u,f1,f2,f3,f4,f5,f6⟩:=at3 (i:=j) hD rv (by omega)
      unfold PySem.W.kas_ask
      rw [e3,f3,keyLt'_oneType]
      exact one_true (hom.1 _ e6 _ f6) e4 f4 e5 f5 (nt _ e6) _ _ q
  rcases hom.2 with hi | hi | hi
  · exact one (fun d hd xs e=>by obtain ⟨i,z⟩:=hi d hd; rw [z] at e; cases e) (.type "int") (by decide) (by rfl) (fun d hd=>by obtain ⟨i,z⟩:=hi d hd; rw [z]; rfl)
  · exact one (fun d hd xs e=>by obtain ⟨i,z⟩:=hi d hd; rw [z] at e; cases e) (.type "str") (by decide) (by rfl) (fun d hd=>by obtain ⟨i,z⟩:=hi d hd; rw [z]; rfl)
  · obtain ⟨T,hT2,hT⟩:∃ T:Value,(T == T)=true∧∀ d r,D.tup (d :: r)∈ds→tyD d=T∧Sim d d:=by
      cases hds:ds with
      | nil=>exact ⟨.type "int",by rfl,fun d r z=>by cases z⟩
      | cons d0 ds0 =>
        obtain ⟨e0,r0,rfl⟩:=hi d0 (by rw [hds]; exact .head _)
        refine ⟨tyD e0,tyD_self e0,fun d r z=>?_⟩
        have s1:=hom.1 _ (show D.tup (d :: r)∈ds by rw [hds]; exact z) (.tup (e0 :: r0)) (by rw [hds]; exact .head _)
        have s2:=hom.1 _ (show D.tup (d :: r)∈ds by rw [hds]; exact z) (.tup (d :: r)) (by rw [hds]; exact z)
        replace s1:=SimL_c' (Sim_t' s1)
        replace s2:=SimL_c' (Sim_t' s2)
        exact ⟨tyD_sim s1.1,s2.1⟩
    refine sortD_withB I (tuples' (T != Value.type "tuple")) ho hc hcc hd hD rv h64 (fun h2 h' kp E Q q=>?_) (fun h' kp i j C hi' hj q=>?_) q
    · obtain ⟨fs,k,l,m⟩:=kat_tups I kp hD rv hi
      refine PySem.W.kat_kind k (by omega) (T:=T) (fun v hv=>?_) hT2 q
      obtain ⟨x,d,r,z1,z2,z3⟩:=m v hv
      obtain ⟨t1,t2⟩:=hT d r z3
      rw [← t1]
      exact looks_ty I kp t2 z1 z2
    · obtain ⟨x,v,e1,e2,e3,e4,e5,e6⟩:=at3 (i:=i) hD rv (by omega)
      obtain ⟨y,u,f1,f2,f3,f4,f5,f6⟩:=at3 (i:=j) hD rv (by omega)
      unfold PySem.W.kas_ask
      rw [e3,f3]
      have hq:C (dlt (ds.getD i .non) (ds.getD j .non)) { s with heap:=h' }:=q
      obtain ⟨d1,r1,E1⟩:=hi _ e6
      obtain ⟨d2,r2,E2⟩:=hi _ f6
      have sh1:=hsh _ e6
      have sh2:=hsh _ f6
      have sm:=hom.1 _ e6 _ f6
      rw [E1] at e4 e6 hq sh1 sm
      rw [E2] at f4 f6 hq sh2 sm
      obtain ⟨a1,w1,rfl,ha1,hda1⟩:=den_tup e4
      obtain ⟨a2,w2,rfl,ha2,hda2⟩:=den_tup f4
      cases e5
      cases f5
      obtain ⟨its1,v1,⟨o1,eo1,ec1,n1,ed1⟩,_⟩:=I.tuple (SqT.of (K:=X.K) ha1)
      obtain ⟨its2,v2,⟨o2,eo2,ec2,n2,ed2⟩,_⟩:=I.tuple (SqT.of (K:=X.K) ha2)
      have k1:=hda1.len
      have k2:=hda2.len
      have k3:=v1.length
      have k4:=v2.length
      replace sm:=Sim_t' sm
      have cm:=cmpD I (s':={ s with heap:=h' }) kp 49
      have each:∀ (k:Nat) (p q:Value),(its1.zip its2)[k]?=some (p,q)→∃ (x y:V),Den H x ((d1 :: r1).getD k .non)∧Den H y ((d2 :: r2).getD k .non)∧RelV x p∧RelV y q∧Sim ((d1 :: r1).getD k .non) ((d2 :: r2).getD k .non)∧Shal 49 ((d1 :: r1).getD k .non)∧Shal 49 ((d2 :: r2).getD k .non):=by
        intro k p q hz
        rw [List.getElem?_zip_eq_some] at hz
        have b1:k < its1.length:=(List.getElem?_eq_some_iff.mp hz.1).1
        have b2:k < its2.length:=(List.getElem?_eq_some_iff.mp hz.2).1
        obtain ⟨x1,p1,_,g1,_,g2,g3,g4⟩:=at3 (i:=k) hda1 v1 (by omega)
        obtain ⟨x2,p2,_,g1',_,g2',g3',g4'⟩:=at3 (i:=k) hda2 v2 (by omega)
        rw [hz.1] at g1
        rw [hz.2] at g1'
        cases g1
        cases g1'
        refine ⟨x1,x2,g2,g2',g3,g3',sm.at_ (i:=k) ?_ ?_,(sh1.2 _ rfl).2 _ g4,(sh2.2 _ rfl).2 _ g4'⟩
        · rw [List.getD_eq_getElem?_getD,List.getElem?_eq_getElem (by omega)]; rfl
        · rw [List.getD_eq_getElem?_getD,List.getElem?_eq_getElem (by omega)]; rfl
      refine PySem.W.kat_lt (kp _ _ eo1) ed1 (kp _ _ eo2) ed2 (SO.katlex (e:=fun k=>eqD ((d1 :: r1).getD k .non) ((d2 :: r2).getD k .non)) (f:=fun k=>dlt ((d1 :: r1).getD k .non) ((d2 :: r2).getD k .non)) _ 0 (fun k p q z=>?_) (fun k p q z _ Q E hq=>?_) ?_)
      · obtain ⟨x,y,h1,h2,h3,h4,h5,h6,h7⟩:=each k p q z
        rw [Nat.zero_add]
        exact (cm _ _ _ _ _ _ _ h6 h7 h5 h1 h2 h3 h4 (by simp only [Around.in1]; omega)).1
      · obtain ⟨x,y,h1,h2,h3,h4,h5,h6,h7⟩:=each k p q z
        rw [Nat.zero_add] at hq ⊢
        have lt:=(cm _ _ X.A.in1.in1 _ _ _ _ h6 h7 h5 h1 h2 h3 h4 (by simp only [Around.in1]; omega)).2
        cases hb:(T != Value.type "tuple") && k == 0 with
        | false=>exact one_false lt Q E hq
        | true =>
          rw [Bool.and_eq_true,beq_iff_eq] at hb
          obtain ⟨hb,rfl⟩:=hb
          have t1:=hT d1 r1 e6
          exact one_true h5 h1 h2 h3 h4 (show ∀ ds,d1≠.tup ds from tyD_tup t1.2 (by rw [t1.1]; exact hb)) Q E hq
      · have hl:=lexR_dlt (d1 :: r1) (d2 :: r2)
        have e:List.range' 0 (its1.toArray.toList.zip its2.toArray.toList).length=List.range (min (d1 :: r1).length (d2 :: r2).length):=by
          rw [List.range_eq_range']
          congr 1
          simp only [List.length_zip]
          omega
        have ef:decide (its1.toArray.size < its2.toArray.size)=decide ((d1 :: r1).length < (d2 :: r2).length):=by
          rw [show its1.toArray.size=(d1 :: r1).length by simp at k1 k3 ⊢; omega,show its2.toArray.size=(d2 :: r2).length by simp at k2 k4 ⊢; omega]
        rw [e,ef,hl]
        rw [dlt_tt] at hq
        exact hq
end
end L2
set_option Elab.async false
set_option linter.all false
set_option maxRecDepth 100000
namespace L2
open PySem PySem.W PyProof.Rows
section
variable {X:Cx} {pins:List (Addr × Obj)} {σ:St} {H:Hp} {s:Shared}
noncomputable def SObl (X:Cx) (s:Shared) (its:List Value) (ds:List D):Prop:=∃ κ:SortKind,
  (2≤its.length→∀ h',SO.Keeps s.heap h'→∀ (E:Value→Shared→Prop) (Q:SortKind→Shared→Prop),Q κ { s with heap:=h' }→wpAny (model X.prog X.w) X.A.in1.in1 (keyKind' its.toArray) Q E { s with heap:=h' }) ∧
  (∀ h',SO.Keeps s.heap h'→SO.Cmp (O:=ordD) (fun i=>ds.getD i .non) its.length (PySem.W.kas_ask X.prog X.w X.A.in1.in1 κ its) { s with heap:=h' })
theorem sobl (hu:X.A.units+64 < cLine) (I:Inv X pins σ H s) {vs:List V} {ds:List D} {its:List Value} (hD:DenL H vs ds) (rv:Vals vs its) (hom:Hom ds) (h64:ds.length≤100000) (hsh:∀ d∈ds,Shal 50 d):SObl X s its ds:=by
  have l1:=hD.len
  have l2:=rv.length
  have one:(∀ d∈ds,∀ xs,d≠.tup xs)→∀ T,(T != Value.type "tuple")=true→(T == T)=true→(∀ d∈ds,tyD d=T)→SObl X s its ds:=by
    intro nt T hT1 hT2 hT
    refine ⟨oneType',fun h2 h' kp E Q q=>?_,fun h' kp i j C hi hj q=>?_⟩
    · refine PySem.W.kas_kind h2 (T:=T) (fun v hv=>?_) hT1 hT2 q
      obtain ⟨i,hi,rfl⟩:=List.mem_iff_getElem.mp hv
      obtain ⟨x,v,e1,e2,e3,e4,e5,e6⟩:=at3 (i:=i) hD rv (by omega)
      rw [List.getElem?_eq_getElem hi] at e2
      cases e2
      rw [← hT _ e6]
      exact looks_ty I kp (hom.1 _ e6 _ e6) e4 e5
    · obtain ⟨x,v,e1,e2,e3,e4,e5,e6⟩:=at3 (i:=i) hD rv (by omega)
      obtain ⟨y,u,f1,f2,f3,f4,f5,f6⟩:=at3 (i:=j) hD rv (by omega)
      unfold PySem.W.kas_ask
      rw [e3,f3,keyLt'_oneType]
      exact one_true (hom.1 _ e6 _ f6) e4 f4 e5 f5 (nt _ e6) _ _ q
  rcases hom.2 with hi | hi | hi
  · exact one (fun d hd xs e=>by obtain ⟨i,z⟩:=hi d hd; rw [z] at e; cases e) (.type "int") (by decide) (by rfl) (fun d hd=>by obtain ⟨i,z⟩:=hi d hd; rw [z]; rfl)
  · exact one (fun d hd xs e=>by obtain ⟨i,z⟩:=hi d hd; rw [z] at e; cases e) (.type "str") (by decide) (by rfl) (fun d hd=>by obtain ⟨i,z⟩:=hi d hd; rw [z]; rfl)
  · obtain ⟨T,hT2,hT⟩:∃ T:Value,(T == T)=true∧∀ d r,D.tup (d :: r)∈ds→tyD d=T∧Sim d d:=by
      cases hds:ds with
      | nil=>exact ⟨.type "int",by rfl,fun d r z=>by cases z⟩
      | cons d0 ds0 =>
        obtain ⟨e0,r0,rfl⟩:=hi d0 (by rw [hds]; exact .head _)
        refine ⟨tyD e0,tyD_self e0,fun d r z=>?_⟩
        have s1:=hom.1 _ (show D.tup (d :: r)∈ds by rw [hds]; exact z) (.tup (e0 :: r0)) (by rw [hds]; exact .head _)
        have s2:=hom.1 _ (show D.tup (d :: r)∈ds by rw [hds]; exact z) (.tup (d :: r)) (by rw [hds]; exact z)
        replace s1:=SimL_c' (Sim_t' s1)
        replace s2:=SimL_c' (Sim_t' s2)
        exact ⟨tyD_sim s1.1,s2.1⟩
    refine ⟨tuples' (T != Value.type "tuple"),fun h2 h' kp E Q q=>?_,fun h' kp i j C hi' hj q=>?_⟩
    · obtain ⟨fs,k,l,m⟩:=kat_tups I kp hD rv hi
      refine PySem.W.kat_kind k (by omega) (T:=T) (fun v hv=>?_) hT2 q
      obtain ⟨x,d,r,z1,z2,z3⟩:=m v hv
      obtain ⟨t1,t2⟩:=hT d r z3
      rw [← t1]
      exact looks_ty I kp t2 z1 z2
    · obtain ⟨x,v,e1,e2,e3,e4,e5,e6⟩:=at3 (i:=i) hD rv (by omega)
      obtain ⟨y,u,f1,f2,f3,f4,f5,f6⟩:=at3 (i:=j) hD rv (by omega)
      unfold PySem.W.kas_ask
      rw [e3,f3]
      have hq:C (dlt (ds.getD i .non) (ds.getD j .non)) { s with heap:=h' }:=q
      obtain ⟨d1,r1,E1⟩:=hi _ e6
      obtain ⟨d2,r2,E2⟩:=hi _ f6
      have sh1:=hsh _ e6
      have sh2:=hsh _ f6
      have sm:=hom.1 _ e6 _ f6
      rw [E1] at e4 e6 hq sh1 sm
      rw [E2] at f4 f6 hq sh2 sm
      obtain ⟨a1,w1,rfl,ha1,hda1⟩:=den_tup e4
      obtain ⟨a2,w2,rfl,ha2,hda2⟩:=den_tup f4
      cases e5
      cases f5
      obtain ⟨its1,v1,⟨o1,eo1,ec1,n1,ed1⟩,_⟩:=I.tuple (SqT.of (K:=X.K) ha1)
      obtain ⟨its2,v2,⟨o2,eo2,ec2,n2,ed2⟩,_⟩:=I.tuple (SqT.of (K:=X.K) ha2)
      have k1:=hda1.len
      have k2:=hda2.len
      have k3:=v1.length
      have k4:=v2.length
      replace sm:=Sim_t' sm
      have cm:=cmpD I (s':={ s with heap:=h' }) kp 49
      have each:∀ (k:Nat) (p q:Value),(its1.zip its2)[k]?=some (p,q)→∃ (x y:V),Den H x ((d1 :: r1).getD k .non)∧Den H y ((d2 :: r2).getD k .non)∧RelV x p∧RelV y q∧Sim ((d1 :: r1).getD k .non) ((d2 :: r2).getD k .non)∧Shal 49 ((d1 :: r1).getD k .non)∧Shal 49 ((d2 :: r2).getD k .non):=by
        intro k p q hz
        rw [List.getElem?_zip_eq_some] at hz
        have b1:k < its1.length:=(List.getElem?_eq_some_iff.mp hz.1).1
        have b2:k < its2.length:=(List.getElem?_eq_some_iff.mp hz.2).1
        obtain ⟨x1,p1,_,g1,_,g2,g3,g4⟩:=at3 (i:=k) hda1 v1 (by omega)
        obtain ⟨x2,p2,_,g1',_,g2',g3',g4'⟩:=at3 (i:=k) hda2 v2 (by omega)
        rw [hz.1] at g1
        rw [hz.2] at g1'
        cases g1
        cases g1'
        refine ⟨x1,x2,g2,g2',g3,g3',sm.at_ (i:=k) ?_ ?_,(sh1.2 _ rfl).2 _ g4,(sh2.2 _ rfl).2 _ g4'⟩
        · rw [List.getD_eq_getElem?_getD,List.getElem?_eq_getElem (by omega)]; rfl
        · rw [List.getD_eq_getElem?_getD,List.getElem?_eq_getElem (by omega)]; rfl
      refine PySem.W.kat_lt (kp _ _ eo1) ed1 (kp _ _ eo2) ed2 (SO.katlex (e:=fun k=>eqD ((d1 :: r1).getD k .non) ((d2 :: r2).getD k .non)) (f:=fun k=>dlt ((d1 :: r1).getD k .non) ((d2 :: r2).getD k .non)) _ 0 (fun k p q z=>?_) (fun k p q z _ Q E hq=>?_) ?_)
      · obtain ⟨x,y,h1,h2,h3,h4,h5,h6,h7⟩:=each k p q z
        rw [Nat.zero_add]
        exact (cm _ _ _ _ _ _ _ h6 h7 h5 h1 h2 h3 h4 (by simp only [Around.in1]; omega)).1
      · obtain ⟨x,y,h1,h2,h3,h4,h5,h6,h7⟩:=each k p q z
        rw [Nat.zero_add] at hq ⊢
        have lt:=(cm _ _ X.A.in1.in1 _ _ _ _ h6 h7 h5 h1 h2 h3 h4 (by simp only [Around.in1]; omega)).2
        cases hb:(T != Value.type "tuple") && k == 0 with
        | false=>exact one_false lt Q E hq
        | true =>
          rw [Bool.and_eq_true,beq_iff_eq] at hb
          obtain ⟨hb,rfl⟩:=hb
          have t1:=hT d1 r1 e6
          exact one_true h5 h1 h2 h3 h4 (show ∀ ds,d1≠.tup ds from tyD_tup t1.2 (by rw [t1.1]; exact hb)) Q E hq
      · have hl:=lexR_dlt (d1 :: r1) (d2 :: r2)
        have e:List.range' 0 (its1.toArray.toList.zip its2.toArray.toList).length=List.range (min (d1 :: r1).length (d2 :: r2).length):=by
          rw [List.range_eq_range']
          congr 1
          simp only [List.length_zip]
          omega
        have ef:decide (its1.toArray.size < its2.toArray.size)=decide ((d1 :: r1).length < (d2 :: r2).length):=by
          rw [show its1.toArray.size=(d1 :: r1).length by simp at k1 k3 ⊢; omega,show its2.toArray.size=(d2 :: r2).length by simp at k2 k4 ⊢; omega]
        rw [e,ef,hl]
        rw [dlt_tt] at hq
        exact hq
end
end L2
namespace SO
open PySem PySem.W PyProof.Rows
section
variable {O:KeyOrd} {prog:Program} {w:World} {A:Around} {E:Value→Shared→Prop} {s:Shared}
theorem sorted_ofGB {v:Value} {Q:Value→Shared→Prop} (G:List Value→Heap→Nat→Prop)
    (hcol:∀ (Q:List Value→Shared→Prop),(∀ vs g tk,G vs g tk→Q vs { s with heap:=g,toks:=tk })→wpAny (model prog w) A.in1 (collect v) Q E s)
    (hrest:∀ vs g tk,G vs g tk→∃ (key:Nat→O.α) (κ:SortKind),vs.length≤100000∧
      (2≤vs.length→∀ h',Keeps g h'→∀ (E:Value→Shared→Prop) (Q:SortKind→Shared→Prop),Q κ { s with heap:=h',toks:=tk }→wpAny (model prog w) A.in1.in1 (keyKind' vs.toArray) Q E { s with heap:=h',toks:=tk }) ∧
      (∀ h',Keeps g h'→Cmp key vs.length (kas_ask prog w A.in1.in1 κ vs) { s with heap:=h',toks:=tk }) ∧
      (∀ (g':Heap) (p:Array Nat),Keeps g g'→InN vs.length p→SortedN key p vs.length→(∃ n,g'.get? g.objs.size=some (seqObj "list" (List.toArray (p.toList.map fun i=>vs.getD i Value.none)) n))→Q (.ref g.objs.size) { s with heap:=g',toks:=tk })) :
    wpAny (model prog w) A (call (.builtin "sorted") [v]) Q E s:=by
  refine Calls.call_function_entry kind_sorted plain_sorted entry_sorted (args_sorted1 _) ?_
  unfold Builtin.«sorted»
  refine wpAny_bind (m:=checkCount "sorted" 1 1 _) (wpAny_pure ?_)
  refine wpAny_bind (hcol _ fun vs g tk hG=>?_)
  obtain ⟨key,κ,h64,hk,hc,h⟩:=hrest vs g tk hG
  refine wpAny_bind (wpAny_newList ?_ (by rw [sizeLine_eq]; omega))
  have hoL:(g.push (seqObj "list" vs.toArray 0)).get? g.objs.size=some (seqObj "list" vs.toArray 0):=Heap.get?_push_size _ rfl
  have kp:∀ h',(∀ b o,b≠g.objs.size→(g.push (seqObj "list" vs.toArray 0)).get? b=some o→h'.get? b=some o)→Keeps g h':=fun h' k b o q=>by
    exact k b o (Nat.ne_of_lt (Heap.lt_size q)) (Heap.get?_push_of_some _ q)
  show wpAny _ _ _ _ _ { s with heap:=g.push (seqObj "list" vs.toArray 0),toks:=tk }
  refine wpAny_bind (wpAny_holding (wpAny_call_entry slot_list_sort ⟨_,hoL,rfl⟩ entry_list_sort (list_sortB (s:={ s with heap:=g.push (seqObj "list" vs.toArray 0),toks:=tk }) key κ hoL h64 (fun z h' k Q q=>hk z h' (kp h' k) _ Q q) (fun h' k=>hc h' (kp h' k)) fun p a1 a2=>⟨_,rfl,?_⟩) (args_list_sort _)))
  refine wpAny_pure ⟨_,rfl,h _ p (kp _ fun b o hb q=>?_) a1 a2 ?_⟩
  · unfold sortedHeap
    have hlt:b < (g.push (seqObj "list" vs.toArray 0)).objs.size:=Heap.lt_size q
    rw [Heap.get?_update_ne _ _ _ _ hb,Heap.get?_push_ne _ _ _ (by rw [size_push',Heap.size_update]; exact Nat.ne_of_lt (Nat.lt_succ_of_lt hlt)),Heap.get?_push_ne _ _ _ (by rw [Heap.size_update]; exact Nat.ne_of_lt hlt),Heap.get?_update_ne _ _ _ _ hb]
    exact q
  · unfold sortedHeap
    have ha:g.objs.size < (g.push (seqObj "list" vs.toArray 0)).objs.size:=Heap.lt_size hoL
    obtain ⟨e1,ho1⟩:∃ e1,((g.push (seqObj "list" vs.toArray 0)).update g.objs.size (Obj.mapSeq fun _=>#[])).get? g.objs.size=some (seqObj "list" #[] e1):=⟨_,get?_update_seq hoL (fun _=>#[])⟩
    have ho6:((((g.push (seqObj "list" vs.toArray 0)).update g.objs.size (Obj.mapSeq fun _=>#[])).push (seqObj "tuple" vs.toArray 0)).push (seqObj "list" #[] 0)).get? g.objs.size=some (seqObj "list" #[] e1):=by
      rw [Heap.get?_push_ne _ _ _ (by rw [size_push',Heap.size_update]; exact Nat.ne_of_lt (Nat.lt_succ_of_lt ha)),Heap.get?_push_ne _ _ _ (by rw [Heap.size_update]; exact Nat.ne_of_lt ha)]
      exact ho1
    exact ⟨_,get?_update_seq ho6 _⟩
end
end SO
namespace L2
open PySem PySem.Spec PyProof.Rows
noncomputable def updL (H:Hp):List (Addr × List V)→Hp
  | []=>H
  | (a,vs) :: r=>upd (updL H r) a (.tup vs)
theorem updL_not {H:Hp} {b:Addr}:∀ {l:List (Addr × List V)},(∀ q∈l,q.1≠b)→updL H l b=H b
  | [],_=>rfl
  | (a,vs) :: r,h=>by
    show upd (updL H r) a (.tup vs) b=H b
    rw [upd_ne (fun z=>h (a,vs) (.head _) z.symm)]
    exact updL_not fun q hq=>h q (.tail _ hq)
theorem updL_at {H:Hp} {b:Addr}:∀ {l:List (Addr × List V)} {o:HO},updL H l b=some o→H b=some o∨∃ vs,(b,vs)∈l∧o=.tup vs
  | [],_,h=>.inl h
  | (a,vs) :: r,o,h=>by
    by_cases e:b=a
    · subst e
      have h':upd (updL H r) b (.tup vs) b=some o:=h
      rw [upd_same] at h'
      cases h'
      exact .inr ⟨vs,.head _,rfl⟩
    · have h':upd (updL H r) a (.tup vs) b=some o:=h
      rw [upd_ne e] at h'
      rcases updL_at h' with z | ⟨us,z,w⟩
      · exact .inl z
      · exact .inr ⟨us,.tail _ z,w⟩
theorem updL_same {H:Hp} {l:List (Addr × List V)} (h:∀ q∈l,H q.1=none):Same H (updL H l):=fun b o e=>by
  rw [updL_not fun q hq z=>?_]
  · exact e
  · rw [← z,h q hq] at e
    cases e
theorem updL_get {H:Hp}:∀ {l:List (Addr × List V)},(l.map (·.1)).Nodup→∀ {a:Addr} {vs:List V},(a,vs)∈l→updL H l a=some (.tup vs)
  | (a',us) :: r,hn,a,vs,h=>by
    rw [List.map_cons,List.nodup_cons] at hn
    rcases List.mem_cons.mp h with z | z
    · cases z
      exact upd_same
    · have ne:a≠a':=fun e=>hn.1 (e ▸ List.mem_map_of_mem (f:=(·.1)) z)
      show upd (updL H r) a' (.tup us) a=_
      rw [upd_ne ne]
      exact updL_get hn.2 z
theorem Inv.laidL {X:Cx} {pins:List (Addr × Obj)} {σ:St} {H:Hp} {s:Shared} {h':Heap} {t':Nat} {l:List (Addr × List V)} (I:Inv X pins σ H s) (k:∀ b u,s.heap.get? b=some u→h'.get? b=some u) (hp:∀ q∈l,s.heap.objs.size≤q.1)
    (new:∀ q∈l,ObjOk X.prog X.w (updL H l) h' q.1 (.tup q.2)):Inv X pins σ (updL H l) { s with heap:=h',toks:=t' }:=by
  have hn:∀ q∈l,H q.1=none:=fun q hq=>I.hok.fresh (hp q hq)
  have sm:Same H (updL H l):=updL_same hn
  refine I.un ⟨fun b u q _ _ _=>k b u q,fun b u q _ _ _=>⟨u.slots,k b u q⟩,fun b u q n _=>?_,fun b u q _=>⟨u,k b u q⟩,fun b xs q=>sm _ _ q,fun b o u q=>sm _ _ q,fun b ps q=>⟨#[],by rw [sm _ _ q]; simp⟩⟩ fun b o e=>?_
  · rw [updL_not fun q' hq' z=>absurd (Heap.lt_size q) (Nat.not_lt.mpr (by rw [← z]; exact hp q' hq'))]
    exact n
  · rcases updL_at e with z | ⟨vs,z,rfl⟩
    · exact (I.hok b o z).stay (fun c u _ q=>k c u q) (fun c q=>sm c _ q) fun c xs q=>sm c _ q
    · exact new (b,vs) z
end L2
set_option Elab.async false
set_option linter.all false
set_option maxRecDepth 100000
set_option maxHeartbeats 4000000
namespace DR
open PySem PySem.W
open Sem (wp)
section
variable {prog:Program} {w:World} {A:Around} {E:Value→Shared→Prop} {s:Shared} {it dd:Addr} {es:Array DictEntry} {i ep:Nat}
theorem meets_items (lo:(dd == sysModules)=false):MeetsIn prog w (Builtin.«dict.items» ⟨[.ref dd],[]⟩) (fun _ R s=>(∃ es ep,Raw s.heap dd es ep)∧R (.ok (.ret (.ref s.heap.objs.size))) { s with heap:=s.heap.push { cls:=.type "dict_items",data:=.fields #[.ref dd] } }) :=
  .of_wp fun A R s ⟨⟨es,ep,r⟩,q⟩=>by
    unfold Builtin.«dict.items»; refine wpAny_bind ?_
    unfold Builtin.Dict.noArgs; refine wpAny_bind (wpAny_notOrdered_dict r.typeIs ?_)
    show wpAny _ _ (pure dd) _ _ s
    refine wpAny_pure ?_
    show wpAny _ _ (Builtin.Dict.showsAll dd >>= _) _ _ s
    unfold Builtin.Dict.showsAll; rw [if_neg (by rw [lo]; decide)]
    exact wpAny_bind (wpAny_pure (wpAny_bind (wpAny_newObj_type (wpAny_pure ⟨_,rfl,q⟩))))
theorem iter_items {v:Addr} {Q:Value→Shared→Prop} (hv:s.heap.IsItemsView v dd) (r:Raw s.heap dd es ep)
    (q:Q (.ref s.heap.objs.size) { s with heap:=s.heap.push { cls:=.type "dict_itemiterator",data:=.fields #[.none,.bool false,.ref dd,.int 0 0,.int es.size 0,.int ep 0,.none,.none] } }):wpAny (model prog w) A (pyIter (.ref v)) Q E s:=by
  obtain ⟨o1,e1,c1,d1⟩:=id hv
  obtain ⟨o2,e2,c2,d2⟩:=id r
  refine wpAny_pyIter_slot hv.typeIs PySem.F.slot_dict_items_iter (wpAny_call_entry PySem.F.slot_dict_items_iter hv.typeIs PySem.F.entry_dict_items_iter ?_ (PySem.F.args_dict_items_iter_1 _))
  unfold Builtin.«dict_items.__iter__»; refine wpAny_bind (wpAny_pure (wpAny_bind ?_))
  unfold Builtin.Dict_items.dictOf; refine wpAny_bind (wpAny_field e1 d1 (x:=.ref dd) rfl (wpAny_pure (wpAny_bind ?_)))
  unfold Builtin.Dict_items.newIterator; refine wpAny_bind (wpAny_dictEntries e2 d2 (wpAny_bind (wpAny_dictEpoch e2 d2 ?_)))
  have own:Builtin.Dict_items.ownsTuple "dict_itemiterator" = true:=by decide
  simp only [own,if_true]
  refine wpAny_newObj_type (wpAny_pure ⟨_,rfl, "dict_itemiterator",_,⟨_,Heap.get?_push_size _ rfl,rfl⟩,PySem.F.slot_dict_itemiterator_next.lookup,?_⟩) (by simp only [sizeOk,Builtin.Dict_items.ownedTupleFields,List.size_toArray,List.length_append,List.length_cons,List.length_nil,sizeLine_eq]; omega)
  simpa [rawInt,Builtin.Dict_items.ownedTupleFields] using q
theorem next_items {e:DictEntry} {ok ov:Value} {Q:Option Value→Shared→Prop} (ti:IsItemIter s.heap it dd i es.size ep ok ov) (r:Raw s.heap dd es ep) (ex:es[i]?=some e)
    (q:∀ g,IsItemIterOut g it dd (i+1) es.size ep e.key e.val s.heap.objs.size→g.get? s.heap.objs.size=some { cls:=.type "tuple",data:=.seq #[e.key,e.val] }→(∀ b o,b≠it→s.heap.get? b=some o→g.get? b=some o)→Q (some (.ref s.heap.objs.size)) { s with heap:=g }):wpAny (model prog w) A (pyNext (.ref it)) Q E s:=by
  obtain ⟨hp,gn,dr,tk,os⟩:=s
  obtain ⟨o2,e2,c2,d2⟩:=id r
  have ty:Shared.TypeIs ⟨hp,gn,dr,tk,os⟩ (.ref it) "dict_itemiterator":=⟨_,ti,rfl⟩
  unfold pyNext; refine wpAny_bind (wpAny_attempt (wpAny_callSpecial?_slot (name:=Str.ofString "__next__") ty PySem.F.slot_dict_itemiterator_next (wpAny_call_entry PySem.F.slot_dict_itemiterator_next ty PySem.F.entry_dict_itemiterator_next ?_ (PySem.F.args_dict_itemiterator_next_1 _))))
  refine wpAny_bind (wpAny_pure (wpAny_bind (wpAny_bind ?_)))
  first | refine wpAny_bind (wpAny_typeNameOfWhole_itemiter ty (wpAny_pure ?_)) | refine wpAny_bind (wpAny_typeNameOf_itemiter ty (wpAny_pure ?_))
  refine wpAny_bind (wpAny_fieldsOf ti rfl ?_)
  have own:Builtin.Dict_items.ownsTuple "dict_itemiterator" = true:=by decide
  simp only [own,if_true]
  show wpAny _ _ (if (Value.ref dd == Value.none)=true then _ else _) _ _ _
  rw [if_neg (show ¬ ((Value.ref dd == Value.none)=true) from Bool.false_ne_true)]
  refine wpAny_bind (wpAny_pure (wpAny_bind (wpAny_dictEntries e2 d2 ?_)))
  rw [if_neg (by simp)]; refine wpAny_bind (wpAny_pure (wpAny_bind (wpAny_dictEpoch e2 d2 ?_)))
  rw [if_neg (by simp)]; refine wpAny_pure ?_
  obtain ⟨lt,ee⟩:=Array.getElem?_eq_some_iff.mp ex
  simp only [show ¬ ((i:Int) < 0) from Int.not_lt.mpr (Int.natCast_nonneg i),if_false,Int.toNat_natCast,Array.getElem?_eq_getElem lt,ee]
  refine wpAny_bind ?_
  first | refine wpAny_bind (wpAny_typeNameOfWhole_itemiter ty (wpAny_pure ?_)) | refine wpAny_bind (wpAny_typeNameOf_itemiter ty (wpAny_pure ?_))
  refine wpAny_bind (wpAny_isOneOf_itemiter ty ?_)
  show wpAny _ _ (setField (.ref it) 3 (rawInt ((i:Int)+1)) >>= _) _ _ ⟨hp,gn,dr,tk,os⟩
  refine wpAny_bind (wpAny_setField_rec ti (by simp) fun g1 f1 b1=>?_)
  replace b1:Heap.SameBut it hp g1:=b1
  replace f1:IsItemIter g1 it dd (i+1) es.size ep ok ov:=by
    have z:((i+1:Nat):Int)=(i:Int)+1:=by omega
    unfold IsItemIter; rw [z]; simpa [rawInt] using f1
  have ty1:Shared.TypeIs ⟨g1,gn,dr,tk,os⟩ (.ref it) "dict_itemiterator":=⟨_,f1,rfl⟩
  refine wpAny_bind (wpAny_holding (wpAny_bind (wpAny_isOneOf_itemiter ty1 (wpAny_bind (wpAny_isOneOf_itemiter ty1 ?_)))))
  show wpAny _ _ (Builtin.Dict_items.pairFromOwner (.ref it) 6 e.key e.val) _ _ ⟨g1,gn,dr,tk,os⟩
  unfold Builtin.Dict_items.pairFromOwner; refine wpAny_bind (wpAny_newTuple ?_)
  have f2:IsItemIter (g1.push { cls:=.type "tuple",data:=.seq #[e.key,e.val] }) it dd (i+1) es.size ep ok ov:=Heap.get?_push_of_some _ f1
  generalize hg2:g1.push { cls:=.type "tuple",data:=.seq #[e.key,e.val] }=g2 at f2
  have z1:g1.objs.size=hp.objs.size:=b1.1
  have zi:it < hp.objs.size:=Heap.lt_size ti
  have t2:g2.get? hp.objs.size=some { cls:=.type "tuple",data:=.seq #[e.key,e.val] }:=by rw [← hg2,← z1]; exact Heap.get?_push_size _ rfl
  have k2:∀ b o,b≠it→hp.get? b=some o→g2.get? b=some o:=fun b o hb y=>by rw [← hg2]; exact Heap.get?_push_of_some _ (b1.extBut b o hb y)
  show wpAny _ _ (Builtin.Dict_items.ownedTupleIsFree (.ref it) >>= _) _ _ ⟨g2,gn,dr,tk,os⟩
  rw [z1]
  clear hg2 f1 b1 ty1 z1 g1
  refine wpAny_bind ?_
  unfold Builtin.Dict_items.ownedTupleIsFree; refine wpAny_bind (wpAny_field f2 rfl (x:=.none) rfl (wpAny_pure ?_))
  simp only [if_true]
  refine wpAny_bind (wpAny_field f2 rfl (x:=ok) rfl (wpAny_bind (wpAny_field f2 rfl (x:=ov) rfl (wpAny_bind (wpAny_setField_rec f2 (by simp) fun g3 f3 b3=>?_)))))
  replace b3:Heap.SameBut it g2 g3:=b3
  replace f3:IsItemIter g3 it dd (i+1) es.size ep e.key ov:=f3
  refine wpAny_bind (wpAny_setField_rec f3 (by simp) fun g4 f4 b4=>?_)
  replace b4:Heap.SameBut it g3 g4:=b4
  replace f4:IsItemIter g4 it dd (i+1) es.size ep e.key e.val:=f4
  refine wpAny_bind (wpAny_setField_rec f4 (by simp) fun g5 f5 b5=>?_)
  replace b5:Heap.SameBut it g4 g5:=b5
  replace f5:IsItemIterOut g5 it dd (i+1) es.size ep e.key e.val hp.objs.size:=f5
  refine wpAny_bind (wpAny_setField_rec f5 (by simp) fun g6 f6 b6=>?_)
  replace b6:Heap.SameBut it g5 g6:=b6
  replace f6:IsItemIterOut g6 it dd (i+1) es.size ep e.key e.val hp.objs.size:=f6
  have up:∀ b o,b≠it→g2.get? b=some o→g6.get? b=some o:=fun b o hb y=>b6.extBut b o hb (b5.extBut b o hb (b4.extBut b o hb (b3.extBut b o hb y)))
  exact wpAny_bind (wpAny_letGo (wpAny_pure (wpAny_pure ⟨_,rfl,wpAny_pure (q g6 f6 (up _ _ (Nat.ne_of_gt zi) t2) fun b o hb y=>up b o hb (k2 b o hb y))⟩)))
theorem end_items {ok ov:Value} {Q:Option Value→Shared→Prop} (hd:A.handled=none) (ti:IsItemIter s.heap it dd i es.size ep ok ov) (r:Raw s.heap dd es ep) (ge:es.size≤i) (q:∀ g,Heap.ExtBut it s.heap g→Q none { s with heap:=g }):wpAny (model prog w) A (pyNext (.ref it)) Q E s:=by
  obtain ⟨o2,e2,c2,d2⟩:=id r
  have ty:s.TypeIs (.ref it) "dict_itemiterator":=⟨_,ti,rfl⟩
  unfold pyNext; refine wpAny_bind (wpAny_attempt (wpAny_callSpecial?_slot (name:=Str.ofString "__next__") ty PySem.F.slot_dict_itemiterator_next (wpAny_call_entry PySem.F.slot_dict_itemiterator_next ty PySem.F.entry_dict_itemiterator_next ?_ (PySem.F.args_dict_itemiterator_next_1 _))))
  refine wpAny_bind (wpAny_pure (wpAny_bind (wpAny_bind ?_)))
  first | refine wpAny_bind (wpAny_typeNameOfWhole_itemiter ty (wpAny_pure ?_)) | refine wpAny_bind (wpAny_typeNameOf_itemiter ty (wpAny_pure ?_))
  refine wpAny_bind (wpAny_fieldsOf ti rfl ?_)
  have own:Builtin.Dict_items.ownsTuple "dict_itemiterator" = true:=by decide
  simp only [own,if_true]
  show wpAny _ _ (if (Value.ref dd == Value.none)=true then _ else _) _ _ s
  rw [if_neg (show ¬ ((Value.ref dd == Value.none)=true) from Bool.false_ne_true)]
  refine wpAny_bind (wpAny_pure (wpAny_bind (wpAny_dictEntries e2 d2 ?_)))
  rw [if_neg (by simp)]; refine wpAny_bind (wpAny_pure (wpAny_bind (wpAny_dictEpoch e2 d2 ?_)))
  rw [if_neg (by simp)]; refine wpAny_pure ?_
  simp only [show ¬ ((i:Int) < 0) from Int.not_lt.mpr (Int.natCast_nonneg i),if_false,Int.toNat_natCast,Array.getElem?_eq_none ge]
  refine wpAny_bind ?_
  first | refine wpAny_bind (wpAny_typeNameOfWhole_itemiter ty (wpAny_pure ?_)) | refine wpAny_bind (wpAny_typeNameOf_itemiter ty (wpAny_pure ?_))
  show wpAny _ _ (setField (.ref it) 2 .none >>= _) _ _ s
  refine wpAny_bind (wpAny_setField ti rfl (by simp) ?_)
  show wpAny _ _ (newExc (.type "StopIteration") [] >>= _) _ _ _
  refine wpAny_bind ?_
  simp only [newExc,newTuple]
  refine wpAny_bind (wpAny_newObj_type ?_ (by size_fits)); refine wpAny_bind (m:=firstArgMember _ _) (wpAny_of_eq (a:=Value.none) (by first | rfl | (simp only [firstArgMember]; rfl)) ?_)
  refine wpAny_newObj_type ?_ (by size_fits)
  simp only [raiseNew]
  refine wpAny_bind (wpAny_handled ?_); rw [show A.in1.handled=none from hd]
  refine wpAny_bind (wpAny_pure (wpAny_throw ?_))
  refine wpAny_bind (wpAny_isInstance (T:="StopIteration") (b:=true) ⟨_,Heap.get?_push_size _ rfl,rfl⟩ isSubtype_stop ?_)
  exact wpAny_pure (q _ (((Heap.SameBut.update ..).extBut.push _).push _))
end
end DR
namespace L2
open PySem PySem.Spec PyProof.Rows
theorem dt_raw2 {P:Program} {w:World} {H:Hp} {h:Heap} {a:Addr} {kvs:List (List Key × V)} (ok:HOk P w H h) (e:Rd H a (.dT kvs)):kvs.length≤sizeLine∧(a == sysModules)=false ∧
    ∃ (o:Obj) (es:Array DictEntry) (ep:Nat),h.get? a=some o∧o.ExactDict∧o.data=.dict es ep∧es.size=kvs.length∧∀ (i:Nat) (kv:List Key × V),kvs[i]?=some kv→∃ (b:Addr) (en:DictEntry),es[i]?=some en∧en.key=.ref b∧H b=some (.tup (kv.1.map kV))∧RelV kv.2 en.val:=by
  obtain ⟨z,y,xs,r,o,es,ep,h1,h2,h3,h4,h5⟩:=(show ObjOk P w H h a (.dT kvs) from rd_of ok e)
  have hl:xs.length=kvs.length:=(Paired.length r).symm
  refine ⟨z,y,o,es,ep,h1,h2,h3,?_,fun i kv hi=>?_⟩
  · have:=congrArg List.length h4
    rw [List.length_map,hl] at this
    simpa using this
  · obtain ⟨q,hq,e1,e2,e3⟩:=paired_at r i kv hi
    refine ⟨q.2.1,entryOfKey (tupleKind (mixKind P w)) q,?_,rfl,e2,e3⟩
    rw [← Array.getElem?_toList,h4,List.getElem?_map,hq]
    rfl
theorem frzT_at2 {X:Cx} {pins:List (Addr × Obj)} {σ:St} {H:Hp} {s:Shared} {d:Addr} {o:Obj} {kvs:List (List Key × V)} {es:Array DictEntry} {ep:Nat} (I:Inv X pins σ H s) (e:H d=some (.frz o (.dT kvs))) (hod:o.data=.dict es ep) :
    DR.Raw s.heap d es ep∧es.size=kvs.length∧∀ (i:Nat) (kv:List Key × V),kvs[i]?=some kv→∃ (b:Addr) (en:DictEntry),es[i]?=some en∧en.key=.ref b∧H b=some (.tup (kv.1.map kV))∧RelV kv.2 en.val:=by
  have ho:s.heap.get? d=some o:=(show ObjOk X.prog X.w H s.heap d (.frz o (.dT kvs)) from I.hok d _ e).1
  obtain ⟨_,_,o2,es2,ep2,h2,hx,hd,hsz,hat⟩:=dt_raw2 I.hok (Or.inr ⟨o,e⟩:Rd H d (.dT kvs))
  rw [ho] at h2
  cases h2
  rw [hod] at hd
  cases hd
  exact ⟨⟨o,ho,hx,hod⟩,hsz,hat⟩
noncomputable def ItiT (d:Addr) (o:Obj) (kvs:List (List Key × V)):It :=
  ⟨fun i H=>H d=some (.frz o (.dT kvs))∧i < kvs.length,fun i H x H'=>∃ t b kv,x=.ref t∧H t=none∧H'=upd H t (.tup [.ref b,kv.2])∧kvs[i]?=some kv∧H b=some (.tup (kv.1.map kV)),fun i H=>H d=some (.frz o (.dT kvs))∧kvs.length≤i⟩
theorem turn_itemsT {P:Program} {w:World} {K:PySem.W.Frag} {elts:List Expr} {k1:Nat} {p1:Pos} (d it:Addr) (o:Obj) (kvs:List (List Key × V)) (es:Array DictEntry) (ep:Nat) (hod:o.data=.dict es ep) :
    Turn P w K (.Tuple elts k1 p1) (ItiT d o kvs) [it] it (fun i h=>∃ ok ov,IsItemIter h it d i es.size ep ok ov) where
  mem:=by simp
  obj:=fun i h st b hb=>by
    have e:b=it:=by simpa using hb
    subst e
    obtain ⟨ok,ov,ho⟩:=st
    exact ⟨_,ho,fun v z=>by cases z⟩
  keep:=fun i h h' st k=>by
    obtain ⟨ok,ov,ho⟩:=st
    exact ⟨ok,ov,k it (by simp) _ ho⟩
  item:=by
    intro X hP hw hK hc i pins s σ H E I hf st hg
    subst hP hw hK
    obtain ⟨e,hi⟩:=hg
    obtain ⟨ok,ov,st⟩:=st
    obtain ⟨rw_,hsz,hat⟩:=frzT_at2 I e hod
    obtain ⟨b,en,hen,hkey,hb,rel⟩:=hat i kvs[i] (List.getElem?_eq_getElem hi)
    have lz:it < s.heap.objs.size:=Heap.lt_size st
    refine DR.next_items st rw_ hen fun h' hit ht sb=>?_
    refine ⟨_,rfl,wpAny_letOwnedTupleGo_items hit fun g' q1 q2=>?_⟩
    have q2':Heap.SameBut it h' g':=q2
    have I1:Inv X pins σ (upd H s.heap.objs.size (.tup [.ref b,kvs[i].2])) { s with heap:=g',toks:=s.toks } :=
      I.turnedLT (ch:=[it]) (its:=[en.key,en.val]) (fun c oc hc q=>by
        have hc':c≠it:=by simpa using hc
        exact q2'.extBut c oc hc' (sb c oc hc' q)) (fun c hc=>hf c hc) (.cons (by rw [hkey]; rfl) (.cons rel .nil)) (by show 2≤sizeLine; decide) (q2'.extBut _ _ (Nat.ne_of_gt lz) ht)
    refine ⟨.ref s.heap.objs.size,_,I1,rfl,⟨s.heap.objs.size,b,kvs[i],rfl,I.fresh,rfl,List.getElem?_eq_getElem hi,hb⟩,⟨_,_,q1⟩,fun c hc=>?_⟩
    have e:c=it:=by simpa using hc
    subst e
    rw [upd_ne (Nat.ne_of_lt lz)]
    exact (hf c (by simp)).1
  done:=by
    intro X hP hw hK hc i pins s σ H E I hf st hg
    subst hP hw hK
    obtain ⟨e,hi⟩:=hg
    obtain ⟨ok,ov,st⟩:=st
    obtain ⟨f0,f1,f2,f3,f4,f5⟩:=hf it (by simp)
    obtain ⟨rw_,hsz,hat⟩:=frzT_at2 I e hod
    exact DR.end_items (I.ok.hd hc) st rw_ (by omega) fun h' eb=>⟨rfl,I.turned (t':=s.toks) (fun b o' hb e'=>eb b o' hb e') f0 f1 f3 f4 f5⟩
  self:=fun _ _ _ _ _ st h=>by
    obtain ⟨ok,ov,st⟩:=st
    exact PySem.W.kcp_self st h
noncomputable def iItemsT (tl:TE):TI:=fun σ H R=>tl σ H fun x H1=>∃ (d:Addr) (kvs:List (List Key × V)),x=.ref d∧H1 d=some (.dT kvs)∧∀ o:Obj,R (ItiT d o kvs) (upd H1 d (.frz o (.dT kvs)))
theorem pi_itemsT {X:Cx} {elts:List Expr} {k1:Nat} {p1 apos cpos:Pos} {o:Expr} {to:TE} (ho:PE X o to) (hbase:attributeBase o "items" X.env (eval o X.env)=eval o X.env:=by rfl) (hline:(apos.endLine == cpos.line)=true:=by rfl) :
    PI X (.Tuple elts k1 p1) (.Call (.Attribute o "items" apos) [] [] cpos) (iItemsT to):=by
  intro pins s σ H R I h
  refine wpAny_Call_method0_late hbase hline (thn (ho pins s σ H _ I h) fun v s1 ⟨x,H1,I1,r1,q1⟩=>?_)
  obtain ⟨d,kvs,e,hd,q⟩:=q1
  subst e
  obtain ⟨h1,h2⟩:=tyV_is (T:="dict") I1 r1 (.inr (.inr (.inl ⟨rfl,.inr ⟨kvs,hd⟩⟩)))
  cases r1
  obtain ⟨hz,lo,ob,es,ep,hob,hx,hod,hsz,hat⟩:=dt_raw2 I1.hok (Or.inl hd:Rd H1 d (.dT kvs))
  have dd:DR.Raw s1.heap d es ep:=⟨ob,hob,hx,hod⟩
  refine ⟨"dict", "dict.items",PySem.F.plainAttrs_dict,PySem.F.slot_dict_items,PySem.F.type_dict_items,h1,h2,Calls.callWith_builtin rfl (PySem.evalArgs_none ?_)⟩
  refine call_meetsIn PySem.F.slot_dict_items dd.typeIs PySem.F.entry_dict_items (PySem.F.args_dict_items_1 _) (DR.meets_items lo) ⟨⟨es,ep,dd⟩,?_⟩
  have I2:Inv X pins σ (upd H1 d (.frz ob (.dT kvs))) { s1 with heap:=s1.heap,toks:=s1.toks }:=by
    refine I1.write (x:=d) (e:=d) (h':=s1.heap) (t':=s1.toks) (by rw [hd]; exact trivial) (.inl rfl) (fun _ _ _ q=>q) ⟨ob,hob⟩ ⟨hob,?_⟩
    obtain ⟨z,y,xs,r,rest⟩:=(show ObjOk X.prog X.w H1 s1.heap d (.dT kvs) from I1.hok d _ hd)
    refine ⟨z,y,xs,Paired.mapP r fun p q ⟨a1,a2,a3⟩=>⟨a1,?_,a3⟩,rest⟩
    rw [upd_ne (ne_of a2 hd (by intro z; cases z))]
    exact a2
  have I3:Inv X pins σ (upd H1 d (.frz ob (.dT kvs))) { s1 with heap:=s1.heap.push { cls:=.type "dict_items",data:=.fields #[.ref d] } }:=I2.kept (t':=s1.toks) fun b o' e'=>Heap.get?_push_of_some _ e'
  generalize hg:s1.heap.push { cls:=.type "dict_items",data:=.fields #[.ref d] }=g at I3
  have hv:g.IsItemsView s1.heap.objs.size d:=⟨_,by rw [← hg]; exact Heap.get?_push_size _ rfl,rfl,rfl⟩
  have da':DR.Raw g d es ep:=⟨ob,by rw [← hg]; exact Heap.get?_push_of_some _ hob,hx,hod⟩
  refine DR.iter_items (s:={ s1 with heap:=g }) hv da' ?_
  have I4:Inv X pins σ (upd H1 d (.frz ob (.dT kvs))) { s1 with heap:=g.push { cls:=.type "dict_itemiterator",data:=.fields #[.none,.bool false,.ref d,.int 0 0,.int es.size 0,.int ep 0,.none,.none] } }:=I3.kept (t':=s1.toks) fun b o' e'=>Heap.get?_push_of_some _ e'
  refine ⟨g.objs.size,[g.objs.size],_,_,_,rfl,I4,turn_itemsT d _ ob kvs es ep hod,⟨_,_,Heap.get?_push_size _ rfl⟩,fun b hb=>?_,q ob⟩
  have e:b=g.objs.size:=by simpa using hb
  subst e
  exact I3.fpOk (Nat.le_refl _) (I3.hok.fresh (Nat.le_refl _))
noncomputable def prD (p:Str × Int):D:=.tup [.str p.1,.int p.2]
noncomputable def tSortI (to:TE):TE:=fun σ H Q=>to σ H fun x H1=>∃ (d:Addr) (ps:List (Str × Int)),x=.ref d∧H1 d=some (.dK (ps.map fun p=>(Sum.inr p.1,V.int p.2)))∧ps.length≤100000 ∧
  ∀ (l:Addr) (us:List V) (ds':List D) (H2:Hp),Same H1 H2→H1 l=none→H2 l=some (.lst us)→DenL H2 us ds'→ds'.Perm (ps.map prD)→UpD ds'→Q (.ref l) H2
theorem prD_hom (ps:List (Str × Int)):Hom (ps.map prD):=by
  refine ⟨fun d hd e he=>?_,.inr (.inr fun d hd=>?_)⟩
  · obtain ⟨a,_,rfl⟩:=List.mem_map.mp hd
    obtain ⟨b,_,rfl⟩:=List.mem_map.mp he
    exact Sim_t (SimL_c trivial (SimL_c trivial (SimL_n _)))
  · obtain ⟨a,_,rfl⟩:=List.mem_map.mp hd
    exact ⟨_,_,rfl⟩
theorem prD_shal (ps:List (Str × Int)):∀ d∈ps.map prD,Shal 50 d:=fun d hd=>by
  obtain ⟨a,_,rfl⟩:=List.mem_map.mp hd
  refine ⟨(fun z=>nomatch z),fun ds e=>?_⟩
  cases e
  refine ⟨by show 2≤100000; decide,fun e he=>?_⟩
  rcases List.mem_cons.mp he with rfl | he
  · exact ⟨(fun z=>nomatch z),fun _ z=>nomatch z⟩
  · rw [List.mem_singleton.mp he]
    exact ⟨(fun z=>nomatch z),fun _ z=>nomatch z⟩
theorem den_prs {H:Hp}:∀ {as:List Addr} {ps:List (Str × Int)},as.length=ps.length→(∀ q∈as.zip (ps.map fun p=>[V.str p.1,V.int p.2]),H q.1=some (.tup q.2))→DenL H (as.map V.ref) (ps.map prD)
  | [],[],_,_=>trivial
  | a :: as,p :: ps,hl,h=>⟨⟨a,_,rfl,h (a,[V.str p.1,V.int p.2]) (.head _),rfl,rfl,trivial⟩,den_prs (by simpa using hl) fun q hq=>h q (.tail _ hq)⟩
  | [],_ :: _,h,_=>by simp at h
  | _ :: _,[],h,_=>by simp at h
theorem vals_refs:∀ as:List Addr,Vals (as.map V.ref) (as.map Value.ref)
  | []=>.nil
  | _ :: as=>.cons rfl (vals_refs as)
theorem pe_sortIt {X:Cx} {o:Expr} {to:TE} {p apos cpos pos:Pos} (hc:X.calm=true) (hu:X.A.units+64 < cLine) (hg:Gl X "sorted") (hm:X.mg "sorted" = none) (ho:PE X o to)
    (hbase:attributeBase o "items" X.env (eval o X.env)=eval o X.env:=by rfl) (hline:(apos.endLine == cpos.line)=true:=by rfl)
    (he:starEach [.Call (.Attribute o "items" apos) [] [] cpos] X.env=(false,eval (.Call (.Attribute o "items" apos) [] [] cpos) X.env) :: starEach [] X.env:=by rfl) :
    PE X (.Call (.Name "sorted" p) [.Call (.Attribute o "items" apos) [] [] cpos] [] pos) (tSortI to):=by
  intro pins s σ H Q I h
  refine wpAny_Call_Name_kw (ld_blt I hg hm boot_sorted ?_ (by decide) (by decide))
  refine PyProof.Rows.callWith_builtin1 ?_ he rfl
  rw [he]
  show wpAny _ _ (spliced ((false,eval _ X.env) :: backTo pos (starEach [] X.env))) _ _ s
  refine Calls.spliced_cons ?_
  refine wpAny_Call_method0_late hbase hline (thn (ho pins s σ H _ I h) fun v s1 ⟨x,H1,I1,r1,q1⟩=>?_)
  obtain ⟨d,ps,e,hd,hpl,q⟩:=q1
  subst e
  obtain ⟨h1,h2⟩:=tyV_is (T:="dict") I1 r1 (.inr (.inr (.inl ⟨rfl,.inl ⟨_,hd⟩⟩)))
  cases r1
  obtain ⟨hz,lo,vs,rel,dd⟩:=dk_of I1.hok hd
  refine ⟨"dict", "dict.items",PySem.F.plainAttrs_dict,PySem.F.slot_dict_items,PySem.F.type_dict_items,h1,h2,Calls.callWith_builtin rfl (PySem.evalArgs_none ?_)⟩
  refine call_meetsIn PySem.F.slot_dict_items dd.typeIs PySem.F.entry_dict_items (PySem.F.args_dict_items_1 _) (meets_dict_items (mixKind X.prog X.w) d lo) ⟨⟨vs,dd⟩,?_⟩
  obtain ⟨ep,da⟩:=dd.dictAt
  have I3:Inv X pins σ H1 { s1 with heap:=s1.heap.push { cls:=.type "dict_items",data:=.fields #[.ref d] } }:=I1.kept (t':=s1.toks) fun b o' e'=>Heap.get?_push_of_some _ e'
  have da':=da.push { cls:=.type "dict_items",data:=.fields #[.ref d] }
  have hv:(s1.heap.push { cls:=.type "dict_items",data:=.fields #[.ref d] }).IsItemsView s1.heap.objs.size d:=⟨_,Heap.get?_push_size _ rfl,rfl,rfl⟩
  generalize s1.heap.push { cls:=.type "dict_items",data:=.fields #[.ref d] }=g0 at I3 da' hv
  refine Calls.spliced_nil ?_
  have hl:vs.length=ps.length:=by rw [← rel.length,List.length_map]
  refine SO.sorted_ofGB (O:=ordD) (s:={ s1 with heap:=g0 }) (fun its g tk=>∃ as:List Addr,its=as.map Value.ref∧(∀ b o,g0.get? b=some o→g.get? b=some o)∧as.length=vs.length∧PySem.W.KdxG (mixKind X.prog X.w) vs g0.objs.size g as)
    (fun Q' q'=>PySem.W.kdx_collect (s:={ s1 with heap:=g0 }) (by first | exact I.ok.hd hc | simp [I.ok.hd hc]) hv da' (by rw [hl]; rw [sizeLine_eq]; omega) fun g tk as kp hal hG=>q' _ _ _ ⟨as,rfl,kp,hal,hG⟩) ?_
  rintro its g tk ⟨as,rfl,kp,hal,hG⟩
  have hap:as.length=ps.length:=hal.trans hl
  have hnd:((as.zip (ps.map fun p=>[V.str p.1,V.int p.2])).map (·.1)).Nodup:=by
    rw [List.map_fst_zip (by rw [List.length_map,hap]; exact Nat.le_refl _)]
    exact hG.rise.imp fun h=>Nat.ne_of_lt h
  have hin:∀ q∈as.zip (ps.map fun p=>[V.str p.1,V.int p.2]),q.1∈as:=fun q hq=>(List.of_mem_zip hq).1
  have hob:∀ q∈as.zip (ps.map fun p=>[V.str p.1,V.int p.2]),∃ its:List Value,Vals q.2 its∧q.2.length=2∧g.get? q.1=some { cls:=.type "tuple",data:=.seq its.toArray }:=by
    intro q hq
    obtain ⟨j,hj⟩:=List.mem_iff_getElem?.mp hq
    rw [List.getElem?_zip_eq_some] at hj
    obtain ⟨ja,jp⟩:=hj
    obtain ⟨key,k,x,hk,his,hge⟩:=hG.pairs j q.1 ja
    obtain ⟨kv,hkv,e1,e2⟩:=rel.at_ j (k,x) hk
    rw [List.getElem?_map] at hkv jp
    cases hp:ps[j]? with
    | none=>rw [hp] at jp; cases jp
    | some pr =>
      rw [hp] at jp hkv
      have ek:kv=(Sum.inr pr.1,V.int pr.2):=(Option.some.inj hkv).symm
      have eq:q.2=[V.str pr.1,V.int pr.2]:=(Option.some.inj jp).symm
      rw [ek] at e1 e2
      rw [eq]
      have rk:=rel_key his
      rw [← (show (Sum.inr pr.1:Key)=k from e1)] at rk
      exact ⟨[key,x],.cons rk (.cons e2 .nil),rfl,hge⟩
  have I5:Inv X pins σ (updL H1 (as.zip (ps.map fun p=>[V.str p.1,V.int p.2]))) { s1 with heap:=g,toks:=tk }:=I3.laidL (t':=tk) kp (fun q hq=>Nat.le_of_lt (hG.above _ (hin q hq))) fun q hq=>by
    obtain ⟨its,r,h2,hge⟩:=hob q hq
    exact ⟨by rw [h2,sizeLine_eq]; decide,its,r,_,hge,rfl,0,rfl⟩
  have sm:Same H1 (updL H1 (as.zip (ps.map fun p=>[V.str p.1,V.int p.2]))):=updL_same fun q hq=>I3.hok.fresh (Nat.le_of_lt (hG.above _ (hin q hq)))
  have hD:DenL (updL H1 (as.zip (ps.map fun p=>[V.str p.1,V.int p.2]))) (as.map V.ref) (ps.map prD):=den_prs hap fun q hq=>updL_get hnd hq
  generalize updL H1 (as.zip (ps.map fun p=>[V.str p.1,V.int p.2]))=H5 at I5 sm hD
  have rv:=vals_refs as
  obtain ⟨κ,hk,hcm⟩:=sobl hu I5 hD rv (prD_hom ps) (by rw [List.length_map]; exact hpl) (prD_shal ps)
  have hle:(as.map Value.ref).length=ps.length:=by rw [List.length_map,hap]
  refine ⟨fun i=>(ps.map prD).getD i .non,κ,by rw [hle]; exact hpl,fun h2 h' kp' E Q q=>hk h2 h' kp' E Q q,fun h' kp'=>hcm h' kp',fun g' pp kp' hpp hs hob'=>?_⟩
  obtain ⟨m,hob'⟩:=hob'
  have hlt:∀ i∈pp.toList,i < ps.length:=fun i hi=>by rw [← hle]; exact List.mem_range.mp (hpp.mem_iff.mp hi)
  have hps:pp.toList.length=ps.length:=by rw [← hle]; simpa using hpp.length_eq
  have hU:=vals_map rv pp.toList fun i hi=>by rw [List.length_map,hap]; exact hlt i hi
  refine ⟨.ref _,_,I5.laid (t':=tk) (o:=.lst (pp.toList.map fun i=>(as.map V.ref).getD i .non)) kp' (Nat.le_refl _) ⟨?_,_,m,hU,hob'⟩,rfl,q _ _ (pp.toList.map fun i=>(ps.map prD).getD i .non) _ (sm.trans (same_new (I5.hok.fresh (Nat.le_refl _)) _)) ?_ upd_same ((denL_map hD _ fun i hi=>by have:=hlt i hi; simpa using this).same (same_new (I5.hok.fresh (Nat.le_refl _)) _)) ?_ ?_⟩
  · rw [List.length_map,hps,sizeLine_eq]
    omega
  · cases e:H1 g.objs.size with
    | none=>rfl
    | some o'=>exact absurd (I5.hok.fresh (Nat.le_refl _)) (by rw [sm _ _ e]; simp)
  · have e:(List.range (as.map Value.ref).length).map (fun i=>(ps.map prD).getD i .non)=ps.map prD:=by
      apply List.ext_getElem
      · simp [hap]
      · intro i h1 h2
        simp [List.getD_eq_getElem?_getD] at h2 ⊢
        simp [h2]
    have:=hpp.map fun i=>(ps.map prD).getD i D.non
    rw [e] at this
    exact this
  · unfold UpD
    rw [List.pairwise_iff_getElem]
    intro i j hi hj hij
    have h:=hs i j (Nat.le_of_lt hij) (by rw [hle,← hps]; simpa using hj)
    have e:∀ k (hk:k < pp.toList.length),SO.KN (O:=ordD) (fun i=>(ps.map prD).getD i .non) pp k=(pp.toList.map fun i=>(ps.map prD).getD i D.non)[k]'(by rw [List.length_map]; exact hk):=by
      intro k hk
      have hk':k < pp.size:=by simpa using hk
      unfold SO.KN
      rw [List.getElem_map]
      congr 1
      simp [Array.getD,hk']
    rw [e i (by simpa using hi),e j (by simpa using hj)] at h
    exact h
end L2
namespace L2
open PySem PySem.Spec PyProof.Rows
theorem noFill_tmul:fillsNumberSlot (.type "tuple") "mul" = pure false :=
  PySem.fillsNumberSlot_seq (id:="tuple.__mul__") (r:=some (.builtin "tuple.__rmul__")) F.slot_tuple_mul.lookup (by decide +kernel) F.slot_tuple_rmul.lookup (by decide +kernel)
theorem repeat_tup:seqRepeat? (.type "tuple")=pure (some (.builtin "tuple.__mul__")):=by
  unfold seqRepeat?
  rw [PySem.seqSlot_of (T:="tuple") (name:="__mul__") (id:="tuple.__mul__") F.slot_tuple_mul.lookup (by decide +kernel),PySem.seqSlot_of (T:="tuple") (name:="__rmul__") (id:="tuple.__rmul__") F.slot_tuple_rmul.lookup (by decide +kernel)]
  rfl
theorem int_rmul_tup (a:Int) (t:Tok) (l:Addr) (items:Array Value) (n:Nat) (dd:Option Addr) (sl:Array (Option Value)) :
    Meets (Builtin.«int.__rmul__» ⟨[.int a t,.ref l],[]⟩) (fun _ R s=>s.heap.get? l=some { cls:=.type "tuple",dict:=dd,data:=.seq items n,slots:=sl }∧R (.ok (.ret Value.notImplemented)) s) :=
  .of_wp fun prog w A R s h=>by obtain ⟨hp,g,d,tk,os⟩:=s; obtain ⟨hl,h⟩:=h; wp_walk; exact ⟨_,rfl,h⟩
theorem tuple_mul0 (v:Value) (t:Tok) (l:Addr) (n:Nat) (dd:Option Addr) (sl:Array (Option Value)) :
    Meets (Builtin.«tuple.__mul__» ⟨[.ref l,.int 0 t],[]⟩) (fun _ R s=>s.heap.get? l=some { cls:=.type "tuple",dict:=dd,data:=.seq #[v] n,slots:=sl }∧R (.ok (.ret (.ref s.heap.objs.size))) { s with heap:=s.heap.push { cls:=.type "tuple",data:=.seq #[] } }) :=
  .of_wp fun prog w A R s h=>by obtain ⟨hp,g,d,tk,os⟩:=s; obtain ⟨hl,h⟩:=h; wp_walk; exact ⟨_,rfl,h⟩
theorem tuple_mul1 (v:Value) (t:Tok) (l:Addr) (n:Nat) (dd:Option Addr) (sl:Array (Option Value)) :
    Meets (Builtin.«tuple.__mul__» ⟨[.ref l,.int 1 t],[]⟩) (fun _ R s=>s.heap.get? l=some { cls:=.type "tuple",dict:=dd,data:=.seq #[v] n,slots:=sl }∧R (.ok (.ret (.ref l))) s) :=
  .of_wp fun prog w A R s h=>by obtain ⟨hp,g,d,tk,os⟩:=s; obtain ⟨hl,h⟩:=h; wp_walk; exact ⟨_,rfl,h⟩
noncomputable def rRep01 (K:PySem.W.Frag):R2:=fun x y H Q=>∃ (a:Addr) (v:V) (k:Nat),x=.ref a∧y=.int (k:Nat)∧SqT K H a [v]∧((k=0∧∀ p,H p=none→Q (.ref p) (upd H p (.tup [])))∨(k=1∧Q (.ref a) H))
theorem op_rep01 {X:Cx}:OpR X (binaryOp .Mult) (rRep01 X.K):=by
  intro pins s σ H x y v u Q I rx ry h
  obtain ⟨a,w,k,rfl,rfl,ha,hq⟩:=h
  cases rx
  obtain ⟨t,rfl⟩:=ry
  obtain ⟨its,r1,p1,_⟩:=I.tuple ha
  cases r1 with
  | cons rv rn =>
    rename_i v' its'
    cases rn
    obtain ⟨⟨cls,dd,data,sl⟩,ho,hc,n,hd⟩:=id p1
    simp only at hc hd
    subst hc hd
    rcases hq with ⟨rfl,q⟩ | ⟨rfl,q⟩
    · exact wpAny_binaryOp_repeat_ref (T:="tuple") (U:="int") (by decide) ⟨_,ho,rfl⟩ (fun s'=>typeIs_int s' _ t) noFill_tmul F.fills_int_mul F.slot_int_rmul repeat_tup F.slot_int_index.lookup
        (call_meets F.slot_int_rmul (typeIs_int s _ t) F.entry_int_rmul (F.args_int_rmul_2 _ _) (int_rmul_tup 0 t a _ n dd sl)
          ⟨ho,rfl,⟨_,ho,rfl⟩,call_meets F.slot_tuple_mul ⟨_,ho,rfl⟩ F.entry_tuple_mul (F.args_tuple_mul_2 _ _) (tuple_mul0 v' t a n dd sl) ⟨ho,.ref s.heap.objs.size,_,I.laid (t':=s.toks) (o:=.tup []) (fun b ob q=>Heap.get?_push_of_some _ q) (Nat.le_refl _) ⟨by rw [sizeLine_eq]; decide,[],.nil,IsTup.new _ _⟩,rfl,q _ I.fresh⟩⟩)
    · exact wpAny_binaryOp_repeat_ref (T:="tuple") (U:="int") (by decide) ⟨_,ho,rfl⟩ (fun s'=>typeIs_int s' _ t) noFill_tmul F.fills_int_mul F.slot_int_rmul repeat_tup F.slot_int_index.lookup
        (call_meets F.slot_int_rmul (typeIs_int s _ t) F.entry_int_rmul (F.args_int_rmul_2 _ _) (int_rmul_tup 1 t a _ n dd sl)
          ⟨ho,rfl,⟨_,ho,rfl⟩,call_meets F.slot_tuple_mul ⟨_,ho,rfl⟩ F.entry_tuple_mul (F.args_tuple_mul_2 _ _) (tuple_mul1 v' t a n dd sl) ⟨ho,.ref a,H,I,rfl,q⟩⟩)
end L2
namespace L2
open PySem PySem.Spec PyProof.Rows
theorem for_byJ {J:It} {g:TG} {tb:TS} {D:Ends} {σ:St} {H:Hp} (n:Nat) (Pv:Nat→St→Hp→Prop) (h0:Pv 0 σ H) (hstop:∀ σ H,Pv n σ H→J.stop n H∧D.nx σ H)
    (hgo:∀ i σ H,i < n→Pv i σ H→J.go i H∧∀ x H',J.yld i H x H'→g x σ H' fun σ2 H2=>tb { D with nx:=Pv (i+1),ct:=Pv (i+1),bk:=D.nx } σ2 H2) :
    ∃ W:Nat→Nat→St→Hp→Prop,(∃ m,W 0 m σ H)∧∀ i m σ H,W i m σ H →
      (J.stop i H∧D.nx σ H)∨(J.go i H∧∃ N:St→Hp→Prop,(∀ σ' H',N σ' H'→∃ m',m' < m∧W (i+1) m' σ' H')∧∀ x H',J.yld i H x H'→g x σ H' fun σ2 H2=>tb { D with nx:=N,ct:=N,bk:=D.nx } σ2 H2):=by
  refine ⟨fun i m σ H=>m=n - i∧i≤n∧Pv i σ H,⟨n,by simp,Nat.zero_le _,h0⟩,?_⟩
  rintro i m σ H ⟨rfl,hi,p⟩
  by_cases h:i < n
  · obtain ⟨g1,g2⟩:=hgo i σ H h p
    exact .inr ⟨g1,Pv (i+1),fun σ' H' q=>⟨n - (i+1),by omega,rfl,h,q⟩,g2⟩
  · have e:i=n:=by omega
    subst e
    exact .inl (hstop σ H p)
end L2
set_option Elab.async false
set_option linter.all false
set_option maxRecDepth 100000
namespace L2
open PySem PySem.Spec PyProof.Rows
noncomputable def kvE (p:Str × Int):Key × V:=(Sum.inr p.1,.int p.2)
structure Rep (f:Str→Nat) (ps:List (Str × Int)):Prop where
  nd:(ps.map (·.1)).Nodup
  mem:∀ w,w∈ps.map (·.1)↔0 < f w
  val:∀ p∈ps,p.2=(f p.1:Nat)
theorem Rep.nil:Rep (fun _=>0) []:=⟨.nil,fun w=>by simp,fun p h=>nomatch h⟩
theorem Rep.congr {f g:Str→Nat} {ps:List (Str × Int)} (h:Rep f ps) (e:∀ w,f w=g w):Rep g ps:=by
  have:f=g:=funext e
  exact this ▸ h
theorem Rep.in_ {f:Str→Nat} {ps:List (Str × Int)} (h:Rep f ps) (p:Str × Int):p∈ps↔0 < f p.1∧p.2=(f p.1:Nat):=by
  constructor
  · intro hp
    exact ⟨(h.mem p.1).mp (List.mem_map_of_mem hp),h.val p hp⟩
  · rintro ⟨h0,h1⟩
    obtain ⟨q,hq,e⟩:=List.mem_map.mp ((h.mem p.1).mpr h0)
    have:=h.val q hq
    have e2:q=p:=Prod.ext e (by rw [this,h1,e])
    exact e2 ▸ hq
theorem nd_fst:∀ {ps:List (Str × Int)},(ps.map (·.1)).Nodup→ps.Nodup
  | [],_=>.nil
  | p :: ps,h=>by
    rw [List.map_cons,List.nodup_cons] at h
    exact List.nodup_cons.mpr ⟨fun z=>h.1 (List.mem_map_of_mem (f:=(·.1)) z),nd_fst h.2⟩
theorem Rep.perm {f:Str→Nat} {ps qs:List (Str × Int)} (h:Rep f ps) (k:Rep f qs):ps.Perm qs :=
  (List.perm_ext_iff_of_nodup (nd_fst h.nd) (nd_fst k.nd)).mpr fun p=>(h.in_ p).trans (k.in_ p).symm
theorem Rep.get {f:Str→Nat}:∀ {ps:List (Str × Int)},Rep f ps→∀ w,valV (ps.map kvE) (Sum.inr w)=if 0 < f w then some (.int (f w:Nat)) else none:=by
  intro ps h w
  have aux:∀ qs:List (Str × Int),(∀ q∈qs,q∈ps)→(w∈qs.map (·.1)→valV (qs.map kvE) (Sum.inr w)=some (.int (f w:Nat)))∧(w ∉ qs.map (·.1)→valV (qs.map kvE) (Sum.inr w)=none):=by
    intro qs
    induction qs with
    | nil=>exact fun _=>⟨fun z=>by simp at z,fun _=>rfl⟩
    | cons q qs ih =>
      intro hq
      obtain ⟨i1,i2⟩:=ih fun r hr=>hq r (.tail _ hr)
      by_cases e:q.1=w
      · refine ⟨fun _=>?_,fun z=>absurd (by simp [e]) z⟩
        rw [List.map_cons,valV_pos (show (kvE q).1=Sum.inr w by rw [← e]; rfl)]
        show some (V.int q.2)=_
        rw [h.val q (hq q (.head _)),e]
      · have ne:¬ (kvE q).1=Sum.inr w:=fun z=>e (Sum.inr.inj z)
        rw [show (q :: qs).map kvE=kvE q :: qs.map kvE from rfl,valV_neg ne,List.map_cons]
        refine ⟨fun z=>i1 ?_,fun z=>i2 fun y=>z (.tail _ y)⟩
        rcases List.mem_cons.mp z with y | y
        · exact absurd y.symm e
        · exact y
  obtain ⟨a1,a2⟩:=aux ps fun _ z=>z
  by_cases h0:0 < f w
  · rw [if_pos h0,a1 ((h.mem w).mpr h0)]
  · rw [if_neg h0,a2 fun z=>h0 ((h.mem w).mp z)]
theorem Rep.getD {f:Str→Nat} {ps:List (Str × Int)} (h:Rep f ps) (w:Str):(valV (ps.map kvE) (Sum.inr w)).getD (.int 0)=.int (f w:Nat):=by
  rw [h.get]
  split
  · rfl
  · have:f w=0:=by omega
    rw [this]
    rfl
noncomputable def putP (ps:List (Str × Int)) (w:Str) (c:Int):List (Str × Int):=if w∈ps.map (·.1) then ps.map fun p=>if p.1=w then (p.1,c) else p else ps++[(w,c)]
theorem putP_put (ps:List (Str × Int)) (w:Str) (c:Int):putK (ps.map kvE) (Sum.inr w) (.int c)=(putP ps w c).map kvE:=by
  unfold putK putP
  have e:((ps.map kvE).any fun kv=>decide (kv.1=Sum.inr w))=decide (w∈ps.map (·.1)):=by
    rw [Bool.eq_iff_iff,List.any_eq_true,decide_eq_true_eq]
    constructor
    · rintro ⟨kv,hk,he⟩
      obtain ⟨p,hp,rfl⟩:=List.mem_map.mp hk
      have:=Sum.inr.inj (of_decide_eq_true he)
      exact this ▸ List.mem_map_of_mem hp
    · intro h
      obtain ⟨p,hp,rfl⟩:=List.mem_map.mp h
      exact ⟨kvE p,List.mem_map_of_mem hp,decide_eq_true rfl⟩
  rw [e]
  by_cases h:w∈ps.map (·.1)
  · rw [if_pos (decide_eq_true h),if_pos h,List.map_map,List.map_map]
    refine List.map_congr_left fun p _=>?_
    show (if (kvE p).1=Sum.inr w then ((kvE p).1,V.int c) else kvE p)=kvE (if p.1=w then (p.1,c) else p)
    by_cases e:p.1=w
    · rw [if_pos (show (kvE p).1=Sum.inr w by rw [← e]; rfl),if_pos e]
      rfl
    · rw [if_neg (show ¬ (kvE p).1=Sum.inr w from fun z=>e (Sum.inr.inj z)),if_neg e]
  · rw [if_neg (by rw [decide_eq_true_eq]; exact h),if_neg h,List.map_append]
    rfl
theorem Rep.put {f:Str→Nat} {ps:List (Str × Int)} (h:Rep f ps) (w:Str) {c:Nat} (hc:0 < c):Rep (fun x=>if x=w then c else f x) (putP ps w (c:Nat)):=by
  unfold putP
  by_cases hw:w∈ps.map (·.1)
  · rw [if_pos hw]
    have e1:(ps.map fun p=>if p.1=w then (p.1,(c:Int)) else p).map (·.1)=ps.map (·.1):=by
      rw [List.map_map]
      refine List.map_congr_left fun p _=>?_
      show (if p.1=w then (p.1,(c:Int)) else p).1=p.1
      split <;> rfl
    refine ⟨by rw [e1]; exact h.nd,fun x=>?_,fun p hp=>?_⟩
    · rw [e1,h.mem]
      by_cases e:x=w
      · rw [if_pos e,e]
        exact ⟨fun _=>hc,fun _=>(h.mem w).mp hw⟩
      · rw [if_neg e]
    · obtain ⟨q,hq,rfl⟩:=List.mem_map.mp hp
      by_cases e:q.1=w
      · simp only [if_pos e]
      · simp only [if_neg e]
        exact h.val q hq
  · rw [if_neg hw]
    refine ⟨?_,fun x=>?_,fun p hp=>?_⟩
    · rw [List.map_append,List.nodup_append]
      refine ⟨h.nd,by simp,fun a ha b hb e=>?_⟩
      have:b=w:=by simpa using hb
      exact hw (this ▸ e ▸ ha)
    · rw [List.map_append,List.mem_append,h.mem]
      by_cases e:x=w
      · rw [if_pos e]
        exact ⟨fun _=>hc,fun _=>.inr (by simp [e])⟩
      · rw [if_neg e]
        exact ⟨fun z=>z.resolve_right fun y=>e (by simpa using y),.inl⟩
    · rcases List.mem_append.mp hp with hp | hp
      · have:p.1≠w:=fun e=>hw (e ▸ List.mem_map_of_mem hp)
        rw [if_neg this]
        exact h.val p hp
      · have:p=(w,(c:Int)):=by simpa using hp
        rw [this,if_pos rfl]
theorem putP_len (ps:List (Str × Int)) (w:Str) (c:Int):(putP ps w c).length≤ps.length+1:=by
  unfold putP
  split
  · rw [List.length_map]; omega
  · rw [List.length_append,List.length_singleton]; exact Nat.le_refl _
structure TalD (f:Str→Nat) (ds:List D):Prop where
  up:UpD ds
  ex:∃ ps,ds.Perm (ps.map prD)∧Rep f ps
theorem TalD.det {f:Str→Nat} {ds es:List D} (h:TalD f ds) (k:TalD f es):ds=es:=by
  obtain ⟨ps,p1,r1⟩:=h.ex
  obtain ⟨qs,p2,r2⟩:=k.ex
  exact upD_unique h.up k.up (p1.trans (((r1.perm r2).map prD).trans p2.symm))
end L2
set_option Elab.async false
set_option linter.all false
set_option maxRecDepth 100000
namespace L2
open PySem PySem.Spec PyProof.Rows M08
noncomputable def nl:Nat→D→Nat
  | n+1,.tup ds=>(ds.map (nl n)).sum
  | 0,.str _=>1
  | _,_=>0
theorem lvs_len:∀ (n:Nat) (ks:List Int) (d:D),(lvs n ks d).length=nl n d
  | 0,ks,.str x=>rfl
  | 0,_,.non=>rfl
  | 0,_,.bl _=>rfl
  | 0,_,.int _=>rfl
  | 0,_,.tup _=>rfl
  | n+1,ks,.tup ds=>flatMap_zip _ (nl n) (fun x i=>lvs_len n _ x) ds 0
  | _+1,_,.non=>rfl
  | _+1,_,.bl _=>rfl
  | _+1,_,.int _=>rfl
  | _+1,_,.str _=>rfl
noncomputable abbrev Rw:=List Int × (Str→Nat)
noncomputable def cntW (ws:List Str):Str→Nat:=fun w=>ws.count w
noncomputable def rwsL (F:D→List Str→List Rw) (g:D→Nat):List D→Nat→List Str→List Rw
  | [],_,_=>[]
  | d :: ds,k,ws=>(F d (ws.take (g d))).map (fun r=>(((k:Nat):Int) :: r.1,r.2))++rwsL F g ds (k+1) (ws.drop (g d))
noncomputable def rws:Nat→D→List Str→List Rw
  | n+1,.tup ds,ws=>([],cntW ws) :: rwsL (rws n) (nl n) ds 0 ws
  | _,_,_=>[]
noncomputable def ins:Nat→List Int→D→List (List Int)
  | n+1,ks,.tup ds=>ks :: ds.zipIdx.flatMap fun p=>ins n (ks++[((p.2:Nat):Int)]) p.1
  | _,_,_=>[]
theorem nds_ins:∀ (n:Nat) (ks:List Int) (d:D),Tr n d→((nds n ks d).filter fun p=>!isS p.2).map (·.1)=ins n ks d
  | 0,ks,d,h=>by
    obtain ⟨x,rfl⟩:=h
    rfl
  | n+1,ks,d,h=>by
    obtain ⟨ds,rfl,h⟩:=h
    have key:∀ (es:List D) (k:Nat),(∀ e∈es,Tr n e)→(((es.zipIdx k).flatMap fun p=>nds n (ks++[((p.2:Nat):Int)]) p.1).filter fun p=>!isS p.2).map (·.1)=((es.zipIdx k).flatMap fun p=>ins n (ks++[((p.2:Nat):Int)]) p.1):=by
      intro es
      induction es with
      | nil=>intro k _; rfl
      | cons e es ih =>
        intro k he
        rw [List.zipIdx_cons,List.flatMap_cons,List.flatMap_cons,List.filter_append,List.map_append,nds_ins n _ e (he e List.mem_cons_self),ih _ fun x hx=>he x (List.mem_cons_of_mem _ hx)]
    have:=key ds 0 h
    simpa [nds,ins,isS] using this
theorem mem_zip {α β:Type} {f:α × Nat→List β} {ds:List α} {k:Nat} {b:β} (h:b∈(ds.zipIdx k).flatMap f):∃ (i:Nat) (d:α),ds[i]?=some d∧b∈f (d,k+i):=by
  obtain ⟨p,hp,hb⟩:=List.mem_flatMap.mp h
  have:=List.mem_zipIdx hp
  obtain ⟨h1,h2,h3⟩:=this
  refine ⟨p.2 - k,p.1,?_,?_⟩
  · rw [List.getElem?_eq_getElem (by omega),h3]
  · rw [show k+(p.2 - k)=p.2 by omega]
    exact hb
theorem lvs_at:∀ {n:Nat} {ks:List Int} {d:D},Tr n d→∀ l∈lvs n ks d,∃ r,l.1=ks++r∧r.length=n
  | 0,ks,d,h,l,hl=>by
    obtain ⟨x,rfl⟩:=h
    have:l=(ks,_):=List.mem_singleton.mp hl
    rw [this]
    exact ⟨[],(List.append_nil _).symm,rfl⟩
  | n+1,ks,d,h,l,hl=>by
    obtain ⟨ds,rfl,h⟩:=h
    obtain ⟨i,e,he,hb⟩:=mem_zip (f:=fun p:D × Nat=>lvs n (ks++[((p.2:Nat):Int)]) p.1) hl
    obtain ⟨r,e1,e2⟩:=lvs_at (h e (List.mem_of_getElem? he)) l hb
    exact ⟨_ :: r,by rw [e1,List.append_assoc]; rfl,by rw [List.length_cons,e2]⟩
theorem ins_at:∀ {n:Nat} {ks:List Int} {d:D},∀ q∈ins n ks d,∃ r,q=ks++r∧r.length < n
  | n+1,ks,.tup ds,q,hq=>by
    rcases List.mem_cons.mp hq with rfl | hq
    · exact ⟨[],(List.append_nil _).symm,Nat.succ_pos _⟩
    · obtain ⟨i,e,he,hb⟩:=mem_zip (f:=fun p:D × Nat=>ins n (ks++[((p.2:Nat):Int)]) p.1) hq
      obtain ⟨r,e1,e2⟩:=ins_at q hb
      exact ⟨_ :: r,by rw [e1,List.append_assoc]; rfl,by rw [List.length_cons]; omega⟩
  | 0,_,d,q,hq=>by cases d <;> cases hq
  | _+1,_,.non,q,hq=>nomatch hq
  | _+1,_,.bl _,q,hq=>nomatch hq
  | _+1,_,.int _,q,hq=>nomatch hq
  | _+1,_,.str _,q,hq=>nomatch hq
theorem above:∀ {n:Nat} {ks:List Int} {d:D},Tr n d→∀ l∈lvs n ks d,∀ j,ks.length≤j→j < l.1.length→l.1.take j∈ins n ks d
  | 0,ks,d,h,l,hl,j,h1,h2=>by
    obtain ⟨r,e1,e2⟩:=lvs_at h l hl
    rw [e1,List.length_append,e2] at h2
    omega
  | n+1,ks,d,h,l,hl,j,h1,h2=>by
    obtain ⟨r0,e0,_⟩:=lvs_at h l hl
    obtain ⟨ds,rfl,h⟩:=h
    by_cases e:j=ks.length
    · subst e
      rw [e0,List.take_left]
      exact .head _
    · obtain ⟨p,hp,hb⟩:=List.mem_flatMap.mp (show l∈ds.zipIdx.flatMap fun p=>lvs n (ks++[((p.2:Nat):Int)]) p.1 from hl)
      have hm:p.1∈ds:=by
        have:=List.mem_zipIdx hp
        rw [this.2.2]
        exact List.getElem_mem _
      refine .tail _ (List.mem_flatMap.mpr ⟨p,hp,above (h _ hm) l hb j ?_ h2⟩)
      rw [List.length_append,List.length_singleton]
      omega
theorem ins_nd:∀ {n:Nat} {ks:List Int} {d:D},(ins n ks d).Nodup
  | n+1,ks,.tup ds=>by
    have key:∀ (es:List D) (k:Nat),((es.zipIdx k).flatMap fun p=>ins n (ks++[((p.2:Nat):Int)]) p.1).Nodup:=by
      intro es
      induction es with
      | nil=>intro k; exact .nil
      | cons e es ih =>
        intro k
        rw [List.zipIdx_cons,List.flatMap_cons,List.nodup_append]
        refine ⟨ins_nd,ih _,fun a ha b hb z=>?_⟩
        obtain ⟨r,e1,_⟩:=ins_at a ha
        obtain ⟨i,e',_,hb'⟩:=mem_zip (f:=fun p:D × Nat=>ins n (ks++[((p.2:Nat):Int)]) p.1) hb
        obtain ⟨r',e2,_⟩:=ins_at b hb'
        rw [e1,e2,List.append_assoc,List.append_assoc] at z
        have:=List.append_cancel_left z
        injection this with this
        omega
    refine List.nodup_cons.mpr ⟨fun z=>?_,key ds 0⟩
    obtain ⟨i,e',_,hb'⟩:=mem_zip (f:=fun p:D × Nat=>ins n (ks++[((p.2:Nat):Int)]) p.1) z
    obtain ⟨r',e2,_⟩:=ins_at ks hb'
    have:=congrArg List.length e2
    rw [List.length_append,List.length_append,List.length_singleton] at this
    omega
  | 0,_,d=>by cases d <;> exact .nil
  | _+1,_,.non=>.nil
  | _+1,_,.bl _=>.nil
  | _+1,_,.int _=>.nil
  | _+1,_,.str _=>.nil
noncomputable abbrev Lw:=List Int × Str
noncomputable def pre (q p:List Int):Bool:=decide (q.length < p.length) && decide (p.take q.length=q)
noncomputable def cntU (W:List Lw) (q:List Int):Str→Nat:=fun w=>(W.filter fun l=>pre q l.1 && decide (l.2=w)).length
theorem cntU_app (W W':List Lw) (q:List Int) (w:Str):cntU (W++W') q w=cntU W q w+cntU W' q w:=by
  unfold cntU
  rw [List.filter_append,List.length_append]
theorem cntU_none {W:List Lw} {q:List Int} (h:∀ l∈W,pre q l.1=false) (w:Str):cntU W q w=0:=by
  unfold cntU
  rw [List.length_eq_zero_iff,List.filter_eq_nil_iff]
  intro l hl
  rw [h l hl]
  simp
theorem cntU_all {ls:List (List Int)} {ws:List Str} {q:List Int} (hl:ls.length=ws.length) (h:∀ l∈ls,pre q l=true) (w:Str):cntU (ls.zip ws) q w=cntW ws w:=by
  unfold cntU cntW
  induction ls generalizing ws with
  | nil =>
    cases ws with
    | nil=>rfl
    | cons _ _=>simp at hl
  | cons l ls ih =>
    cases ws with
    | nil=>simp at hl
    | cons x ws =>
      have e:=ih (ws:=ws) (by simpa using hl) fun l hl=>h l (.tail _ hl)
      rw [List.zip_cons_cons,List.filter_cons,List.count_cons,← e,h l (.head _)]
      by_cases z:x=w
      · simp [z]
      · simp [z]
theorem pre_app (ks r:List Int) (h:r≠[]):pre ks (ks++r)=true:=by
  unfold pre
  rw [List.take_left,List.length_append]
  have:0 < r.length:=List.length_pos_iff.mpr h
  simp
  omega
theorem pre_not {ks r r':List Int} {a b:Int} (h:a≠b):pre (ks++a :: r) (ks++b :: r')=false:=by
  unfold pre
  rw [Bool.and_eq_false_iff]
  refine .inr (decide_eq_false fun z=>?_)
  rw [List.length_append,List.take_length_add_append] at z
  have:=List.append_cancel_left z
  rw [List.length_cons,List.take_succ_cons] at this
  injection this with this
  exact h this.symm
noncomputable def pths (n:Nat) (ks:List Int) (d:D):List (List Int):=(lvs n ks d).map (·.1)
theorem pths_len (n:Nat) (ks:List Int) (d:D):(pths n ks d).length=nl n d:=by
  unfold pths
  rw [List.length_map,lvs_len]
theorem pths_at {n:Nat} {ks:List Int} {d:D} (h:Tr n d):∀ l∈pths n ks d,∃ r,l=ks++r∧r.length=n:=fun l hl=>by
  obtain ⟨x,hx,rfl⟩:=List.mem_map.mp hl
  exact lvs_at h x hx
theorem rws_ins:∀ {n:Nat} {ks:List Int} {d:D} {ws:List Str},Tr n d→ws.length=nl n d→(ins n ks d).map (fun q=>((q,cntU ((pths n ks d).zip ws) q):Rw))=(rws n d ws).map fun r=>(ks++r.1,r.2)
  | 0,ks,d,ws,h,_=>by
    obtain ⟨x,rfl⟩:=h
    rfl
  | n+1,ks,d,ws,h,hw=>by
    have hat:=fun l hl=>pths_at (ks:=ks) h l hl
    obtain ⟨ds,rfl,h⟩:=h
    have hw':ws.length=(ds.map (nl n)).sum:=hw
    have key:∀ (es:List D) (k:Nat) (vs:List Str),(∀ e∈es,Tr n e)→vs.length=(es.map (nl n)).sum →
        ((es.zipIdx k).flatMap fun p=>ins n (ks++[((p.2:Nat):Int)]) p.1).map (fun q=>((q,cntU ((((es.zipIdx k).flatMap fun p=>lvs n (ks++[((p.2:Nat):Int)]) p.1).map (·.1)).zip vs) q):Rw))=(rwsL (rws n) (nl n) es k vs).map fun r=>(ks++r.1,r.2):=by
      intro es
      induction es with
      | nil=>intro k vs _ _; rfl
      | cons e es ih =>
        intro k vs he hv
        rw [List.map_cons,List.sum_cons] at hv
        have h1:(vs.take (nl n e)).length=nl n e:=by rw [List.length_take]; omega
        have h2:(vs.drop (nl n e)).length=(es.map (nl n)).sum:=by rw [List.length_drop]; omega
        have i1:=rws_ins (ks:=ks++[((k:Nat):Int)]) (he e (.head _)) h1
        have i2:=ih (k+1) (vs.drop (nl n e)) (fun x hx=>he x (.tail _ hx)) h2
        have ez:(((((e :: es).zipIdx k).flatMap fun p=>lvs n (ks++[((p.2:Nat):Int)]) p.1).map (·.1)).zip vs)=(pths n (ks++[((k:Nat):Int)]) e).zip (vs.take (nl n e))++((((es.zipIdx (k+1)).flatMap fun p=>lvs n (ks++[((p.2:Nat):Int)]) p.1).map (·.1)).zip (vs.drop (nl n e))):=by
          rw [List.zipIdx_cons,List.flatMap_cons,List.map_append]
          conv=>lhs; rw [← List.take_append_drop (nl n e) vs]
          rw [List.zip_append (by rw [h1]; exact pths_len n _ e)]
          rfl
        have bel1:∀ l∈(pths n (ks++[((k:Nat):Int)]) e).zip (vs.take (nl n e)),∃ r,l.1=ks++((k:Nat):Int) :: r:=fun l hl=>by
          obtain ⟨r,e1,_⟩:=pths_at (he e (.head _)) l.1 (List.of_mem_zip hl).1
          exact ⟨r,by rw [e1,List.append_assoc]; rfl⟩
        have bel2:∀ l∈((((es.zipIdx (k+1)).flatMap fun p=>lvs n (ks++[((p.2:Nat):Int)]) p.1).map (·.1)).zip (vs.drop (nl n e))),∃ (i:Nat) (r:List Int),l.1=ks++(((k+1+i:Nat)):Int) :: r:=fun l hl=>by
          obtain ⟨x,hx,ex⟩:=List.mem_map.mp (List.of_mem_zip hl).1
          obtain ⟨i,e',he',hb⟩:=mem_zip (f:=fun p:D × Nat=>lvs n (ks++[((p.2:Nat):Int)]) p.1) hx
          obtain ⟨r,e1,_⟩:=lvs_at (he e' (.tail _ (List.mem_of_getElem? he'))) x hb
          exact ⟨i,r,by rw [← ex,e1,List.append_assoc]; rfl⟩
        rw [ez,List.zipIdx_cons,List.flatMap_cons,List.map_append]
        show _=((rws n e (vs.take (nl n e))).map (fun r=>(((k:Nat):Int) :: r.1,r.2))++rwsL (rws n) (nl n) es (k+1) (vs.drop (nl n e))).map _
        rw [List.map_append,← i2,List.map_map]
        congr 1
        · rw [show ((fun r:Rw=>(ks++r.1,r.2)) ∘ fun r:Rw=>(((k:Nat):Int) :: r.1,r.2))=fun r:Rw=>(ks++[((k:Nat):Int)]++r.1,r.2) from funext fun r=>by show (ks++(((k:Nat):Int) :: r.1),r.2)=_; rw [List.append_assoc]; rfl,← i1]
          refine List.map_congr_left fun q hq=>?_
          obtain ⟨r,eq,_⟩:=ins_at q hq
          congr 1
          funext w
          rw [cntU_app,cntU_none (W:=((((es.zipIdx (k+1)).flatMap fun p=>lvs n (ks++[((p.2:Nat):Int)]) p.1).map (·.1)).zip (vs.drop (nl n e)))) fun l hl=>?_]
          · rfl
          · obtain ⟨i,r',e'⟩:=bel2 l hl
            rw [eq,e',List.append_assoc]
            exact pre_not (by omega)
        · refine List.map_congr_left fun q hq=>?_
          obtain ⟨i,e',he',hb⟩:=mem_zip (f:=fun p:D × Nat=>ins n (ks++[((p.2:Nat):Int)]) p.1) hq
          obtain ⟨r,eq,_⟩:=ins_at q hb
          congr 1
          funext w
          rw [cntU_app,cntU_none (W:=(pths n (ks++[((k:Nat):Int)]) e).zip (vs.take (nl n e))) fun l hl=>?_,Nat.zero_add]
          obtain ⟨r',e'⟩:=bel1 l hl
          rw [eq,e',List.append_assoc]
          exact pre_not (by omega)
    have i3:=key ds 0 ws h hw'
    show ((ks,cntU ((pths (n+1) ks (.tup ds)).zip ws) ks):Rw) :: _=(ks++[],cntW ws) :: _
    rw [List.append_nil]
    have ec:cntU ((pths (n+1) ks (.tup ds)).zip ws) ks=cntW ws:=funext fun w=>cntU_all (by rw [pths_len]; exact hw.symm) (fun l hl=>by
      obtain ⟨r,e1,e2⟩:=hat l hl
      rw [e1]
      exact pre_app ks r fun z=>by rw [z] at e2; cases e2) w
    rw [ec]
    exact congrArg _ i3
end L2
set_option Elab.async false
set_option linter.all false
set_option maxRecDepth 100000
set_option maxHeartbeats 4000000
namespace Mine
open PySem L2 PyProof.Rows
noncomputable def top (i:Nat):Stmt:=PySem.Challenge.pw_twainkeep_k12_words_tallied.main.body.getD i (.Pass ⟨0,0,0,0⟩)
noncomputable abbrev sLongestAt:Stmt:=top 1
noncomputable abbrev sPiecesOf:Stmt:=top 2
noncomputable abbrev sCutUp:Stmt:=top 3
noncomputable abbrev sNodesOf:Stmt:=top 4
noncomputable abbrev sLeaves:Stmt:=top 5
noncomputable abbrev sTally:Stmt:=top 6
noncomputable abbrev sAddAlong:Stmt:=top 7
noncomputable abbrev sPot:Stmt:=top 9
noncomputable abbrev sTake:Stmt:=top 10
noncomputable abbrev sSeed:Stmt:=top 11
noncomputable abbrev sSame:Stmt:=top 12
noncomputable abbrev sText:Stmt:=top 13
noncomputable abbrev sMarks:Stmt:=top 14
noncomputable abbrev sRules:Stmt:=top 15
noncomputable abbrev sWords:Stmt:=top 16
noncomputable abbrev sCounted:Stmt:=top 17
noncomputable abbrev sLaw:Stmt:=top 18
noncomputable def spPot:Sp:=fun vs H Q _=>∃ c s:Int,vs=[.int c,.int s]∧∀ (p:Addr) (a b:Int),H p=none→Q (.ref p) (upd H p (.lst [.int a,.int b]))
noncomputable def spTake:Sp:=fun vs H Q _=>∃ (p:Addr) (m a b:Int),vs=[.ref p,.int m]∧H p=some (.lst [.int a,.int b])∧0 < m∧m < 2 ^ 64∧∀ r a' b':Int,0≤r→r < m→Q (.int r) (upd H p (.lst [.int a',.int b']))
noncomputable def spSeed (K:PySem.W.Frag):Sp:=fun vs H Q _=>∃ (a:Addr) (ns:List Int),vs=[.ref a]∧SqL K H a (ns.map V.int)∧∀ (z:Int) (H':Hp),Same H H'→Q (.int z) H'
noncomputable def spText:Sp:=fun vs H Q _=>∃ (p:Addr) (a b:Int),vs=[.ref p]∧H p=some (.lst [.int a,.int b])∧∀ (x:Str) (H':Hp),x.length≤400→Pot H p H'→Q (.str x) H'
section
variable {P:Program} {w:World} {K:PySem.W.Frag} {mg:Str→Option Value} {base:Heap}
theorem scPot:FnScope ["_law_cell", "_law_seed_here", "_law_number"] ["_law_cell", "_law_seed_here"] (defScope sPot):=⟨rfl,rfl,rfl,by decide +kernel,rfl,by decide +kernel,by decide +kernel⟩
theorem ok_pot {f:Addr} {fd:FuncData} (F:Fun K "_law_pot" "_law_pot" sPot f fd) (mabs:mg "abs" = none) (mint:mg "int" = none):FnOk P w K mg base CX0 1 f fd ["_law_cell", "_law_seed_here"] spPot:=by
  refine F.ok scPot (fun vs H Q E h=>?_) (fun cdv A outer s H vs Q E hr h=>?_)
  · obtain ⟨c,s,rfl,_⟩:=h
    rfl
  obtain ⟨c,s,rfl,k⟩:=h
  refine ⟨_,pss_cons (ps_set (i:=2) scPot.nd rfl (Or.inl rfl) (pe_op op_add (pe_op op_mul pe_int (pe_callB call_abs (by rfl) mabs boot_abs (pa_cons (pv 0) pa_nil)))
      (pe_callTy call_int1 (by rfl) mint boot_int (pa_cons (pe_cmpR op_lt (pv 0) pe_int (nomark _)) pa_nil))))
    (pss_cons (ps_if (pt_cmpR op_ge (pv 2) (pe_op op_pow pe_int pe_int) (nomark _)) (pss_one (ps_ret (pe_lst (pa_cons (pv 2) (pa_cons (pv 1) pa_nil))))) pss_nil)
    (pss_one (ps_ret (pe_lst (pa_cons pe_int (pa_cons (pe_op op_mod (pe_op op_add (pe_op op_add (pe_op op_mul (pv 1) pe_int) (pv 2)) pe_int) pe_int) pa_nil)))))),?_⟩
  refine ⟨_,rfl,_,rfl,_,_,rfl,rfl,.inl ⟨by decide,by decide⟩,_,rfl,_,_,rfl,rfl,.inr ⟨_,rfl,_,_,rfl,rfl,?_⟩⟩
  refine ⟨_,rfl,_,_,rfl,rfl,⟨by decide,by decide,by decide⟩,_,_,rfl,rfl,_,rfl,?_⟩
  refine ite2 (fun _=>?_) (fun _=>?_)
  · exact ⟨_,rfl,_,rfl,smn 2,fun l hl=>k l _ _ hl⟩
  · exact ⟨_,rfl,_,_,rfl,rfl,.inr ⟨by decide,by decide⟩,_,rfl,_,_,rfl,rfl,_,_,rfl,rfl,_,_,rfl,rfl,(by show (0:Int) < 2305843009213693951; decide),smn 2,fun l hl=>k l _ _ hl⟩
theorem scTake:FnScope ["_law_pot_here", "_law_many", "_law_value", "_law_twice"] ["_law_pot_here", "_law_many"] (defScope sTake):=⟨rfl,rfl,rfl,by decide +kernel,rfl,by decide +kernel,by decide +kernel⟩
theorem ok_take {f:Addr} {fd:FuncData} (F:Fun K "_law_take" "_law_take" sTake f fd):FnOk P w K mg base CX0 1 f fd ["_law_pot_here", "_law_many"] spTake:=by
  refine F.ok scTake (fun vs H Q E h=>?_) (fun cdv A outer s H vs Q E hr h=>?_)
  · obtain ⟨p,m,a,b,rfl,_⟩:=h
    rfl
  obtain ⟨p,m,a,b,rfl,hp,m0,m1,k⟩:=h
  refine ⟨_,pss_cons (ps_if (pt_cmpR op_gt (pe_ix ix_list (pv 0) pe_int (fun _ _=>rfl)) pe_int (nomark _))
      (pss_cons (ps_set (i:=2) scTake.nd rfl (Or.inl rfl) (pe_op op_mod (pe_ix ix_list (pv 0) pe_int (fun _ _=>rfl)) (pv 1)))
      (pss_cons (ps_asg (pe_op op_fdivB (pe_ix ix_list (pv 0) pe_int (fun _ _=>rfl)) (pv 1)) (pg_sub (pv 0) pe_int set_list))
      (pss_one (ps_ret (pv 2))))) pss_nil)
    (pss_cons (ps_asg (pe_op op_mod (pe_op op_add (pe_op op_mul (pe_ix ix_list (pv 0) pe_int (fun _ _=>rfl)) pe_int) pe_int) pe_int) (pg_sub (pv 0) pe_int set_list))
    (pss_cons (ps_set (i:=3) scTake.nd rfl (Or.inl rfl) (pe_op op_mod (pe_op op_mul (pe_op op_mod (pe_ix ix_list (pv 0) pe_int (fun _ _=>rfl)) pe_int)
        (pe_op op_add (pe_op op_fdivB (pe_ix ix_list (pv 0) pe_int (fun _ _=>rfl)) pe_int) pe_int)) pe_int))
    (pss_one (ps_ret (pe_op op_mod (pe_op op_fdivB (pv 3) pe_int) (pv 1)))))),?_⟩
  refine ⟨_,rfl,p,_,_,_,rfl,rfl,SqL.of hp,rfl,_,_,rfl,rfl,_,rfl,?_⟩
  refine ite2 (fun _=>?_) (fun _=>?_)
  · refine ⟨_,rfl,p,_,_,_,rfl,rfl,SqL.of hp,rfl,_,rfl,_,_,rfl,rfl,m0,?_⟩
    refine ⟨_,rfl,p,_,_,_,rfl,rfl,SqL.of hp,rfl,_,rfl,_,_,rfl,rfl,⟨m0,m1⟩,?_⟩
    refine ⟨_,rfl,p,_,_,0,rfl,rfl,hp,rfl,?_⟩
    exact ⟨_,rfl,k _ _ _ (Int.emod_nonneg a (by omega)) (Int.emod_lt_of_pos a m0)⟩
  · refine ⟨_,rfl,p,_,_,_,rfl,rfl,SqL.of hp,rfl,_,_,rfl,rfl,.inr ⟨by decide,by decide⟩,_,_,rfl,rfl,_,_,rfl,rfl,(by show (0:Int) < 2305843009213693951; decide),?_⟩
    refine ⟨_,rfl,p,_,_,1,rfl,rfl,hp,rfl,?_⟩
    have q0:0≤((b * 1181783497276652981+12345678910987) % 2305843009213693951) % 2147483629:=Int.emod_nonneg _ (by decide)
    have q1:((b * 1181783497276652981+12345678910987) % 2305843009213693951) % 2147483629 < 2147483629:=Int.emod_lt_of_pos _ (by decide)
    refine ⟨_,rfl,p,[.int a,.int ((b * 1181783497276652981+12345678910987) % 2305843009213693951)],_,_,rfl,rfl,SqL.of upd_same,rfl,_,_,rfl,rfl,(by show (0:Int) < 2147483629; decide),?_⟩
    refine ⟨_,rfl,p,[.int a,.int ((b * 1181783497276652981+12345678910987) % 2305843009213693951)],_,_,rfl,rfl,SqL.of upd_same,rfl,_,_,rfl,rfl,⟨by decide,by decide⟩,_,_,rfl,rfl,?_⟩
    refine ⟨_,_,rfl,rfl,.inl ⟨by omega,by omega⟩,_,_,rfl,rfl,(by show (0:Int) < 2305843009213693951; decide),?_⟩
    refine ⟨_,rfl,_,_,rfl,rfl,⟨by decide,by decide⟩,_,rfl,_,_,rfl,rfl,m0,?_⟩
    exact k _ a ((b * 1181783497276652981+12345678910987) % 2305843009213693951) (Int.emod_nonneg _ (by omega)) (Int.emod_lt_of_pos _ m0)
theorem scSeed:FnScope ["_law_script", "_law_seed_here", "_law_cell"] ["_law_script"] (defScope sSeed):=⟨rfl,rfl,rfl,by decide +kernel,rfl,by decide +kernel,by decide +kernel⟩
theorem ok_seed {f:Addr} {fd:FuncData} (F:Fun K "_law_seed" "_law_seed" sSeed f fd):FnOk P w K mg base CX0 1 f fd ["_law_script"] (spSeed K):=by
  refine F.ok scSeed (fun vs H Q E h=>?_) (fun cdv A outer s H vs Q E hr h=>?_)
  · obtain ⟨a,ns,rfl,_⟩:=h
    rfl
  obtain ⟨a,ns,rfl,hS,k⟩:=h
  refine ⟨_,pss_cons (ps_set (i:=1) scSeed.nd rfl (Or.inl rfl) pe_int)
    (pss_cons (ps_for PassesOwn.never rfl (pi_list (pe_slice sl_list (pv 0) po_none (po_some pe_int))) (pg_name (i:=2) scSeed.nd rfl (Or.inl rfl))
      (pss_one (ps_set (i:=1) scSeed.nd rfl (Or.inl rfl) (pe_op op_mod (pe_op op_add (pe_op op_add (pe_op op_mul (pv 1) pe_int) (pe_op op_mod (pv 2) (pe_op op_pow pe_int pe_int))) pe_int) pe_int))))
    (pss_one (ps_ret (pv 1)))),?_⟩
  refine ⟨_,rfl,_,rfl,a,_,rfl,hS,fun p hp=>?_⟩
  obtain ⟨ms,em,_⟩:=cutV_ints ns none (some 63)
  refine ⟨p,rfl,⟨_,SqL.of upd_same⟩,?_⟩
  rw [em]
  refine for_list (K:=K) (a:=p) (xs:=ms.map V.int) (fun i σ H2=>∃ (z:Int) (v:Option V),σ=[some (.ref a),some (.int z),v]∧H2=upd H p (.lst (ms.map V.int))) ⟨_,none,rfl,rfl⟩ ?_ ?_ ?_
  · rintro i σ H2 _ ⟨z,v,rfl,rfl⟩
    exact SqL.of upd_same
  · rintro i y σ H2 hi ⟨z,v,rfl,rfl⟩
    obtain ⟨c,rfl⟩:=map_int_at hi
    exact ⟨_,rfl,_,_,rfl,rfl,.inr ⟨by decide,by decide⟩,_,rfl,_,_,rfl,rfl,⟨by decide,by decide,by decide⟩,_,_,rfl,rfl,(by show (0:Int) < 10 ^ 30; decide),_,_,rfl,rfl,_,_,rfl,rfl,_,_,rfl,rfl,(by show (0:Int) < 2305843009213693951; decide),_,_,rfl,rfl⟩
  · rintro σ H2 ⟨z,v,rfl,rfl⟩
    exact ⟨_,rfl,k z _ (same_new hp _)⟩
end
section
variable {P:Program} {w:World} {K:PySem.W.Frag} {mg:Str→Option Value} {base:Heap}
theorem c_pot (h:Has K mg "_law_pot" sPot ["_law_cell", "_law_seed_here"]) (m_abs:mg "abs" = none) (m_int:mg "int" = none):Cal P w K mg base "_law_pot" 1 ["_law_cell", "_law_seed_here"] spPot:=h.cal fun f fd F _ _=>ok_pot F m_abs m_int
theorem c_take (h:Has K mg "_law_take" sTake ["_law_pot_here", "_law_many"]):Cal P w K mg base "_law_take" 1 ["_law_pot_here", "_law_many"] spTake:=h.cal fun f fd F _ _=>ok_take F
theorem c_seed (h:Has K mg "_law_seed" sSeed ["_law_script"]):Cal P w K mg base "_law_seed" 1 ["_law_script"] (spSeed K):=h.cal fun f fd F _ _=>ok_seed F
end
noncomputable def tInts:List Int→TA
  | []=>tNil
  | c :: cs=>tCons (tC (.int c)) (tInts cs)
theorem read_ints {σ:L2.St} {H:Hp}:∀ {cs:List Int} {Q:List V→Hp→Prop},Q (cs.map V.int) H→tInts cs σ H Q
  | [],_,h=>h
  | _ :: cs,Q,h=>read_ints (cs:=cs) (Q:=fun xs H2=>Q (_ :: xs) H2) h
theorem draw {σ:L2.St} {H0 H:Hp} {i:Nat} {p:Addr} {m:Int} {Q:VK} (hσ:σ[i]?=some (some (.ref p))) (P:Pot H0 p H) (h0:0 < m) (h1:m < 2 ^ 64) (k:∀ (n:Int) (H':Hp),0≤n→n < m→Pot H0 p H'→Same2 p H H'→Q (.int n) H') :
    tCall spTake [] E0 (tCons (tVar i) (tCons (tC (.int m)) tNil)) σ H Q:=by
  obtain ⟨a,b,e⟩:=P.at_
  exact ⟨_,hσ,p,m,a,b,rfl,e,h0,h1,fun r a' b' r0 r1=>k r _ r0 r1 P.turn fun c o z hc=>by rw [upd_ne hc]; exact z⟩
theorem draw_menu {K:PySem.W.Frag} {σ:L2.St} {H0 H:Hp} {i:Nat} {p:Addr} {cs:List Int} {m hi:Int} {Q:VK} (hσ:σ[i]?=some (some (.ref p))) (P:Pot H0 p H) (hm:(cs.length:Int)=m) (h0:0 < cs.length) (hl:cs.length≤1000) (hc:∀ c∈cs,1≤c∧c≤hi) (hh:hi < 2 ^ 64)
    (k:∀ (n:Int) (H':Hp),0≤n→n < hi→Pot H0 p H'→Same2 p H H'→Q (.int n) H') :
    tCall spTake [] E0 (tCons (tVar i) (tCons (tOp (rIxL K) (tLst (tInts cs)) (tCall spTake [] E0 (tCons (tVar i) (tCons (tC (.int m)) tNil)))) tNil)) σ H Q:=by
  refine ⟨_,hσ,read_ints ⟨by rw [List.length_map]; exact small hl,fun l hl=>?_⟩⟩
  have nlp:l≠p:=P.apart hl
  refine draw hσ (P.new hl) (by omega) (by omega) fun r H2 r0 r1 P2 s2=>?_
  have hl2:H2 l=some (.lst (cs.map V.int)):=s2 l _ upd_same nlp
  refine menu_int (lo:=1) (hi:=hi) hl2 r0 (by rw [List.length_map]; omega) (fun v hv=>?_) fun z z0 z1=>?_
  · obtain ⟨c,hc',rfl⟩:=List.mem_map.mp hv
    exact ⟨c,rfl,hc c hc'⟩
  · obtain ⟨a,b,e⟩:=P2.at_
    refine ⟨p,z,a,b,rfl,e,by omega,by omega,fun n a' b' n0 n1=>k n _ n0 (by omega) P2.turn fun c o e' hc'=>?_⟩
    rw [upd_ne hc']
    refine s2 c o ?_ hc'
    rw [upd_ne (ne_of_none e' hl)]
    exact e'
section
variable {P:Program} {w:World} {K:PySem.W.Frag} {mg:Str→Option Value} {base:Heap}
theorem scText:FnScope ["_law_pot_here", "_law_every", "_law_signs", "_law_size"] ["_law_pot_here"] (defScope sText):=⟨rfl,rfl,rfl,by decide +kernel,rfl,by decide +kernel,by decide +kernel⟩
theorem ok_text {f fT:Addr} {fd fdT:FuncData} (F:Fun K "_law_text" "_law_text" sText f fd) (GT:FnOk P w K mg base CX0 1 fT fdT ["_law_pot_here", "_law_many"] spTake) (bT:Binds K fdT ["_law_pot_here", "_law_many"] []) (kT:PySem.W.keepIn K (.ref fT)=true)
    (mT:mg "_law_take" = some (.ref fT)) (mlen:mg "len" = none) (mrange:mg "range" = none):FnOk P w K mg base CX0 2 f fd ["_law_pot_here"] spText:=by
  refine F.ok scText (fun vs H Q E h=>?_) (fun cdv A outer s H vs Q E hr h=>?_)
  · obtain ⟨p,a,b,rfl,_⟩:=h
    rfl
  obtain ⟨p,a,b,rfl,hp,k⟩:=h
  refine ⟨_,pss_cons (ps_set (i:=1) scText.nd rfl (Or.inl rfl) pe_str)
    (pss_cons (ps_set (i:=1) scText.nd rfl (Or.inl rfl) (pe_op op_add_str (pv 1) pe_str))
    (pss_cons (ps_set (i:=2) scText.nd rfl (Or.inr rfl) (pe_ix ix_list (pe_lst (pa_cons pe_str (pa_cons pe_str (pa_cons pe_str (pa_cons (pv 1) pa_nil))))) (pe_call GT hr rfl mT kT bT .nil pass0 (pa_cons (pv 0) (pa_cons pe_int pa_nil))) (fun _ _=>rfl)))
    (pss_cons (ps_set (i:=3) scText.nd rfl (Or.inl rfl) (pe_call GT hr rfl mT kT bT .nil pass0 (pa_cons (pv 0) (pa_cons (pe_ix ix_list (pe_lst (pa_cons pe_int (pa_cons pe_int (pa_cons pe_int (pa_cons pe_int (pa_cons pe_int (pa_cons pe_int (pa_cons pe_int (pa_cons pe_int pa_nil)))))))))
        (pe_call GT hr rfl mT kT bT .nil pass0 (pa_cons (pv 0) (pa_cons pe_int pa_nil))) (fun _ _=>rfl)) pa_nil))))
    (pss_one (ps_ret (pe_bm PySem.F.plainAttrs_str PySem.F.slot_str_join PySem.F.type_str_join mt_join pe_str (pa_cons
      (pe_compL ["_law_pot_here", "_law_every", "_law_signs", "_law_size"] (defScope sText) ["_law_pot_here", "_law_signs", "_law_k"] [some 0,some 2,none] rfl rfl rfl (pi_range1 rfl mrange (pa_cons (pv 3) pa_nil)) rfl (by decide +kernel) (by decide +kernel) (by decide +kernel) (by decide +kernel)
        (fun cl C s H ex pn E=>pg_name (i:=2) (by decide +kernel:(["_law_pot_here", "_law_signs", "_law_k"]:List Str).Nodup) rfl (Or.inl rfl)) (fun cl C s H ex pn E=>pifs_nil)
        (fun cl C s H ex pn E=>pe_ix ix_str (pv 1) (pe_call GT hr rfl mT kT bT .nil pass0 (pa_cons (pv 0) (pa_cons (pe_callB call_len_str rfl mlen PySem.boot_len (pa_cons (pv 1) pa_nil)) pa_nil))) (fun _ _=>rfl))) pa_nil))))))),?_⟩
  have P0:Pot H p H:=⟨⟨a,b,hp⟩,fun c o e _=>e⟩
  refine ⟨_,rfl,_,_,rfl,rfl,small (by decide +kernel),?_⟩
  refine ⟨_,rfl,smn 4,fun l hl=>?_⟩
  have npl:l≠p:=P0.apart hl
  refine ⟨_,rfl,p,4,a,b,rfl,(upd_ne npl.symm).trans hp,by decide,by decide,fun r a2 b2 r0 r1=>?_⟩
  refine menu_str (Eq.trans (upd_ne npl) upd_same) r0 r1 ?_ fun sg s0 s1=>?_
  · intro v hv
    simp only [List.mem_cons,List.not_mem_nil,or_false] at hv
    rcases hv with rfl | rfl | rfl | rfl <;> exact ⟨_,rfl,by decide +kernel,by decide +kernel⟩
  refine ⟨_,rfl,smn 8,fun l2 hl2=>?_⟩
  have npl2:l2≠p:=(ne_of_none upd_same hl2).symm
  refine ⟨_,rfl,p,8,a2,b2,rfl,(upd_ne npl2.symm).trans upd_same,by decide,by decide,fun r3 a4 b4 r30 r31=>?_⟩
  refine menu_int (lo:=1) (hi:=401) (Eq.trans (upd_ne npl2) upd_same) r30 r31 ?_ fun z z0 z1=>?_
  · intro v hv
    simp only [List.mem_cons,List.not_mem_nil,or_false] at hv
    rcases hv with rfl | rfl | rfl | rfl | rfl | rfl | rfl | rfl <;> exact ⟨_,rfl,by decide,by decide⟩
  refine ⟨p,z,a4,b4,rfl,upd_same,by omega,by omega,fun n a6 b6 n0 n1=>?_⟩
  refine ⟨rfl,_,rfl,n,rfl,by omega,by omega,fun l3 hl3=>?_⟩
  have npl3:l3≠p:=(ne_of_none upd_same hl3).symm
  have fl3:H l3=none:=(((((P0.new hl).turn).new hl2).turn).turn).free hl3
  refine comp_by (J:=Itr 0 n.toNat) (l:=l3) n.toNat (fun i σ' H'=>∃ (cs:List Nat) (v:Option V),cs.length=i∧σ'=[some (.ref p),some (.str sg),v]∧H' l3=some (.lst (cs.map fun c=>V.str ⟨#[c]⟩))∧Pot H p H') ⟨[],none,rfl,rfl,upd_same,(((((P0.new hl).turn).new hl2).turn).turn).new hl3⟩ ?_ ?_
  · rintro σ' H' ⟨cs,v,hcs,rfl,hl',hP⟩
    refine ⟨Nat.le_refl _,_,l3,cs.map (fun c=>(⟨#[c]⟩:Str)),rfl,rfl,SqL.of (by rw [List.map_map]; exact hl'),join_fits (by decide +kernel) cs (by omega),?_⟩
    refine k _ _ ?_ hP
    rw [join_len (by decide +kernel)]
    omega
  · rintro i σ' H' hi ⟨cs,v,hcs,rfl,hl',hP⟩
    refine ⟨hi,?_⟩
    rintro x H'' ⟨rfl,rfl⟩
    refine gN (yesT (iteT ?_))
    obtain ⟨a7,b7,e7⟩:=id hP.at_
    refine ⟨_,rfl,_,rfl,_,rfl,sg,rfl,small s1,p,(sg.length:Int),a7,b7,rfl,e7,by omega,by omega,fun r5 a8 b8 r50 r51=>?_⟩
    obtain ⟨c,hc,_⟩:=atI_lt (xs:=sg.cps.toList) r50 (by simpa [Str.length] using r51)
    refine ⟨sg,r5,c,rfl,rfl,small s1,hc,?_⟩
    refine ⟨cs.map (fun c=>V.str ⟨#[c]⟩),Eq.trans (upd_ne npl3) hl',by rw [List.length_map]; exact small1000 (by omega),cs++[c],_,by rw [List.length_append,hcs]; rfl,rfl,?_,(hP.turn).list fl3 npl3⟩
    rw [upd_same,List.map_append]
    rfl
end
theorem c_text {P:Program} {w:World} {K:PySem.W.Frag} {mg:Str→Option Value} {base:Heap} (h:Has K mg "_law_text" sText ["_law_pot_here"]) (C_take:Cal P w K mg base "_law_take" 1 ["_law_pot_here", "_law_many"] spTake) (m_len:mg "len" = none) (m_range:mg "range" = none):Cal P w K mg base "_law_text" 2 ["_law_pot_here"] spText:=by
  obtain ⟨fT,fdT,GT,bT,kT,mT⟩:=C_take.ex
  exact h.cal fun f fd F _ _=>ok_text F GT bT kT mT m_len m_range
section
variable {P:Program} {w:World} {K:PySem.W.Frag} {mg:Str→Option Value} {base:Heap}
theorem scSame:FnScope ["_law_told", "_law_due"] ["_law_told", "_law_due"] (defScope sSame):=⟨rfl,rfl,rfl,by decide +kernel,rfl,by decide +kernel,by decide +kernel⟩
theorem c_same (h:Has K mg "_law_same" sSame ["_law_told", "_law_due"]) (m_isinstance:mg "isinstance" = none) (m_tuple:mg "tuple" = none) (m_bool:mg "bool" = none) (m_str:mg "str" = none) (m_int:mg "int" = none) (m_len:mg "len" = none) (m_all:mg "all" = none) (m_zip:mg "zip" = none) :
    ∀ n:Nat,Cal P w K mg base "_law_same" n ["_law_told", "_law_due"] (spSame n)
  | 0=>h.never fun _ _ _ _ z=>z
  | n+1=>by
    have C_same:=c_same h m_isinstance m_tuple m_bool m_str m_int m_len m_all m_zip n
    refine h.mk' scSame (fun vs H Q E hs=>?_) (fun f cdv A outer s H vs Q E hr hs=>?_)
    · obtain ⟨v,u,d,rfl,_⟩:=hs
      rfl
    obtain ⟨v,u,d,rfl,hv,hu,hsh,k⟩:=hs
    refine ⟨_,(pss_cons (ps_if (pt_val (pe_callB call_isinst rfl m_isinstance boot_isinstance (pa_cons (pv 1) (pa_cons (pe_bltn (v:=.ty "tuple") rfl m_tuple boot_tuple rfl) pa_nil))))
      (pss_cons (ps_if (PW.pt (pw_or (pt_not (pt_val (pe_callB call_isinst rfl m_isinstance boot_isinstance (pa_cons (pv 0) (pa_cons (pe_bltn (v:=.ty "tuple") rfl m_tuple boot_tuple rfl) pa_nil))))) (pw_or1 (pt_cmpR op_ne (pe_callB call_len_seq rfl m_len PySem.boot_len (pa_cons (pv 0) pa_nil)) (pe_callB call_len_seq rfl m_len PySem.boot_len (pa_cons (pv 1) pa_nil)) (nomark _)))))
      (pss_one (ps_ret pe_bl))
      pss_nil)
    (pss_one (ps_ret (pe_callB (call_allB rfl) rfl m_all boot_all (pa_cons (pe_compL ["_law_told", "_law_due"] (defScope sSame) ["_law_one", "_law_other"] [none,none] rfl rfl rfl (pi_zip rfl m_zip (pa_cons (pv 0) (pa_cons (pv 1) pa_nil))) rfl (by decide +kernel) (by decide +kernel) (by decide +kernel) (by decide +kernel) (g:=gTup K 2 (gCons (gName 0) (gCons (gName 1) gNil))) (hg:=fun cl C s H ex pn E=>pg_tup (n:=2) rfl (pgs_cons (pg_name (i:=0) (by decide +kernel:(["_law_one", "_law_other"]:List Str).Nodup) rfl (Or.inl rfl) (Or.inr rfl)) (pgs_cons (pg_name (i:=1) (by decide +kernel:(["_law_one", "_law_other"]:List Str).Nodup) rfl (Or.inl rfl) (Or.inr rfl)) pgs_nil))) (ht:=fun cl C s H ex pn E=>pifs_nil) (he:=fun cl C s H ex pn E=>(pe_cal C_same hr (Nat.le_refl _) rfl (pa_cons (pv 0) (pa_cons (pv 1) pa_nil))))) pa_nil)))))
      pss_nil)
    (pss_cons (ps_if (pt_val (pe_callB call_isinst rfl m_isinstance boot_isinstance (pa_cons (pv 1) (pa_cons (pe_bltn (v:=.ty "bool") rfl m_bool boot_bool rfl) pa_nil))))
      (pss_one (ps_ret (pe_and (pe_callB call_isinst rfl m_isinstance boot_isinstance (pa_cons (pv 0) (pa_cons (pe_bltn (v:=.ty "bool") rfl m_bool boot_bool rfl) pa_nil))) (pe_one (pe_cmpR op_eq (pv 0) (pv 1) (nomark _))))))
      pss_nil)
    (pss_cons (ps_if (pt_val (pe_callB call_isinst rfl m_isinstance boot_isinstance (pa_cons (pv 1) (pa_cons (pe_bltn (v:=.ty "str") rfl m_str boot_str rfl) pa_nil))))
      (pss_one (ps_ret (pe_and (pe_callB call_isinst rfl m_isinstance boot_isinstance (pa_cons (pv 0) (pa_cons (pe_bltn (v:=.ty "str") rfl m_str boot_str rfl) pa_nil))) (pe_one (pe_cmpR op_eq (pv 0) (pv 1) (nomark _))))))
      pss_nil)
    (pss_one (ps_ret (pe_and (pe_callB call_isinst rfl m_isinstance boot_isinstance (pa_cons (pv 0) (pa_cons (pe_bltn (v:=.ty "int") rfl m_int boot_int rfl) pa_nil))) (pe_and (pe_not (pe_callB call_isinst rfl m_isinstance boot_isinstance (pa_cons (pv 0) (pa_cons (pe_bltn (v:=.ty "bool") rfl m_bool boot_bool rfl) pa_nil)))) (pe_one (pe_cmpR op_eq (pv 0) (pv 1) (nomark _)))))))))),?_⟩
    cases d with
    | non=>exact absurd rfl hsh.ne
    | bl b =>
      have e1:v=.bl b:=hv
      have e2:u=.bl b:=hu
      subst e1
      subst e2
      refine ⟨_,rfl,_,_,_,false,rfl,.bl _,kit_bool_tuple K,_,rfl,iteF ?_⟩
      refine ⟨_,rfl,_,_,_,true,rfl,.bl _,kit_bool_bool K,_,rfl,iteT ?_⟩
      refine ⟨_,rfl,_,_,_,true,rfl,.bl _,kit_bool_bool K,_,rfl,iteT ?_⟩
      refine ⟨_,rfl,_,rfl,rfl,?_⟩
      rw [decide_eq_true rfl]
      exact k H (Same.refl H)
    | int i =>
      have e1:v=.int i:=hv
      have e2:u=.int i:=hu
      subst e1
      subst e2
      refine ⟨_,rfl,_,_,_,false,rfl,.int _,kit_int_tuple K,_,rfl,iteF ?_⟩
      refine ⟨_,rfl,_,_,_,false,rfl,.int _,kit_int_bool K,_,rfl,iteF ?_⟩
      refine ⟨_,rfl,_,_,_,false,rfl,.int _,kit_int_str K,_,rfl,iteF ?_⟩
      refine ⟨_,rfl,_,_,_,true,rfl,.int _,kit_int_int K,_,rfl,iteT ?_⟩
      refine ⟨_,rfl,_,_,_,false,rfl,.int _,kit_int_bool K,_,rfl,_,rfl,iteT ?_⟩
      refine ⟨_,rfl,_,rfl,rfl,?_⟩
      rw [decide_eq_true rfl]
      exact k H (Same.refl H)
    | str x =>
      have e1:v=.str x:=hv
      have e2:u=.str x:=hu
      subst e1
      subst e2
      refine ⟨_,rfl,_,_,_,false,rfl,.str _,kit_str_tuple K,_,rfl,iteF ?_⟩
      refine ⟨_,rfl,_,_,_,false,rfl,.str _,kit_str_bool K,_,rfl,iteF ?_⟩
      refine ⟨_,rfl,_,_,_,true,rfl,.str _,kit_str_str K,_,rfl,iteT ?_⟩
      refine ⟨_,rfl,_,_,_,true,rfl,.str _,kit_str_str K,_,rfl,iteT ?_⟩
      refine ⟨_,rfl,_,rfl,rfl,?_⟩
      rw [decide_eq_true rfl]
      exact k H (Same.refl H)
    | tup ds =>
      obtain ⟨p,vs,rfl,hp,hd1⟩:=den_tup hv
      obtain ⟨q,us,rfl,hq,hd2⟩:=den_tup hu
      cases n with
      | zero=>exact absurd rfl (hsh.2 ds)
      | succ m =>
      obtain ⟨hlen,hin⟩:=hsh.2 ds rfl
      have l1:=hd1.len
      have l2:=hd2.len
      refine ⟨_,rfl,_,_,_,true,rfl,.tup hq,kit_tuple_tuple K,_,rfl,iteT ?_⟩
      refine ⟨_,rfl,_,_,_,true,rfl,.tup hp,kit_tuple_tuple K,_,rfl,iteF ?_⟩
      refine ⟨_,rfl,p,_,rfl,.inr (SqT.of hp),_,rfl,q,_,rfl,.inr (SqT.of hq),rfl,_,rfl,?_⟩
      rw [l1,l2,decide_eq_true rfl]
      refine iteF ?_
      refine ⟨_,rfl,_,rfl,p,q,rfl,⟨_,SqT.of hp⟩,⟨_,SqT.of hq⟩,fun l hl=>?_⟩
      refine comp_by (J:=Itz K p q) (l:=l) ds.length (fun i σ' H'=>∃ v0 v1:Option V,σ'=[v0,v1]∧Same H H'∧H' l=some (.lst ((List.replicate i true).map V.bl))) ⟨none,none,rfl,same_new hl _,upd_same⟩ ?_ ?_
      · rintro σ' H' ⟨v0,v1,rfl,hs,hl'⟩
        refine ⟨⟨_,SqT.of (hs _ _ hp),by rw [l1]; exact Nat.le_refl _⟩,l,List.replicate ds.length true,rfl,SqL.of hl',?_⟩
        have e:(List.replicate ds.length true).all id=true:=by
          rw [List.all_eq_true]
          intro b hb
          exact (List.mem_replicate.mp hb).2
        rw [e]
        exact k H' hs
      · rintro i σ' H' hi ⟨v0,v1,rfl,hs,hl'⟩
        have hx1:vs[i]?=some vs[i]:=List.getElem?_eq_getElem (by omega)
        have hx2:us[i]?=some us[i]:=List.getElem?_eq_getElem (by omega)
        refine ⟨⟨_,_,_,_,SqT.of (hs _ _ hp),SqT.of (hs _ _ hq),hx1,hx2⟩,?_⟩
        rintro y H'' ⟨t,x,z,rfl,ht,rfl,h1,h2⟩
        have e1:x=vs[i]:=Option.some.inj ((h1 _ (SqT.of (hs _ _ hp))).symm.trans hx1)
        have e2:z=us[i]:=Option.some.inj ((h2 _ (SqT.of (hs _ _ hq))).symm.trans hx2)
        obtain ⟨d1,g1,b1⟩:=hd1.at_ hx1
        obtain ⟨d2,g2,b2⟩:=hd2.at_ hx2
        rw [g1] at g2
        cases g2
        rw [← e1] at b1
        rw [← e2] at b2
        have hs2:Same H (upd H' t (.tup [x,z])):=hs.trans (same_new ht _)
        refine ⟨t,_,rfl,SqT.of upd_same,rfl,_,_,rfl,_,_,rfl,rfl,yesT (iteT ?_)⟩
        refine ⟨_,rfl,_,rfl,_,_,d1,rfl,b1.same hs2,b2.same hs2,hin d1 (List.mem_of_getElem? g1),fun H3 s3=>?_⟩
        have ntl:l≠t:=ne_of_none hl' ht
        have hl3:H3 l=some (.lst ((List.replicate i true).map V.bl)):=s3 _ _ ((upd_ne ntl).trans hl')
        refine ⟨_,hl3,?_,_,_,rfl,?_,?_⟩
        · rw [List.length_map,List.length_replicate]
          exact Nat.lt_of_lt_of_le (Nat.lt_of_lt_of_le hi hlen) (Nat.le_trans (by decide) sizeLine_big)
        · intro c o e
          have hlH:H l=none:=hl
          rw [upd_ne (ne_of_none e hlH)]
          exact s3 _ _ (hs2 c o e)
        · rw [upd_same,List.replicate_succ',List.map_append]
          rfl
end
noncomputable def spLong:Sp:=fun vs H Q _=>∃ (t:List Nat) (i:Nat) (p:Addr) (cs:List (List Nat)),vs=[.str ⟨t.toArray⟩,.int (i:Nat),.ref p]∧H p=some (.tup (cs.map mkT))∧OkC cs∧t.length≤1000∧i≤t.length∧∀ H',Same H H'→Q (.int ((M08.lng (t.drop i) cs:Nat):Int)) H'
noncomputable def spPieces:Sp:=fun vs H Q _=>∃ (t:List Nat) (v:V) (ms ks:List (List Nat)),vs=[.str ⟨t.toArray⟩,v]∧Den H v (lvD ms ks)∧OkC ms∧OkC ks∧t.length≤1000∧∀ (q:Addr) (H':Hp),Same H H'→H' q=some (.tup ((M08.cut ms ks [] t).map mkT))→Q (.ref q) H'
section
open M08
variable {P:Program} {w:World} {K:PySem.W.Frag} {mg:Str→Option Value} {base:Heap}
theorem scLongestAt:FnScope ["text", "place", "choices"] ["text", "place", "choices"] (defScope sLongestAt):=⟨rfl,rfl,rfl,by decide +kernel,rfl,by decide +kernel,by decide +kernel⟩
theorem c_longest_at (h:Has K mg "longest_at" sLongestAt ["text", "place", "choices"]) (m_max:mg "max" = none) (m_len:mg "len" = none):Cal P w K mg base "longest_at" 1 ["text", "place", "choices"] spLong:=by
  refine h.mk' scLongestAt (fun vs H Q E hs=>?_) (fun f cdv A outer s H vs Q E hr hs=>?_)
  · obtain ⟨t,i,p,cs,rfl,_⟩:=hs
    rfl
  obtain ⟨t,i,p,cs,rfl,hp,hc,ht,hit,k⟩:=hs
  refine ⟨_,(pss_one (ps_ret (pe_maxD rfl m_max rfl (pe_compL ["text", "place", "choices"] (defScope sLongestAt) ["text", "place", "choice"] [some 0,some 1,none] rfl rfl rfl (pi_tup (pv 2)) rfl (by decide +kernel) (by decide +kernel) (by decide +kernel) (by decide +kernel) (hg:=fun cl C s H ex pn E=>(pg_name (i:=2) (by decide +kernel:(["text", "place", "choice"]:List Str).Nodup) rfl (Or.inl rfl))) (ht:=fun cl C s H ex pn E=>(pifs_one (pt_val (pe_bmK (K:=K) rfl PySem.F.plainAttrs_str PySem.F.slot_str_startswith PySem.F.type_str_startswith mt_starts (pv 0) (pa_cons (pv 2) (pa_cons (pv 1) pa_nil)))))) (he:=fun cl C s H ex pn E=>(pe_callB call_len_str rfl m_len PySem.boot_len (pa_cons (pv 2) pa_nil))))))),?_⟩
  refine ⟨_,rfl,p,rfl,⟨_,SqT.of hp⟩,fun l hl=>?_⟩
  have npl:p≠l:=ne_of_none hp hl
  refine comp_by (J:=Itt K p) (l:=l) cs.length (fun j σ' H'=>∃ v:Option V,σ'=[some (.str ⟨t.toArray⟩),some (.int (i:Nat)),v]∧H'=upd H l (.lst ((lensN (t.drop i) cs j).map V.int))) ⟨none,rfl,rfl⟩ ?_ ?_
  · rintro σ' H' ⟨v,rfl,rfl⟩
    refine ⟨⟨_,SqT.of ((upd_ne npl).trans hp),by simp⟩,l,_,rfl,SqL.of upd_same,fun n hn=>?_,?_⟩
    · obtain ⟨c,_,rfl⟩:=List.mem_map.mp hn
      omega
    · have e:(lensN (t.drop i) cs cs.length).foldr max 0=((lng (t.drop i) cs:Nat):Int):=by
        unfold lensN
        rw [List.take_length]
        exact lens_max _ _
      rw [e]
      exact k _ (same_new hl _)
  · rintro j σ' H' hj ⟨v,rfl,rfl⟩
    have hp':(upd H l (.lst ((lensN (t.drop i) cs j).map V.int))) p=some (.tup (cs.map mkT)):=(upd_ne npl).trans hp
    refine ⟨⟨_,_,SqT.of hp',at_T hj⟩,?_⟩
    rintro y H'' ⟨rfl,hy⟩
    have ey:y=mkT cs[j]:=Option.some.inj ((hy _ (SqT.of hp')).symm.trans (at_T hj))
    subst ey
    have hcj:=hc.size cs[j] (List.getElem_mem hj)
    have hfew:=hc.few
    refine gN ⟨_,rfl,rfl,_,rfl,_,rfl,_,_,i,rfl,rfl,by rw [lenT]; exact hit,_,rfl,?_⟩
    have hsuc:=lensN_succ (t:=t.drop i) hj
    refine ite2 (fun h=>?_) (fun h=>?_)
    · have h':cs[j].isPrefixOf (t.drop i)=true:=h
      rw [if_pos h'] at hsuc
      refine ⟨_,rfl,_,rfl,small (by rw [lenT]; omega),_,upd_same,?_,_,rfl,?_⟩
      · rw [List.length_map]
        exact Nat.lt_of_le_of_lt (lensN_le _ _ _) (small1000 (by omega))
      · rw [upd_upd,hsuc,List.map_append,lenT]
        rfl
    · have h':¬ cs[j].isPrefixOf (t.drop i)=true:=h
      rw [if_neg h',List.append_nil] at hsuc
      rw [← hsuc]
      exact ⟨_,rfl,rfl⟩
noncomputable def PInv (t:List Nat) (ms ks:List (List Nat)) (p pm pk l:Addr) (H:Hp) (m:Nat) (σ:L2.St) (H2:Hp):Prop :=
  ∃ (b e:Nat) (v7 v8:Option V) (ps:List (List Nat)),m=t.length - e∧b≤e∧e≤t.length∧σ=[some (.str ⟨t.toArray⟩),some (.ref p),some (.ref pm),some (.ref pk),some (.ref l),some (.int (b:Nat)),some (.int (e:Nat)),v7,v8] ∧
    H2 l=some (.lst (ps.map mkT))∧Same H H2∧ps++cut ms ks ((t.drop b).take (e - b)) (t.drop e)=cut ms ks [] t∧ps.length≤e
theorem ended_read {t:List Nat} {ms ks:List (List Nat)} {p pm pk l:Addr} {b e:Nat} {v8:Option V} {H3:Hp} {Q:VK} (hpm:H3 pm=some (.tup (ms.map mkT))) (hm:OkC ms) (ht:t.length≤1000) (he:e≤t.length)
    (fin:∀ H4,Same H3 H4→Q (.int ((ended ms ks (t.drop e):Nat):Int)) H4) :
    tIf (fun σ H Q=>tVar 7 σ H fun x H'=>∃ k,TruV K x H' k∧Q k H') (tC (.int 0)) (tCall spLong [] E0 (tCons (tVar 0) (tCons (tVar 6) (tCons (tVar 2) tNil))))
      [some (.str ⟨t.toArray⟩),some (.ref p),some (.ref pm),some (.ref pk),some (.ref l),some (.int (b:Nat)),some (.int (e:Nat)),some (.int ((lng (t.drop e) ks:Nat):Int)),v8] H3 Q:=by
  refine ⟨_,rfl,_,rfl,?_⟩
  refine ite2 (fun c=>?_) (fun c=>?_)
  · have hne:lng (t.drop e) ks≠0:=fun z=>by rw [z] at c; exact absurd c (by decide)
    have q:=fin H3 (Same.refl _)
    unfold ended at q
    rw [if_neg hne] at q
    exact q
  · have hz:lng (t.drop e) ks=0:=by
      by_cases z:lng (t.drop e) ks=0
      · exact z
      · exact absurd (bne_iff_ne.mpr (show ((lng (t.drop e) ks:Nat):Int)≠0 by omega)) c
    refine ⟨_,rfl,_,rfl,_,rfl,t,e,pm,ms,rfl,hpm,hm,ht,he,fun H4 s4=>?_⟩
    have q:=fin H4 s4
    unfold ended at q
    rw [if_pos hz] at q
    exact q
theorem scPiecesOf:FnScope ["text", "level", "marks", "kept", "pieces", "begin", "place", "passed", "ended"] ["text", "level"] (defScope sPiecesOf):=⟨rfl,rfl,rfl,by decide +kernel,rfl,by decide +kernel,by decide +kernel⟩
theorem c_pieces_of (h:Has K mg "pieces_of" sPiecesOf ["text", "level"]) (C_longest_at:Cal P w K mg base "longest_at" 1 ["text", "place", "choices"] spLong) (m_len:mg "len" = none) (m_max:mg "max" = none) (m_tuple:mg "tuple" = none):Cal P w K mg base "pieces_of" 2 ["text", "level"] spPieces:=by
  refine h.mk' scPiecesOf (fun vs H Q E hs=>?_) (fun f cdv A outer s H vs Q E hr hs=>?_)
  · obtain ⟨t,v,ms,ks,rfl,_⟩:=hs
    rfl
  obtain ⟨t,v,ms,ks,rfl,hv,hm,hk,ht,kk⟩:=hs
  obtain ⟨p,pm,pk,rfl,hp,hpm,hpk⟩:=den_lv hv
  refine ⟨_,(pss_cons (ps_set (i:=2) scPiecesOf.nd rfl (Or.inl rfl) (pe_ix ix_tup (pv 1) pe_int (fun _ _=>rfl)))
    (pss_cons (ps_set (i:=3) scPiecesOf.nd rfl (Or.inl rfl) (pe_ix ix_tup (pv 1) pe_int (fun _ _=>rfl)))
    (pss_cons (ps_set (i:=4) scPiecesOf.nd rfl (Or.inl rfl) (pe_lst pa_nil))
    (pss_cons (ps_set (i:=5) scPiecesOf.nd rfl (Or.inl rfl) pe_int)
    (pss_cons (ps_set (i:=6) scPiecesOf.nd rfl (Or.inl rfl) pe_int)
    (pss_cons (ps_while PassesOwn.never (pt_cmpR op_lt (pv 6) (pe_callB call_len_str rfl m_len PySem.boot_len (pa_cons (pv 0) pa_nil)) (nomark _))
      (pss_cons (ps_set (i:=7) scPiecesOf.nd rfl (Or.inl rfl) (pe_cal C_longest_at hr (by decide) rfl (pa_cons (pv 0) (pa_cons (pv 6) (pa_cons (pv 3) pa_nil)))))
    (pss_cons (ps_set (i:=8) scPiecesOf.nd rfl (Or.inl rfl) (pe_ifExp (pt_truth (pv 7) (by intro _; rfl)) pe_int (pe_cal C_longest_at hr (by decide) rfl (pa_cons (pv 0) (pa_cons (pv 6) (pa_cons (pv 2) pa_nil))))))
    (pss_cons (ps_aug (i:=6) scPiecesOf.nd rfl (Or.inl rfl) (pe_callB (call_max3 rfl) rfl m_max boot_max (pa_cons (pv 7) (pa_cons (pv 8) (pa_cons pe_int pa_nil)))) iop_add)
    (pss_one (ps_if (pt_truth (pv 8) (by intro _; rfl))
      (pss_cons (ps_expr (pe_bm PySem.F.plainAttrs_list PySem.F.slot_list_append PySem.F.type_list_append mt_append (pv 4) (pa_cons (pe_slice sl_str (pv 0) (po_some (pv 5)) (po_some (pv 6))) pa_nil)))
    (pss_one (ps_set (i:=5) scPiecesOf.nd rfl (Or.inl rfl) (pv 6))))
      pss_nil))))))
    (pss_cons (ps_if (pt_cmpR op_lt (pv 5) (pe_callB call_len_str rfl m_len PySem.boot_len (pa_cons (pv 0) pa_nil)) (nomark _))
      (pss_one (ps_expr (pe_bm PySem.F.plainAttrs_list PySem.F.slot_list_append PySem.F.type_list_append mt_append (pv 4) (pa_cons (pe_slice sl_str (pv 0) (po_some (pv 5)) po_none) pa_nil))))
      pss_nil)
    (pss_one (ps_ret (pe_callTy call_tuple_of rfl m_tuple boot_tuple (pa_cons (pv 4) pa_nil))))))))))),?_⟩
  have hz:(⟨t.toArray⟩:Str).length≤sizeLine:=small (by rw [lenT]; omega)
  refine ⟨_,rfl,p,_,_,_,rfl,rfl,SqT.of hp,rfl,?_⟩
  refine ⟨_,rfl,p,_,_,_,rfl,rfl,SqT.of hp,rfl,?_⟩
  refine ⟨smn 0,fun l hl=>?_⟩
  refine ⟨PInv t ms ks p pm pk l H,⟨t.length,0,0,none,none,[],rfl,Nat.le_refl _,Nat.zero_le _,rfl,upd_same,same_new hl _,rfl,Nat.le_refl _⟩,?_⟩
  rintro m σ H2 ⟨b,e,v7,v8,ps,rfl,h1,h2,rfl,hl2,hS,hcut,hpl⟩
  refine ⟨_,rfl,_,rfl,_,rfl,hz,_,_,rfl,rfl,_,rfl,?_⟩
  rw [lenT]
  refine ite2 (fun c=>?_) (fun c=>?_)
  · have hlt:e < t.length:=by
      have:=of_decide_eq_true c
      omega
    refine ⟨fun σ' H'=>∃ m',m' < t.length - e∧PInv t ms ks p pm pk l H m' σ' H',fun _ _ z=>z,?_⟩
    have hne:t.drop e≠[]:=fun z=>by
      have:=congrArg List.length z
      rw [List.length_drop] at this
      simp at this
      omega
    have hs1:=stepN_pos ms ks (t.drop e)
    have hs2:stepN ms ks (t.drop e)≤t.length - e:=by
      have:=stepN_le (ms:=ms) (ks:=ks) hne
      rw [List.length_drop] at this
      exact this
    refine ⟨_,rfl,_,rfl,_,rfl,t,e,pk,ks,rfl,hS _ _ hpk,hk,ht,by omega,fun H3 s3=>?_⟩
    refine ended_read (s3 _ _ (hS _ _ hpm)) hm ht (by omega) fun H4 s4=>?_
    have hl4:H4 l=some (.lst (ps.map mkT)):=s4 _ _ (s3 _ _ hl2)
    have hS4:Same H H4:=hS.trans (s3.trans s4)
    refine ⟨_,rfl,_,rfl,_,rfl,_,_,_,rfl,_,_,rfl,rfl,?_⟩
    have epl:((e:Nat):Int)+max (max ((lng (t.drop e) ks:Nat):Int) ((ended ms ks (t.drop e):Nat):Int)) 1=((e+stepN ms ks (t.drop e):Nat):Int):=by
      unfold stepN
      omega
    dsimp only
    rw [epl]
    refine ⟨_,rfl,_,rfl,?_⟩
    have htk:(t.drop b).take (e+stepN ms ks (t.drop e) - b)=(t.drop b).take (e - b)++(t.drop e).take (stepN ms ks (t.drop e)):=by
      have e1:e+stepN ms ks (t.drop e) - b=(e - b)+stepN ms ks (t.drop e):=by omega
      rw [e1,List.take_add,List.drop_drop]
      congr 2
      congr 1
      omega
    have hdr:(t.drop e).drop (stepN ms ks (t.drop e))=t.drop (e+stepN ms ks (t.drop e)):=by rw [List.drop_drop]
    refine ite2 (fun d=>?_) (fun d=>?_)
    · have hen:ended ms ks (t.drop e)≠0:=fun z=>by rw [z] at d; exact absurd d (by decide)
      refine ⟨_,rfl,.inl ⟨rfl,_,SqL.of hl4⟩,_,rfl,_,rfl,_,rfl,_,rfl,_,rfl,_,rfl,hz,?_⟩
      refine ⟨l,_,_,rfl,rfl,hl4,by rw [List.length_map]; exact small1000 (by omega),?_⟩
      rw [slice_bo t (by omega)]
      refine ⟨_,rfl,t.length - (e+stepN ms ks (t.drop e)),by omega,e+stepN ms ks (t.drop e),e+stepN ms ks (t.drop e),_,_,ps++[(t.drop b).take (e+stepN ms ks (t.drop e) - b)],rfl,Nat.le_refl _,by omega,rfl,?_,?_,?_,?_⟩
      · rw [upd_same,List.map_append]
        rfl
      · intro c o z
        rw [upd_ne (ne_of_none z hl)]
        exact hS4 c o z
      · rw [Nat.sub_self,List.take_zero,← hcut,cut_end hne hen,hdr,htk,List.append_assoc]
        rfl
      · rw [List.length_append]
        show _+1≤_
        omega
    · have hen:ended ms ks (t.drop e)=0:=by
        by_cases z:ended ms ks (t.drop e)=0
        · exact z
        · exact absurd (bne_iff_ne.mpr (show ((ended ms ks (t.drop e):Nat):Int)≠0 by omega)) d
      refine ⟨t.length - (e+stepN ms ks (t.drop e)),by omega,b,e+stepN ms ks (t.drop e),_,_,ps,rfl,by omega,by omega,rfl,hl4,hS4,?_,by omega⟩
      rw [← hcut,cut_on hne hen,hdr,htk]
  · have hge:e=t.length:=by
      by_cases z:e < t.length
      · exact absurd (decide_eq_true (show ((e:Nat):Int) < ((t.length:Nat):Int) by omega)) c
      · omega
    subst hge
    rw [List.drop_length,cut_nil] at hcut
    have fin:∀ (H3:Hp) (rs:List (List Nat)),Same H H3→H3 l=some (.lst (rs.map mkT))→rs=cut ms ks [] t→∀ v7 v8:Option V,
        tRet (tCB (fun xs H Q=>∃ p ys,xs=[.ref p]∧((SqL K H p ys∧∀ l,H l=none→Q (.ref l) (upd H l (.tup ys)))∨(SqT K H p ys∧Q (.ref p) H))) (tCons (tVar 4) tNil)) { nx:=fun _ H'=>Q .non H',rt:=Q }
        [some (.str ⟨t.toArray⟩),some (.ref p),some (.ref pm),some (.ref pk),some (.ref l),some (.int (b:Nat)),some (.int ((t.length:Nat):Int)),v7,v8] H3:=fun H3 rs s3 e3 er v7 v8=>by
      refine ⟨_,rfl,l,_,rfl,.inl ⟨SqL.of e3,fun q hq=>?_⟩⟩
      refine kk q _ (s3.trans (same_new hq _)) ?_
      rw [upd_same,er]
    refine ⟨_,rfl,_,rfl,_,rfl,hz,_,_,rfl,rfl,_,rfl,?_⟩
    rw [lenT]
    refine ite2 (fun d=>?_) (fun d=>?_)
    · have hb:b < t.length:=by
        have:=of_decide_eq_true d
        omega
      refine ⟨_,rfl,.inl ⟨rfl,_,SqL.of hl2⟩,_,rfl,_,rfl,_,rfl,_,rfl,hz,?_⟩
      refine ⟨l,_,_,rfl,rfl,hl2,by rw [List.length_map]; exact small1000 (by omega),?_⟩
      rw [slice_fr]
      refine fin _ (ps++[t.drop b]) (fun c o z=>by rw [upd_ne (ne_of_none z hl)]; exact hS c o z) (by rw [upd_same,List.map_append]; rfl) ?_ _ _
      rw [← hcut]
      have:(t.drop b).take (t.length - b)=t.drop b:=List.take_of_length_le (by rw [List.length_drop]; omega)
      rw [this,if_neg (fun z=>by
        have:=congrArg List.length z
        rw [List.length_drop] at this
        simp at this
        omega)]
    · have hb:b=t.length:=by
        by_cases z:b < t.length
        · exact absurd (decide_eq_true (show ((b:Nat):Int) < ((t.length:Nat):Int) by omega)) d
        · omega
      refine fin _ ps hS hl2 ?_ _ _
      rw [← hcut,hb,List.drop_length]
      simp
end
noncomputable abbrev Lvl:=List (List Nat) × List (List Nat)
noncomputable def rulesD (ls:List Lvl):D:=.tup (ls.map fun l=>lvD l.1 l.2)
noncomputable def OkL (ls:List Lvl):Prop:=∀ l∈ls,OkC l.1∧OkC l.2
noncomputable def spCut:Nat→Sp
  | 0=>fun _ _ _ _=>False
  | n+1=>fun vs H Q _=>∃ (t:List Nat) (v:V) (ls:List Lvl),vs=[.str ⟨t.toArray⟩,v]∧Den H v (rulesD ls)∧ls≠[]∧ls.length≤n+1∧OkL ls∧t.length≤1000∧∀ (q:Addr) (H':Hp),Same H H'→Den H' (.ref q) (treeD ls t)→Q (.ref q) H'
section
open M08
variable {P:Program} {w:World} {K:PySem.W.Frag} {mg:Str→Option Value} {base:Heap}
theorem cutV_one (x:V) (xs:List V):cutV (x :: xs) (some 1) none=xs:=by
  unfold cutV
  have e1:HT.sIx (x :: xs).length 0 (some 1)=1:=by
    have:=HT.sIx_nat (x :: xs).length 0 1
    rw [show ((1:Nat):Int)=1 from rfl] at this
    rw [this,List.length_cons]
    omega
  rw [e1,HT.sIx_none]
  simp
theorem scCutUp:FnScope ["text", "rules", "pieces"] ["text", "rules"] (defScope sCutUp):=⟨rfl,rfl,rfl,by decide +kernel,rfl,by decide +kernel,by decide +kernel⟩
theorem c_cut_up (h:Has K mg "cut_up" sCutUp ["text", "rules"]) (C_pieces_of:Cal P w K mg base "pieces_of" 2 ["text", "level"] spPieces) (m_len:mg "len" = none) (m_tuple:mg "tuple" = none) :
    ∀ n:Nat,Cal P w K mg base "cut_up" (n+2) ["text", "rules"] (spCut n)
  | 0=>(h.never fun _ _ _ _ z=>z).mono (by omega)
  | n+1=>by
    have C_cut_up:=c_cut_up h C_pieces_of m_len m_tuple n
    refine h.mk' scCutUp (fun vs H Q E hs=>?_) (fun f cdv A outer s H vs Q E hr hs=>?_)
    · obtain ⟨t,v,ls,rfl,_⟩:=hs
      rfl
    obtain ⟨t,v,ls,rfl,hv,hnn,hln,hok,ht,kk⟩:=hs
    refine ⟨_,(pss_cons (ps_set (i:=2) scCutUp.nd rfl (Or.inl rfl) (pe_cal C_pieces_of hr (by omega) rfl (pa_cons (pv 0) (pa_cons (pe_ix ix_tup (pv 1) pe_int (fun _ _=>rfl)) pa_nil))))
    (pss_cons (ps_if (pt_cmpR op_eq (pe_callB call_len_seq rfl m_len PySem.boot_len (pa_cons (pv 1) pa_nil)) pe_int (nomark _))
      (pss_one (ps_ret (pv 2)))
      pss_nil)
    (pss_one (ps_ret (pe_callTy call_tuple_of rfl m_tuple boot_tuple (pa_cons (pe_compL ["text", "rules", "pieces"] (defScope sCutUp) ["rules", "piece"] [some 1,none] rfl rfl rfl (pi_tup (pv 2)) rfl (by decide +kernel) (by decide +kernel) (by decide +kernel) (by decide +kernel) (hg:=fun cl C s H ex pn E=>(pg_name (i:=1) (by decide +kernel:(["rules", "piece"]:List Str).Nodup) rfl (Or.inl rfl))) (ht:=fun cl C s H ex pn E=>pifs_nil) (he:=fun cl C s H ex pn E=>(pe_cal C_cut_up hr (by omega) rfl (pa_cons (pv 1) (pa_cons (pe_slice (sl_tupK (K:=K) rfl) (pv 0) (po_some pe_int) po_none) pa_nil))))) pa_nil)))))),?_⟩
    obtain ⟨p,rs,rfl,hp,hd⟩:=den_tup hv
    match ls,rs,hnn,hln,hd,hp,hok,kk with
    | l :: ls,r :: rs,_,hln,hd,hp,hok,kk =>
      have hln':ls.length≤n:=by simpa using hln
      refine ⟨_,rfl,_,rfl,p,_,_,_,rfl,rfl,SqT.of hp,atI_zero r rs,t,r,l.1,l.2,rfl,hd.1,(hok l List.mem_cons_self).1,(hok l List.mem_cons_self).2,ht,fun q H1 s1 e1=>?_⟩
      refine ⟨_,rfl,p,_,rfl,.inr (SqT.of (s1 _ _ hp)),rfl,_,rfl,?_⟩
      have hrl:rs.length=ls.length:=by
        have:=hd.2.len
        simpa using this
      by_cases els:ls=[]
      · have ers:rs=[]:=List.eq_nil_of_length_eq_zero (by rw [hrl,els]; rfl)
        subst els
        subst ers
        refine (iteT ?_:if decide (V.int ((([r]:List V).length:Nat):Int)=V.int 1)=true then _ else _)
        exact ⟨_,rfl,kk q H1 s1 ⟨q,_,rfl,e1,denl_of H1 _⟩⟩
      · have hl0:0 < ls.length:=List.length_pos_iff.mpr els
        obtain ⟨m,rfl⟩:∃ m,n=m+1:=⟨n - 1,by omega⟩
        have hne:¬ (V.int (((r :: rs).length:Nat):Int)=V.int 1):=fun z=>by
          injection z with z1
          rw [List.length_cons] at z1
          omega
        rw [decide_eq_false hne]
        refine iteF ?_
        generalize hpc:cut l.1 l.2 [] t=pcs at e1
        have hcl:=cut_le l.1 l.2 t.length [] t (Nat.le_refl _)
        rw [hpc] at hcl
        refine ⟨_,rfl,q,rfl,⟨_,SqT.of e1⟩,fun lc hlc=>?_⟩
        refine comp_by (J:=Itt K q) (l:=lc) pcs.length (fun i σ' H'=>∃ (v:Option V) (us:List V),σ'=[some (.ref p),v]∧Same H1 H'∧H' lc=some (.lst us)∧DenL H' us ((pcs.take i).map (treeD ls))) ⟨none,[],rfl,same_new hlc _,upd_same,trivial⟩ ?_ ?_
        · rintro σ' H' ⟨v,us,rfl,hs,hl',hd'⟩
          refine ⟨⟨_,SqT.of (hs _ _ e1),by simp⟩,lc,us,rfl,.inl ⟨SqL.of hl',fun q2 hq2=>?_⟩⟩
          rw [List.take_length] at hd'
          refine kk q2 _ (s1.trans (hs.trans (same_new hq2 _))) ⟨q2,us,rfl,upd_same,?_⟩
          rw [hpc]
          exact hd'.same (same_new hq2 _)
        · rintro i σ' H' hi ⟨v,us,rfl,hs,hl',hd'⟩
          have hat:(pcs.map mkT)[i]?=some (mkT pcs[i]):=at_T hi
          refine ⟨⟨_,_,SqT.of (hs _ _ e1),hat⟩,?_⟩
          rintro y H'' ⟨rfl,hy⟩
          have ey:y=mkT pcs[i]:=Option.some.inj ((hy _ (SqT.of (hs _ _ e1))).symm.trans hat)
          subst ey
          have hpi:=hcl.2.2 pcs[i] (List.getElem_mem hi)
          have hpH:H'' p=some (.tup (r :: rs)):=hs _ _ (s1 _ _ hp)
          refine gN (yesT (iteT ?_))
          refine ⟨_,rfl,_,rfl,_,rfl,p,_,rfl,SqT.of hpH,?_,fun p2 hp2=>?_⟩
          · rintro ⟨z,_⟩
            have:=HT.sIx_nat (r :: rs).length 0 1
            rw [show ((1:Nat):Int)=1 from rfl] at this
            rw [this,List.length_cons] at z
            omega
          · rw [cutV_one]
            have s2:Same H'' (upd H'' p2 (.tup rs)):=same_new hp2 _
            refine ⟨pcs[i],_,ls,rfl,⟨p2,rs,rfl,upd_same,(hd.2.same (s1.trans (hs.trans s2)))⟩,els,hln',fun l' hl''=>hok l' (List.mem_cons_of_mem _ hl''),by simp at hpi; omega,fun q3 H3 s3 d3=>?_⟩
            have hl3:H3 lc=some (.lst us):=s3 _ _ (s2 _ _ hl')
            have hul:=hd'.len
            rw [List.length_map,List.length_take] at hul
            have hpl:pcs.length≤t.length:=hcl.2.1 rfl
            refine ⟨us,hl3,small1000 (by omega),_,us++[.ref q3],rfl,?_,upd_same,?_⟩
            · intro c o z
              have hlH:H1 lc=none:=hlc
              rw [upd_ne (ne_of_none z hlH)]
              exact s3 _ _ (s2 _ _ (hs c o z))
            · have hup:∀ {v:V} {d:D},Den H3 v d→Den (upd H3 lc (.lst (us++[.ref q3]))) v d:=fun z=>Den.keepT (fun b vs e=>by rw [upd_ne (ne_of e hl3 (by intro z; cases z))]; exact e) z
              have htk:(pcs.take (i+1)).map (treeD ls)=(pcs.take i).map (treeD ls)++[treeD ls pcs[i]]:=by
                rw [List.take_add_one,List.getElem?_eq_getElem hi,List.map_append]
                rfl
              rw [htk]
              exact DenL.snoc (hup d3) (DenL.keepT (fun b vs e=>by rw [upd_ne (ne_of e hl3 (by intro z; cases z))]; exact e) ((hd'.same s2).same s3))
    | [],_,hnn,_,_,_,_,_=>exact absurd rfl hnn
    | _ :: _,[],_,_,hd,_,_,_=>exact hd.elim
end
noncomputable def spMarks:Sp:=fun vs H Q _=>∃ (p:Addr) (x:Str) (a b:Int),vs=[.ref p,.str x]∧H p=some (.lst [.int a,.int b])∧x.length≤1000∧∀ (q:Addr) (cs:List (List Nat)) (H':Hp),Pot H p H'→H' q=some (.tup (cs.map mkT))→OkC cs→Q (.ref q) H'
section
open M08
variable {P:Program} {w:World} {K:PySem.W.Frag} {mg:Str→Option Value} {base:Heap}
theorem keys_T {kvs:List (Key × V)} (h:∀ kv∈kvs,∃ c:List Nat,kv.1=Sum.inr ⟨c.toArray⟩∧1≤c.length∧c.length≤8):∃ cs:List (List Nat),kvs.map (fun kv=>kV kv.1)=cs.map mkT∧cs.length=kvs.length∧∀ c∈cs,1≤c.length∧c.length≤8:=by
  induction kvs with
  | nil=>exact ⟨[],rfl,rfl,(fun c hc=>by cases hc)⟩
  | cons kv r ih =>
    obtain ⟨cs,e1,e2,e3⟩:=ih fun x hx=>h x (List.mem_cons_of_mem _ hx)
    obtain ⟨c,ec,hc⟩:=h kv List.mem_cons_self
    refine ⟨c :: cs,?_,by rw [List.length_cons,List.length_cons,e2],fun d hd=>?_⟩
    · rw [List.map_cons,List.map_cons,e1,ec]
      rfl
    · rcases List.mem_cons.mp hd with rfl | hd
      · exact hc
      · exact e3 d hd
theorem put_keys {kvs:List (Key × V)} {k:Key} {v:V} {F:Key→Prop} (h:∀ kv∈kvs,F kv.1) (hk:F k):∀ kv∈putK kvs k v,F kv.1:=by
  intro kv hkv
  unfold putK at hkv
  split at hkv
  · obtain ⟨x,hx,rfl⟩:=List.mem_map.mp hkv
    split
    · exact h x hx
    · exact h x hx
  · rcases List.mem_append.mp hkv with z | z
    · exact h kv z
    · have:kv=(k,v):=by simpa using z
      rw [this]
      exact hk
end
section
open M08
variable {P:Program} {w:World} {K:PySem.W.Frag} {mg:Str→Option Value} {base:Heap}
theorem scMarks:FnScope ["_law_pot_here", "_law_text_here", "_law_some", "_law_k", "_law_size", "_law_at"] ["_law_pot_here", "_law_text_here"] (defScope sMarks):=⟨rfl,rfl,rfl,by decide +kernel,rfl,by decide +kernel,by decide +kernel⟩
theorem c_marks (h:Has K mg "_law_marks" sMarks ["_law_pot_here", "_law_text_here"]) (C_take:Cal P w K mg base "_law_take" 1 ["_law_pot_here", "_law_many"] spTake) (m_range:mg "range" = none) (m_len:mg "len" = none) (m_tuple:mg "tuple" = none) (m_list:mg "list" = none):Cal P w K mg base "_law_marks" 2 ["_law_pot_here", "_law_text_here"] spMarks:=by
  refine h.mk' scMarks (fun vs H Q E hs=>?_) (fun f cdv A outer s H vs Q E hr hs=>?_)
  · obtain ⟨p,x,a,b,rfl,_⟩:=hs
    rfl
  obtain ⟨p,x,a,b,rfl,hp,hx,kk⟩:=hs
  refine ⟨_,(pss_cons (ps_set (i:=2) scMarks.nd rfl (Or.inl rfl) pe_dnewK)
    (pss_cons (ps_for PassesOwn.never rfl (pi_range1 rfl m_range (pa_cons (pe_cal C_take hr (by decide) rfl (pa_cons (pv 0) (pa_cons (pe_ix ix_list (pe_lst (pa_cons pe_int (pa_cons pe_int (pa_cons pe_int pa_nil)))) (pe_cal C_take hr (by decide) rfl (pa_cons (pv 0) (pa_cons pe_int pa_nil))) (fun _ _=>rfl)) pa_nil))) pa_nil)) (pg_name (i:=3) scMarks.nd rfl (Or.inl rfl))
      (pss_cons (ps_set (i:=4) scMarks.nd rfl (Or.inl rfl) (pe_op op_add pe_int (pe_cal C_take hr (by decide) rfl (pa_cons (pv 0) (pa_cons (pe_ix ix_list (pe_lst (pa_cons pe_int (pa_cons pe_int pa_nil))) (pe_cal C_take hr (by decide) rfl (pa_cons (pv 0) (pa_cons pe_int pa_nil))) (fun _ _=>rfl)) pa_nil)))))
    (pss_one (ps_if (PW.pt (pw_and (pt_cmpR op_ne (pv 1) pe_str (nomark _)) (pw_and1 (pt_cmpR op_gt (pe_cal C_take hr (by decide) rfl (pa_cons (pv 0) (pa_cons pe_int pa_nil))) pe_int (nomark _)))))
      (pss_cons (ps_set (i:=5) scMarks.nd rfl (Or.inl rfl) (pe_cal C_take hr (by decide) rfl (pa_cons (pv 0) (pa_cons (pe_callB call_len_str rfl m_len PySem.boot_len (pa_cons (pv 1) pa_nil)) pa_nil))))
    (pss_one (ps_dput (hu_of hr) (pv 2) (pe_slice sl_str (pv 1) (po_some (pv 5)) (po_some (pe_op op_add (pv 5) (pv 4)))) pe_bl rfl)))
      (pss_one (ps_dput (hu_of hr) (pv 2) (pe_bm PySem.F.plainAttrs_str PySem.F.slot_str_join PySem.F.type_str_join mt_join pe_str (pa_cons (pe_compL ["_law_pot_here", "_law_text_here", "_law_some", "_law_k", "_law_size", "_law_at"] (defScope sMarks) ["_law_pot_here", "_law_sign"] [some 0,none] rfl rfl rfl (pi_range1 rfl m_range (pa_cons (pv 4) pa_nil)) rfl (by decide +kernel) (by decide +kernel) (by decide +kernel) (by decide +kernel) (hg:=fun cl C s H ex pn E=>(pg_name (i:=1) (by decide +kernel:(["_law_pot_here", "_law_sign"]:List Str).Nodup) rfl (Or.inl rfl))) (ht:=fun cl C s H ex pn E=>pifs_nil) (he:=fun cl C s H ex pn E=>(pe_ix ix_str pe_str (pe_cal C_take hr (by decide) rfl (pa_cons (pv 0) (pa_cons pe_int pa_nil))) (fun _ _=>rfl)))) pa_nil)) pe_bl rfl))))))
    (pss_one (ps_ret (pe_callTy call_tuple_of rfl m_tuple boot_tuple (pa_cons (pe_callTy (call_list_dict rfl) rfl m_list boot_list (pa_cons (pv 2) pa_nil)) pa_nil)))))),?_⟩
  have hz:x.length≤sizeLine:=small hx
  have P0:Pot H p H:=⟨⟨a,b,hp⟩,fun c o e _=>e⟩
  refine fun d hd=>?_
  have ndp:d≠p:=P0.apart hd
  refine draw_menu (K:=K) (σ:=[some (.ref p),some (.str x),some (.ref d),none,none,none]) (i:=0) (m:=3) (H:=upd H d (.dK [])) (cs:=[3,5,13]) (hi:=13) rfl (P0.new hd) rfl (by decide) (by decide) (by decide) (by decide) fun n H1 n0 n1 P1 s1=>?_
  refine ⟨n,rfl,by omega,by omega,?_⟩
  refine for_range (lo:=0) (n:=n.toNat) (fun i σ H2=>∃ (v3 v4 v5:Option V) (kvs:List (Key × V)),σ=[some (.ref p),some (.str x),some (.ref d),v3,v4,v5]∧H2 d=some (.dK kvs)∧kvs.length≤i∧(∀ kv∈kvs,∃ c:List Nat,kv.1=Sum.inr ⟨c.toArray⟩∧1≤c.length∧c.length≤8)∧Pot H p H2)
    ⟨none,none,none,[],rfl,s1 d _ upd_same ndp,Nat.le_refl _,(fun kv hkv=>by cases hkv),P1⟩ ?_ ?_
  · rintro i σ H2 hi ⟨v3,v4,v5,kvs,rfl,ed,hkl,hkeys,hP⟩
    refine draw_menu (K:=K) (σ:=[some (.ref p),some (.str x),some (.ref d),some (.int (0+(i:Int))),v4,v5]) (i:=0) (m:=2) (H:=H2) (cs:=[2,8]) (hi:=8) rfl hP rfl (by decide) (by decide) (by decide) (by decide) fun sz H3 z0 z1 P3 s3=>?_
    have ed3:H3 d=some (.dK kvs):=s3 d _ ed ndp
    refine ⟨_,_,rfl,rfl,?_⟩
    have fin:∀ (H4:Hp) (c:List Nat) (y:Str) (u5:Option V),y=⟨c.toArray⟩→1≤c.length→c.length≤8→Pot H p H4→H4 d=some (.dK kvs)→∀ u4:Option V,∃ (a:Addr) (H5:Hp),V.ref d=.ref a∧DPut H4 a (.str y) (.bl true) H5 ∧
        ∃ (v3 v4 v5:Option V) (kvs:List (Key × V)),([some (.ref p),some (.str x),some (.ref d),some (.int (0+(i:Int))),u4,u5]:L2.St)=[some (.ref p),some (.str x),some (.ref d),v3,v4,v5]∧H5 d=some (.dK kvs)∧kvs.length≤i+1∧(∀ kv∈kvs,∃ c:List Nat,kv.1=Sum.inr ⟨c.toArray⟩∧1≤c.length∧c.length≤8)∧Pot H p H5:=fun H4 c y u5 ey c1 c8 P4 e4 u4=>by
      subst ey
      refine ⟨d,_,rfl,DPut.k (k:=Sum.inr ⟨c.toArray⟩) e4 (small1000 (by omega)),_,_,_,_,rfl,upd_same,?_,put_keys (F:=fun k=>∃ c:List Nat,k=Sum.inr ⟨c.toArray⟩∧1≤c.length∧c.length≤8) hkeys ⟨c,rfl,c1,c8⟩,P4.list hd ndp⟩
      have:=length_putK kvs (Sum.inr ⟨c.toArray⟩) (V.bl true)
      omega
    obtain ⟨zn,ezn⟩:∃ zn:Nat,sz=(zn:Int):=⟨sz.toNat,by omega⟩
    subst ezn
    have own:∀ (H4:Hp) (u5:Option V),Pot H p H4→H4 d=some (.dK kvs)→tBM K "str" (fun x xs H Q=>∃ y l ys,x=V.str y∧xs=[V.ref l]∧SqL K H l (ys.map V.str)∧(ys.map (·.length)).sum+ys.length * y.length≤16777216∧Q (.str (Str.join y ys)) H) (tC (.str ""))
        (tCons (tComp (iRng1 (tCons (tVar 4) tNil)) (gName 1) tYes (tOp rIxS (tC (.str " .,\nab-x")) (tCall spTake [] E0 (tCons (tVar 0) (tCons (tC (.int 8)) tNil)))) (liftBy [some 0,none])) tNil)
        [some (.ref p),some (.str x),some (.ref d),some (.int (0+(i:Int))),some (.int (1+(zn:Int))),u5] H4 (fun y H3=>∃ (a:Addr) (H5:Hp),V.ref d=.ref a∧DPut H3 a y (.bl true) H5 ∧
        ∃ (v3 v4 v5:Option V) (kvs:List (Key × V)),([some (.ref p),some (.str x),some (.ref d),some (.int (0+(i:Int))),some (.int (1+(zn:Int))),u5]:L2.St)=[some (.ref p),some (.str x),some (.ref d),v3,v4,v5]∧H5 d=some (.dK kvs)∧kvs.length≤i+1∧(∀ kv∈kvs,∃ c:List Nat,kv.1=Sum.inr ⟨c.toArray⟩∧1≤c.length∧c.length≤8)∧Pot H p H5):=fun H4 u5 P4 e4=>by
      refine ⟨rfl,_,rfl,_,rfl,by omega,by omega,fun l hl=>?_⟩
      have nlp:l≠p:=P4.apart hl
      have ndl:d≠l:=ne_of_none e4 hl
      have en:(1+(zn:Int)).toNat=zn+1:=by omega
      rw [en]
      refine comp_by (J:=Itr 0 (zn+1)) (l:=l) (zn+1) (fun j σ' H'=>∃ (cs:List Nat) (v:Option V),cs.length=j∧σ'=[some (.ref p),v]∧H' l=some (.lst (cs.map fun c=>V.str ⟨#[c]⟩))∧H' d=some (.dK kvs)∧Pot H p H') ⟨[],none,rfl,rfl,upd_same,(upd_ne ndl).trans e4,P4.new hl⟩ ?_ ?_
      · rintro σ' H' ⟨cs,v,hcs,rfl,hl',hd',hP'⟩
        refine ⟨Nat.le_refl _,_,l,cs.map (fun c=>(⟨#[c]⟩:Str)),rfl,rfl,SqL.of (by rw [List.map_map]; exact hl'),join_fits (by decide +kernel) cs (by omega),?_⟩
        refine fin H' cs _ u5 ?_ (by omega) (by omega) hP' hd' _
        have ej:∀ y:Str,y=⟨#[]⟩→Str.join y (cs.map fun c=>(⟨#[c]⟩:Str))=⟨cs.toArray⟩:=fun y hy=>by
          subst hy
          exact join_ones _
        exact ej _ (by decide +kernel)
      · rintro j σ' H' hj ⟨cs,v,hcs,rfl,hl',hd',hP'⟩
        refine ⟨hj,?_⟩
        rintro y H'' ⟨rfl,rfl⟩
        refine gN (yesT (iteT ?_))
        refine draw (σ:=[some (.ref p),some (.int (0+(j:Int)))]) (i:=0) (m:=8) (H:=H'') rfl hP' (by decide) (by decide) fun r H5 r0 r1 P5 s5=>?_
        have e8:(Str.cps " .,\nab-x").toList.length=8:=by decide +kernel
        obtain ⟨c,hc,_⟩:=atI_lt (xs:=(Str.cps " .,\nab-x").toList) r0 (by rw [e8]; exact r1)
        refine ⟨_,r,c,rfl,rfl,small (by decide +kernel),hc,?_⟩
        have fl:H l=none:=P4.free hl
        refine ⟨cs.map (fun c=>V.str ⟨#[c]⟩),s5 l _ hl' nlp,by rw [List.length_map]; exact small1000 (by omega),cs++[c],_,by rw [List.length_append,hcs]; rfl,rfl,?_,(upd_ne ndl).trans (s5 d _ hd' ndp),P5.list fl nlp⟩
        rw [upd_same,List.map_append]
        rfl
    refine ⟨_,rfl,rfl,_,rfl,?_⟩
    refine ite2 (fun c1=>?_) (fun c1=>?_)
    · have hne:x.length≠0:=fun z=>by
        have ex:x = "":=by
          rw [str_T x,List.eq_nil_of_length_eq_zero (l:=x.cps.toList) (by simpa [Str.length] using z)]
          decide +kernel
        rw [ex] at c1
        exact absurd c1 (by decide +kernel)
      refine draw (σ:=[some (.ref p),some (.str x),some (.ref d),some (.int (0+(i:Int))),some (.int (1+(zn:Int))),v5]) (i:=0) (m:=3) (H:=H3) rfl P3 (by decide) (by decide) fun r H4 r0 r1 P4 s4=>?_
      have ed4:H4 d=some (.dK kvs):=s4 d _ ed3 ndp
      refine ⟨_,_,rfl,rfl,_,rfl,?_⟩
      refine ite2 (fun c2=>?_) (fun c2=>?_)
      · obtain ⟨a5,b5,e5⟩:=P4.at_
        refine ⟨_,rfl,_,rfl,_,rfl,hz,p,(x.length:Int),a5,b5,rfl,e5,by omega,by omega,fun at_ a6 b6 t0 t1=>?_⟩
        obtain ⟨an,ean⟩:∃ an:Nat,at_=(an:Int):=⟨at_.toNat,by omega⟩
        subst ean
        refine ⟨_,rfl,_,rfl,_,rfl,_,rfl,_,rfl,_,rfl,_,_,rfl,rfl,_,rfl,x,rfl,hz,?_⟩
        have esl:Txt.slice x (some ((an:Nat):Int)) (some ((an:Int)+(1+(zn:Int))))=⟨((x.cps.toList.drop an).take (zn+1)).toArray⟩:=by
          have e:(an:Int)+(1+(zn:Int))=((an+(zn+1):Nat):Int):=by omega
          rw [e,SLi.both x (by omega)]
          congr 3
          omega
        have hxl:x.cps.toList.length=x.length:=by simp [Str.length]
        refine fin _ ((x.cps.toList.drop an).take (zn+1)) _ _ esl ?_ ?_ P4.turn ((upd_ne ndp).trans ed4) _
        · rw [List.length_take,List.length_drop]
          omega
        · rw [List.length_take]
          omega
      · exact ⟨_,rfl,own H4 v5 P4 ed4⟩
    · exact iteF ⟨_,rfl,own H3 v5 P3 ed3⟩
  · rintro σ H2 ⟨v3,v4,v5,kvs,rfl,ed,hkl,hkeys,hP⟩
    refine ⟨_,rfl,d,kvs,rfl,ed,fun l hl=>?_⟩
    refine ⟨l,_,rfl,.inl ⟨SqL.of upd_same,fun q hq=>?_⟩⟩
    obtain ⟨cs,e1,e2,e3⟩:=keys_T hkeys
    refine kk q cs _ ((hP.new hl).new hq) ?_ ⟨by omega,e3⟩
    rw [upd_same,e1]
end
noncomputable def spRules:Sp:=fun vs H Q _=>∃ (p:Addr) (x:Str) (m:Nat) (a b:Int),vs=[.ref p,.str x,.int (m:Nat)]∧H p=some (.lst [.int a,.int b])∧x.length≤1000∧m≤100∧∀ (q:Addr) (ls:List Lvl) (H':Hp),Pot H p H'→Den H' (.ref q) (rulesD ls)→OkL ls→ls.length=m→Q (.ref q) H'
section
open M08
variable {P:Program} {w:World} {K:PySem.W.Frag} {mg:Str→Option Value} {base:Heap}
theorem scRules:FnScope ["_law_pot_here", "_law_text_here", "_law_many"] ["_law_pot_here", "_law_text_here", "_law_many"] (defScope sRules):=⟨rfl,rfl,rfl,by decide +kernel,rfl,by decide +kernel,by decide +kernel⟩
theorem c_rules (h:Has K mg "_law_rules" sRules ["_law_pot_here", "_law_text_here", "_law_many"]) (C_marks:Cal P w K mg base "_law_marks" 2 ["_law_pot_here", "_law_text_here"] spMarks) (m_tuple:mg "tuple" = none) (m_range:mg "range" = none):Cal P w K mg base "_law_rules" 3 ["_law_pot_here", "_law_text_here", "_law_many"] spRules:=by
  refine h.mk' scRules (fun vs H Q E hs=>?_) (fun f cdv A outer s H vs Q E hr hs=>?_)
  · obtain ⟨p,x,m,a,b,rfl,_⟩:=hs
    rfl
  obtain ⟨p,x,m,a,b,rfl,hp,hx,hm,kk⟩:=hs
  refine ⟨_,(pss_one (ps_ret (pe_callTy call_tuple_of rfl m_tuple boot_tuple (pa_cons (pe_compL ["_law_pot_here", "_law_text_here", "_law_many"] (defScope sRules) ["_law_pot_here", "_law_text_here", "_law_k"] [some 0,some 1,none] rfl rfl rfl (pi_range1 rfl m_range (pa_cons (pv 2) pa_nil)) rfl (by decide +kernel) (by decide +kernel) (by decide +kernel) (by decide +kernel) (hg:=fun cl C s H ex pn E=>(pg_name (i:=2) (by decide +kernel:(["_law_pot_here", "_law_text_here", "_law_k"]:List Str).Nodup) rfl (Or.inl rfl))) (ht:=fun cl C s H ex pn E=>pifs_nil) (he:=fun cl C s H ex pn E=>(pe_tup (pa_cons (pe_cal C_marks hr (by decide) rfl (pa_cons (pv 0) (pa_cons (pv 1) pa_nil))) (pa_cons (pe_cal C_marks hr (by decide) rfl (pa_cons (pv 0) (pa_cons (pv 1) pa_nil))) pa_nil))))) pa_nil)))),?_⟩
  have P0:Pot H p H:=⟨⟨a,b,hp⟩,fun c o e _=>e⟩
  refine ⟨_,rfl,_,rfl,by omega,by omega,fun l hl=>?_⟩
  have nlp:l≠p:=P0.apart hl
  have en:(((m:Nat):Int)).toNat=m:=by omega
  rw [en]
  refine comp_by (J:=Itr 0 m) (l:=l) m (fun j σ' H'=>∃ (v:Option V) (us:List V) (ls:List Lvl),σ'=[some (.ref p),some (.str x),v]∧H' l=some (.lst us)∧Pot H p H'∧DenL H' us (ls.map fun l=>lvD l.1 l.2)∧OkL ls∧ls.length=j) ⟨none,[],[],rfl,upd_same,P0.new hl,trivial,fun l h=>by (cases h),rfl⟩ ?_ ?_
  · rintro σ' H' ⟨v,us,ls,rfl,hl',hP',hd',hok,hll⟩
    refine ⟨Nat.le_refl _,l,us,rfl,.inl ⟨SqL.of hl',fun q hq=>?_⟩⟩
    exact kk q ls _ (hP'.new hq) ⟨q,us,rfl,upd_same,hd'.same (same_new hq _)⟩ hok hll
  · rintro j σ' H' hj ⟨v,us,ls,rfl,hl',hP',hd',hok,hll⟩
    refine ⟨hj,?_⟩
    rintro y H'' ⟨rfl,rfl⟩
    refine gN (yesT (iteT ?_))
    obtain ⟨a1,b1,e1⟩:=id hP'.at_
    refine ⟨_,rfl,_,rfl,p,_,a1,b1,rfl,e1,hx,fun qm ms H4 P4 e4 ok4=>?_⟩
    obtain ⟨a2,b2,e2⟩:=id P4.at_
    have nqm:qm≠p:=ne_of e4 e2 (by intro z; cases z)
    refine ⟨_,rfl,_,rfl,p,_,a2,b2,rfl,e2,hx,fun qk ks H5 P5 e5 ok5=>?_⟩
    refine ⟨smn 2,fun lv hlv=>?_⟩
    have e5m:H5 qm=some (.tup (ms.map mkT)):=P5.old qm _ e4 nqm
    have el5:H5 l=some (.lst us):=P5.old l _ (P4.old l _ hl' nlp) nlp
    have sv:=same_new hlv (.tup [.ref qm,.ref qk])
    have den:Den (upd H5 lv (.tup [.ref qm,.ref qk])) (.ref lv) (lvD ms ks):=den_mk upd_same (sv _ _ e5m) (sv _ _ e5)
    have dus:DenL (upd H5 lv (.tup [.ref qm,.ref qk])) us (ls.map fun l=>lvD l.1 l.2):=hd'.keepT fun b vs e=>sv _ _ (P5.old b _ (P4.old b _ e (ne_of e e1 (by intro z; cases z))) (ne_of e e1 (by intro z; cases z)))
    have el6:=sv _ _ el5
    have P6:Pot H p (upd H5 lv (.tup [.ref qm,.ref qk])):=((hP'.trans P4).trans P5).new hlv
    generalize upd H5 lv (.tup [.ref qm,.ref qk])=H6 at den dus el6 P6
    have ul:=hd'.len
    rw [List.length_map] at ul
    refine ⟨us,el6,small1000 (by omega),_,us++[.ref lv],ls++[(ms,ks)],rfl,upd_same,P6.list hl nlp,?_,?_,by rw [List.length_append,hll]; rfl⟩
    · have kp:∀ (b:Addr) (vs:List V),H6 b=some (.tup vs)→(upd H6 l (.lst (us++[.ref lv]))) b=some (.tup vs):=fun b vs e=>by
        rw [upd_ne (ne_of e el6 (by intro z; cases z))]
        exact e
      rw [List.map_append]
      exact DenL.snoc (den.keepT kp) (dus.keepT kp)
    · intro l' hl''
      rcases List.mem_append.mp hl'' with z | z
      · exact hok l' z
      · rw [List.mem_singleton.mp z]
        exact ⟨ok4,ok5⟩
end
noncomputable def spLeaves:Sp:=fun vs H Q _=>∃ (v:V) (m:Nat) (d:D),vs=[v]∧Den H v d∧m≤6∧Tr m d∧cntN m d≤100000∧∀ (q:Addr) (H':Hp),Same H H'→Den H' (.ref q) (.tup ((lvs m [] d).map leafD))→Q (.ref q) H'
noncomputable def spNodes:Nat→Sp
  | 0=>fun _ _ _ _=>False
  | n+1=>fun vs H Q _=>∃ (v p:V) (m:Nat) (d:D) (ks:List Int),vs=[v,p]∧Den H v d∧Den H p (pathD ks)∧m≤n∧Tr m d∧cntN m d≤100000∧ks.length+m≤100∧∀ (q:Addr) (us:List V) (H':Hp),Same H H'→H q=none→H' q=some (.lst us)→DenL H' us ((nds m ks d).map ndD)→Q (.ref q) H'
section
open M08
variable {P:Program} {w:World} {K:PySem.W.Frag} {mg:Str→Option Value} {base:Heap}
theorem denI {H:Hp}:∀ {cs:List Int} {vs:List V},DenL H vs (cs.map D.int)→vs=cs.map V.int
  | [],[],_=>rfl
  | _ :: cs,v :: vs,h=>by
    have e:v=.int _:=h.1
    rw [e,denI h.2]
    rfl
  | [],_ :: _,h=>h.elim
  | _ :: _,[],h=>h.elim
theorem denI_of (H:Hp):∀ cs:List Int,DenL H (cs.map V.int) (cs.map D.int)
  | []=>trivial
  | _ :: cs=>⟨rfl,denI_of H cs⟩
theorem denl_app {H:Hp}:∀ {ds es:List D} {vs us:List V},DenL H vs ds→DenL H us es→DenL H (vs++us) (ds++es)
  | [],_,[],_,_,h=>h
  | _ :: _,_,_ :: _,_,h,g=>⟨h.1,denl_app h.2 g⟩
  | [],_,_ :: _,_,h,_=>h.elim
  | _ :: _,_,[],_,h,_=>h.elim
theorem le_sum {α:Type} (g:α→Nat) {x:α}:∀ {xs:List α},x∈xs→g x≤(xs.map g).sum
  | y :: ys,h=>by
    rw [List.map_cons,List.sum_cons]
    rcases List.mem_cons.mp h with rfl | z
    · omega
    · have:=le_sum g z
      omega
theorem sum_take_succ {α:Type} (g:α→Nat):∀ {xs:List α} {i:Nat} (h:i < xs.length),((xs.take i).map g).sum+g xs[i]≤(xs.map g).sum
  | x :: xs,0,h=>by simp
  | x :: xs,i+1,h=>by
    have:=sum_take_succ g (xs:=xs) (i:=i) (by simpa using h)
    simp only [List.take_succ_cons,List.map_cons,List.sum_cons,List.getElem_cons_succ]
    omega
theorem scNodesOf:FnScope ["tree", "path", "nodes", "k", "branch"] ["tree", "path"] (defScope sNodesOf):=⟨rfl,rfl,rfl,by decide +kernel,rfl,by decide +kernel,by decide +kernel⟩
theorem c_nodes_of (h:Has K mg "nodes_of" sNodesOf ["tree", "path"]) (m_isinstance:mg "isinstance" = none) (m_tuple:mg "tuple" = none) (m_enumerate:mg "enumerate" = none) :
    ∀ n:Nat,Cal P w K mg base "nodes_of" n ["tree", "path"] (spNodes n)
  | 0=>h.never fun _ _ _ _ z=>z
  | n+1=>by
    have C_nodes_of:=c_nodes_of h m_isinstance m_tuple m_enumerate n
    refine h.mk' scNodesOf (fun vs H Q E hs=>?_) (fun f cdv A outer s H vs Q E hr hs=>?_)
    · obtain ⟨v,p,m,d,ks,rfl,_⟩:=hs
      rfl
    obtain ⟨v,p,m,d,ks,rfl,hv,hp,hm,ht,hc,hk,kk⟩:=hs
    refine ⟨_,(pss_cons (ps_set (i:=2) scNodesOf.nd rfl (Or.inl rfl) (pe_lst (pa_cons (pe_tup (pa_cons (pv 1) (pa_cons (pv 0) pa_nil))) pa_nil)))
    (pss_cons (ps_if (pt_val (pe_callB call_isinst rfl m_isinstance boot_isinstance (pa_cons (pv 0) (pa_cons (pe_bltn (v:=.ty "tuple") rfl m_tuple boot_tuple rfl) pa_nil))))
      (pss_one (ps_for PassesOwn.never rfl (pi_enumT rfl m_enumerate (pa_cons (pv 0) pa_nil)) (pg_tup rfl (pgs_cons (pg_name (i:=3) scNodesOf.nd rfl (Or.inl rfl)) (pgs_cons (pg_name (i:=4) scNodesOf.nd rfl (Or.inl rfl)) pgs_nil)))
      (pss_one (ps_expr (pe_bm PySem.F.plainAttrs_list PySem.F.slot_list_extend PySem.F.type_list_extend mt_extend (pv 2) (pa_cons (pe_cal C_nodes_of hr (Nat.le_refl _) rfl (pa_cons (pv 4) (pa_cons (pe_op op_catT2 (pv 1) (pe_tup (pa_cons (pv 3) pa_nil))) pa_nil))) pa_nil))))))
      pss_nil)
    (pss_one (ps_ret (pv 2))))),?_⟩
    obtain ⟨pp,pvs,rfl,hpp,hpd⟩:=den_tup hp
    have epv:=denI hpd
    subst epv
    refine ⟨_,rfl,_,rfl,smn 2,fun t0 ht0=>⟨smn 1,fun l hl=>?_⟩⟩
    have s0:Same H (upd (upd H t0 (.tup [.ref pp,v])) l (.lst [.ref t0])):=(same_new ht0 _).trans (same_new hl _)
    have nlt:t0≠l:=ne_of_none upd_same hl
    have hlH:H l=none:=by
      cases e:H l with
      | none=>rfl
      | some o=>exact absurd ((same_new ht0 (.tup [.ref pp,v]) l o e).symm.trans hl) (by simp)
    have e0:(upd (upd H t0 (.tup [.ref pp,v])) l (.lst [.ref t0])) t0=some (.tup [.ref pp,v]):=(upd_ne nlt).trans upd_same
    have d0:DenL (upd (upd H t0 (.tup [.ref pp,v])) l (.lst [.ref t0])) [.ref t0] ([(ks,d)].map ndD):=⟨⟨t0,_,rfl,e0,⟨pp,_,rfl,s0 _ _ hpp,denI_of _ ks⟩,hv.same s0,trivial⟩,trivial⟩
    have el:(upd (upd H t0 (.tup [.ref pp,v])) l (.lst [.ref t0])) l=some (.lst [.ref t0]):=upd_same
    generalize upd (upd H t0 (.tup [.ref pp,v])) l (.lst [.ref t0])=H1 at s0 d0 el
    cases m with
    | zero =>
      obtain ⟨x,rfl⟩:=ht
      have ev:v=.str ⟨x.toArray⟩:=hv
      subst ev
      refine ⟨_,rfl,_,_,_,false,rfl,.str _,kit_str_tuple K,_,rfl,iteF ?_⟩
      exact ⟨_,rfl,kk l _ _ s0 hlH el d0⟩
    | succ m =>
      obtain ⟨ds,rfl,hds⟩:=ht
      obtain ⟨pv,vs,rfl,hpv,hvs⟩:=den_tup hv
      obtain ⟨n,rfl⟩:∃ n',n=n' + 1:=⟨n - 1,by omega⟩
      refine ⟨_,rfl,_,_,_,true,rfl,.tup (s0 _ _ hpv),kit_tuple_tuple K,_,rfl,iteT ?_⟩
      refine ⟨_,rfl,pv,rfl,⟨_,SqT.of (s0 _ _ hpv)⟩,?_⟩
      have hlen:=hvs.len
      have hcs:1+(ds.map (cntN m)).sum≤100000:=hc
      refine for_enumT (K:=K) (a:=pv) (xs:=vs) (fun i σ H2=>∃ (v3 v4:Option V) (us:List V),σ=[some (.ref pv),some (.ref pp),some (.ref l),v3,v4]∧Same H H2∧H2 l=some (.lst us)∧DenL H2 us (((ks,D.tup ds) :: ((ds.take i).zipIdx.flatMap fun p=>nds m (ks++[((p.2:Nat):Int)]) p.1)).map ndD))
        ⟨none,none,_,rfl,s0,el,d0⟩ ?_ ?_ ?_
      · rintro i σ H2 _ ⟨v3,v4,us,rfl,s2,_⟩
        exact SqT.of (s2 _ _ hpv)
      · rintro i y t σ H2 hi ⟨v3,v4,us,rfl,s2,el2,d2⟩ htn
        obtain ⟨b,hb,db⟩:=hvs.at_ hi
        have hil:i < ds.length:=(List.getElem?_eq_some_iff.mp hb).1
        have ebi:ds[i]=b:=(List.getElem?_eq_some_iff.mp hb).2
        have hbm:b∈ds:=List.mem_of_getElem? hb
        refine ⟨t,_,rfl,SqT.of upd_same,rfl,_,_,rfl,_,_,rfl,rfl,?_⟩
        have s3:Same H2 (upd H2 t (.tup [.int (i:Nat),y])):=same_new htn _
        have el3:=s3 _ _ el2
        have d3:=d2.same s3
        generalize upd H2 t (.tup [.int (i:Nat),y])=H3 at s3 el3 d3
        refine ⟨_,rfl,.inl ⟨rfl,_,SqL.of el3⟩,_,rfl,_,rfl,_,rfl,smn 1,fun t1 ht1=>?_⟩
        have s4:Same H3 (upd H3 t1 (.tup [.int (i:Nat)])):=same_new ht1 _
        refine ⟨pp,t1,_,_,rfl,rfl,s4 _ _ (s3 _ _ (s2 _ _ hpp)),upd_same,small (by rw [List.length_map,List.length_singleton]; omega),fun q5 H5 s5 e5=>?_⟩
        have sA:Same H H5:=((s2.trans s3).trans s4).trans s5
        refine ⟨_,_,m,b,ks++[((i:Nat):Int)],rfl,db.same sA,⟨q5,_,rfl,e5,by rw [show ks.map V.int++[V.int ((i:Nat):Int)]=(ks++[((i:Nat):Int)]).map V.int from by rw [List.map_append]; rfl]; exact denI_of _ _⟩,by omega,hds b hbm,?_,by rw [List.length_append,List.length_singleton]; omega,fun q6 zs H6 s6 n6 e6 d6=>?_⟩
        · have:=le_sum (cntN m) hbm
          omega
        · have el6:H6 l=some (.lst us):=s6 _ _ (s5 _ _ (s4 _ _ el3))
          have dus:DenL H6 us _:=((d3.same s4).same s5).same s6
          have hL:us.length+zs.length≤100000:=by
            have h1:=d2.len
            have h2:=d6.len
            rw [List.length_map,nds_len] at h2
            rw [List.length_map,List.length_cons,flatMap_zip _ (cntN m) (fun x i=>nds_len m _ x)] at h1
            have h3:=sum_take_succ (cntN m) hil
            rw [ebi] at h3
            omega
          refine ⟨l,q6,us,zs,rfl,rfl,el6,e6,Nat.le_trans (Nat.le_trans hL (by decide)) sizeLine_big,_,_,us++zs,rfl,?_,upd_same,?_⟩
          · intro c o z
            rw [upd_ne (ne_of_none z hlH)]
            exact s6 _ _ (sA c o z)
          · have kp:∀ (b:Addr) (vs:List V),H6 b=some (.tup vs)→(upd H6 l (.lst (us++zs))) b=some (.tup vs):=fun b vs e=>by
              rw [upd_ne (ne_of e el6 (by intro z; cases z))]
              exact e
            have etk:((ds.take (i+1)).zipIdx.flatMap fun p=>nds m (ks++[((p.2:Nat):Int)]) p.1)=((ds.take i).zipIdx.flatMap fun p=>nds m (ks++[((p.2:Nat):Int)]) p.1)++nds m (ks++[((i:Nat):Int)]) b:=by
              rw [List.take_add_one,hb,Option.toList_some,List.zipIdx_append,List.flatMap_append]
              simp [Nat.min_eq_left (Nat.le_of_lt hil)]
            rw [etk,← List.cons_append,List.map_append]
            exact denl_app (dus.keepT kp) (d6.keepT kp)
      · rintro σ H2 ⟨v3,v4,us,rfl,s2,el2,d2⟩
        rw [hlen,List.take_length] at d2
        exact ⟨_,rfl,kk l us H2 s2 hlH el2 d2⟩
theorem nds_kind:∀ (n:Nat) (ks:List Int) (d:D),Tr n d→∀ x∈nds n ks d,(∃ y:List Nat,x.2=sD y)∨∃ ds,x.2=.tup ds
  | 0,ks,d,h,x,hx=>by
    obtain ⟨y,rfl⟩:=h
    have:x=(ks,sD y):=by simpa [nds] using hx
    subst this
    exact .inl ⟨y,rfl⟩
  | n+1,ks,d,h,x,hx=>by
    obtain ⟨ds,rfl,hd⟩:=h
    rcases List.mem_cons.mp hx with rfl | hx
    · exact .inr ⟨ds,rfl⟩
    · obtain ⟨p,hp,hx⟩:=List.mem_flatMap.mp hx
      refine nds_kind n _ p.1 (hd _ ?_) x hx
      exact List.fst_mem_of_mem_zipIdx hp
theorem ty_node (K:PySem.W.Frag) {H:Hp} {v:V} {d:D} (h:Den H v d) (hk:(∃ y:List Nat,d=sD y)∨∃ ds,d=.tup ds):∃ t,TyOf K H v t∧PySem.W.kitOne K t (.type "str")=some (isS d):=by
  rcases hk with ⟨y,rfl⟩ | ⟨ds,rfl⟩
  · have e:v=.str ⟨y.toArray⟩:=h
    subst e
    exact ⟨_,.str _,kit_str_str K⟩
  · obtain ⟨p,vs,rfl,hp,_⟩:=den_tup h
    have e:isS (D.tup ds)=false:=rfl
    rw [e]
    exact ⟨_,.tup hp,kit_tt K (by decide +kernel)⟩
theorem scLeaves:FnScope ["tree"] ["tree"] (defScope sLeaves):=⟨rfl,rfl,rfl,by decide +kernel,rfl,by decide +kernel,by decide +kernel⟩
theorem c_leaves (h:Has K mg "leaves" sLeaves ["tree"]) (C_nodes_of:Cal P w K mg base "nodes_of" 7 ["tree", "path"] (spNodes 7)) (m_tuple:mg "tuple" = none) (m_isinstance:mg "isinstance" = none) (m_str:mg "str" = none):Cal P w K mg base "leaves" 8 ["tree"] spLeaves:=by
  refine h.mk' scLeaves (fun vs H Q E hs=>?_) (fun f cdv A outer s H vs Q E hr hs=>?_)
  · obtain ⟨v,m,d,rfl,_⟩:=hs
    rfl
  obtain ⟨v,m,d,rfl,hv,hm,ht,hc,kk⟩:=hs
  refine ⟨_,(pss_one (ps_ret (pe_callTy call_tuple_of rfl m_tuple boot_tuple (pa_cons (pe_compL ["tree"] (defScope sLeaves) ["node"] [none] rfl rfl rfl (pi_list (pe_cal C_nodes_of hr (by decide) rfl (pa_cons (pv 0) (pa_cons (pe_tup pa_nil) pa_nil)))) rfl (by decide +kernel) (by decide +kernel) (by decide +kernel) (by decide +kernel) (hg:=fun cl C s H ex pn E=>(pg_name (i:=0) (by decide +kernel:(["node"]:List Str).Nodup) rfl (Or.inl rfl))) (ht:=fun cl C s H ex pn E=>(pifs_one (pt_val (pe_callB (call_isinstK (K:=K) rfl) rfl m_isinstance boot_isinstance (pa_cons (pe_ix (ix_tupK (K:=K) rfl) (pv 0) pe_int (fun _ _=>rfl)) (pa_cons (pe_bltn (v:=.ty "str") rfl m_str boot_str rfl) pa_nil)))))) (he:=fun cl C s H ex pn E=>(pv 0))) pa_nil)))),?_⟩
  refine ⟨_,rfl,smn 0,fun t0 ht0=>?_⟩
  have s0:=same_new ht0 (.tup [])
  refine ⟨v,.ref t0,m,d,[],rfl,hv.same s0,⟨t0,_,rfl,upd_same,trivial⟩,by omega,ht,hc,by simp; omega,fun q us H1 s1 n1 e1 d1=>?_⟩
  have hkind:=nds_kind m [] d ht
  have hlen:=nds_len m [] d
  have hlv:=nds_lvs m [] d ht
  generalize nds m [] d=ns at d1 hkind hlen hlv
  have hul:=d1.len
  rw [List.length_map] at hul
  refine ⟨q,rfl,⟨_,SqL.of e1⟩,fun lc hlc=>?_⟩
  refine comp_by (J:=Itl K q) (l:=lc) us.length (fun i σ' H'=>∃ (v:Option V) (ws:List V),σ'=[v]∧Same H1 H'∧H' lc=some (.lst ws)∧DenL H' ws (((ns.take i).filter fun p=>isS p.2).map ndD)) ⟨none,[],rfl,same_new hlc _,upd_same,trivial⟩ ?_ ?_
  · rintro σ' H' ⟨v,ws,rfl,hs,hl',hd'⟩
    refine ⟨⟨_,SqL.of (hs _ _ e1),Nat.le_refl _⟩,lc,ws,rfl,.inl ⟨SqL.of hl',fun q2 hq2=>?_⟩⟩
    rw [hul,List.take_length,hlv] at hd'
    exact kk q2 _ (((s0.trans s1).trans hs).trans (same_new hq2 _)) ⟨q2,ws,rfl,upd_same,hd'.same (same_new hq2 _)⟩
  · rintro i σ' H' hi ⟨v,ws,rfl,hs,hl',hd'⟩
    have hat:us[i]?=some us[i]:=List.getElem?_eq_getElem hi
    refine ⟨⟨_,_,SqL.of (hs _ _ e1),hat⟩,?_⟩
    rintro y H'' ⟨rfl,hy⟩
    have ey:y=us[i]:=Option.some.inj ((hy _ (SqL.of (hs _ _ e1))).symm.trans hat)
    have hni:i < ns.length:=by omega
    obtain ⟨dd,hdd,dy⟩:=d1.at_ hat
    rw [← ey] at dy
    rw [List.getElem?_map,List.getElem?_eq_getElem hni] at hdd
    have edd:ndD ns[i]=dd:=Option.some.inj hdd
    subst edd
    have dyH:Den H'' y (ndD ns[i]):=dy.same hs
    obtain ⟨b,bs,rfl,hb,hbd⟩:=den_tup dyH
    match bs,hbd,hb with
    | [b0,b1],hbd,hb =>
      obtain ⟨ty,tyo,tyk⟩:=ty_node K (hbd.2.1) (hkind _ (List.getElem_mem hni))
      have htk:(ns.take (i+1)).filter (fun p=>isS p.2)=(ns.take i).filter (fun p=>isS p.2)++(if isS ns[i].2=true then [ns[i]] else []):=by
        rw [List.take_add_one,List.getElem?_eq_getElem hni,List.filter_append]
        congr 1
        by_cases z:isS ns[i].2=true <;> simp [z]
      refine gN ⟨_,rfl,b,_,_,_,rfl,rfl,SqT.of hb,atI_nat (xs:=[b0,b1]) (j:=1) rfl,_,_,_,_,rfl,tyo,tyk,_,rfl,?_⟩
      refine ite2 (fun z=>?_) (fun z=>?_)
      · have z':isS ns[i].2=true:=z
        rw [if_pos z'] at htk
        have wl:=hd'.len
        rw [List.length_map] at wl
        have wl2:((ns.take i).filter fun p=>isS p.2).length≤ns.length:=Nat.le_trans (List.length_filter_le _ _) (by rw [List.length_take]; omega)
        refine ⟨_,rfl,ws,hl',Nat.lt_of_lt_of_le (show ws.length < 1000000 by omega) sizeLine_big,_,ws++[.ref b],rfl,?_,upd_same,?_⟩
        · intro c o z
          have hlH:H1 lc=none:=hlc
          rw [upd_ne (ne_of_none z hlH)]
          exact hs c o z
        · rw [htk,List.map_append]
          have kp:∀ (b':Addr) (vs:List V),H'' b'=some (.tup vs)→(upd H'' lc (.lst (ws++[.ref b]))) b'=some (.tup vs):=fun b' vs e=>by
            rw [upd_ne (ne_of e hl' (by intro z; cases z))]
            exact e
          exact DenL.snoc (dyH.keepT kp) (hd'.keepT kp)
      · have z':¬ isS ns[i].2=true:=z
        rw [if_neg z',List.append_nil] at htk
        exact ⟨_,ws,rfl,hs,hl',by rw [htk]; exact hd'⟩
    | [],hbd,_=>exact hbd.elim
    | [_],hbd,_=>exact hbd.2.elim
    | _ :: _ :: _ :: _,hbd,_=>exact hbd.2.2.elim
end
noncomputable def ctE (p:List Int × Addr):List Key × V:=(p.1.map Sum.inl,V.ref p.2)
structure CtAt (H:Hp) (c:Addr) (N:List (List Int)) (bs:List Addr) (f:List Int→Str→Nat) (g:List Int→Nat):Prop where
  e:H c=some (.dT ((N.zip bs).map ctE))
  l:bs.length=N.length
  nd:bs.Nodup
  d:∀ q b,(q,b)∈N.zip bs→∃ ps,H b=some (.dK (ps.map kvE))∧Rep (f q) ps∧ps.length≤g q
theorem inl_inj:∀ {p q:List Int},(p.map Sum.inl:List Key)=q.map Sum.inl→p=q
  | [],[],_=>rfl
  | a :: p,b :: q,h=>by
    rw [List.map_cons,List.map_cons] at h
    injection h with h1 h2
    rw [Sum.inl.inj h1,inl_inj h2]
  | [],_ :: _,h=>by cases h
  | _ :: _,[],h=>by cases h
theorem zip_val:∀ {N:List (List Int)} {bs:List Addr},N.Nodup→∀ {q:List Int} {b:Addr},(q,b)∈N.zip bs→valV ((N.zip bs).map ctE) (q.map Sum.inl)=some (.ref b)
  | p :: N,c :: bs,hn,q,b,h=>by
    rw [List.nodup_cons] at hn
    rw [List.zip_cons_cons] at h ⊢
    rw [List.map_cons]
    rcases List.mem_cons.mp h with z | z
    · cases z
      exact valV_pos rfl
    · have ne:p≠q:=fun e=>hn.1 (e ▸ (List.of_mem_zip z).1)
      rw [valV_neg (show ¬ (ctE (p,c)).1=q.map Sum.inl from fun e=>ne (inl_inj e))]
      exact zip_val hn.2 z
  | [],_,_,_,_,h=>by cases h
  | _ :: _,[],_,_,_,h=>by cases h
theorem zip_ex:∀ {N:List (List Int)} {bs:List Addr},bs.length=N.length→∀ {q:List Int},q∈N→∃ b,(q,b)∈N.zip bs
  | p :: N,c :: bs,hl,q,h=>by
    rcases List.mem_cons.mp h with rfl | z
    · exact ⟨c,.head _⟩
    · obtain ⟨b,hb⟩:=zip_ex (by simpa using hl) z
      exact ⟨b,.tail _ hb⟩
  | [],_,_,_,h=>by cases h
  | _ :: _,[],h,_,_=>by simp at h
theorem zip_uniq:∀ {N:List (List Int)} {bs:List Addr},bs.Nodup→∀ {q r:List Int} {b:Addr},(q,b)∈N.zip bs→(r,b)∈N.zip bs→q=r
  | p :: N,c :: bs,hn,q,r,b,h,k=>by
    rw [List.nodup_cons] at hn
    rcases List.mem_cons.mp h with z | z <;> rcases List.mem_cons.mp k with y | y
    · cases z
      cases y
      rfl
    · cases z
      exact absurd (List.of_mem_zip y).2 hn.1
    · cases y
      exact absurd (List.of_mem_zip z).2 hn.1
    · exact zip_uniq hn.2 z y
  | [],_,_,_,_,_,h,_=>by cases h
  | _ :: _,[],_,_,_,_,h,_=>by cases h
theorem kV_inl (p:List Int):(p.map Sum.inl:List Key).map kV=p.map V.int:=by
  rw [List.map_map]
  rfl
theorem CtAt.same {H H':Hp} {c:Addr} {N:List (List Int)} {bs:List Addr} {f:List Int→Str→Nat} {g:List Int→Nat} (h:CtAt H c N bs f g) (s:Same H H'):CtAt H' c N bs f g:=⟨s _ _ h.e,h.l,h.nd,fun q b hq=>by
  obtain ⟨ps,a,r⟩:=h.d q b hq
  exact ⟨ps,s _ _ a,r⟩⟩
theorem CtAt.congr {H:Hp} {c:Addr} {N:List (List Int)} {bs:List Addr} {f f':List Int→Str→Nat} {g g':List Int→Nat} (h:CtAt H c N bs f g) (e:∀ r w,f r w=f' r w) (l:∀ r,g r≤g' r):CtAt H c N bs f' g':=⟨h.e,h.l,h.nd,fun q b hq=>by
  obtain ⟨ps,a,r,z⟩:=h.d q b hq
  exact ⟨ps,a,r.congr (e q),Nat.le_trans z (l q)⟩⟩
theorem CtAt.put {H:Hp} {c:Addr} {N:List (List Int)} {bs:List Addr} {f:List Int→Str→Nat} {g:List Int→Nat} (h:CtAt H c N bs f g) (hn:N.Nodup) {q:List Int} {b:Addr} (hq:(q,b)∈N.zip bs) {ps:List (Str × Int)} (hb:H b=some (.dK (ps.map kvE))) (hr:Rep (f q) ps) (hg:ps.length≤g q) (x:Str) :
    CtAt (upd H b (.dK ((putP ps x ((f q x+1:Nat):Int)).map kvE))) c N bs (fun r w=>if r=q then (if w=x then f q x+1 else f q w) else f r w) (fun r=>if r=q then g q+1 else g r):=by
  have ncb:c≠b:=fun z=>by rw [← z,h.e] at hb; cases hb
  refine ⟨by rw [upd_ne ncb]; exact h.e,h.l,h.nd,fun r b' hr'=>?_⟩
  by_cases e:r=q
  · subst e
    have eb:b'=b:=by
      have:=(zip_val hn hr').symm.trans (zip_val hn hq)
      injection this with this
      injection this
    subst eb
    refine ⟨_,upd_same,?_,?_⟩
    · simp only [if_pos]
      exact hr.put x (Nat.succ_pos _)
    · simp only [if_pos]
      have:=putP_len ps x ((f r x+1:Nat):Int)
      omega
  · have nb:b'≠b:=fun z=>e (zip_uniq h.nd (z ▸ hr') hq)
    simp only [if_neg e]
    rw [upd_ne nb]
    exact h.d r b' hr'
noncomputable def spAlong:Sp:=fun vs H Q _=>∃ (c a:Addr) (x:Str) (p:List Int) (N:List (List Int)) (bs:List Addr) (f:List Int→Str→Nat) (k:Nat),vs=[.ref c,.ref a,.str x]∧CtAt H c N bs f (fun _=>k)∧N.Nodup∧H a=some (.tup (p.map V.int))∧p.length≤100∧(∀ j,j < p.length→p.take j∈N)∧k≤100000 ∧
  ∀ H',CtAt H' c N bs (fun r w=>f r w+if pre r p=true∧w=x then 1 else 0) (fun _=>k+1)→(∀ b o,H b=some o→b ∉ bs→H' b=some o)→Q .non H'
noncomputable def RowsAre (H:Hp):List V→List Rw→Prop
  | [],[]=>True
  | v :: vs,r :: rs=>(∃ ds,(TalD r.2 ds∧ds.length≤100000)∧Den H v (.tup [pathD r.1,.tup ds]))∧RowsAre H vs rs
  | _,_=>False
theorem RowsAre.keepT {H H':Hp} (k:∀ (b:Addr) (vs:List V),H b=some (.tup vs)→H' b=some (.tup vs)):∀ {vs:List V} {rs:List Rw},RowsAre H vs rs→RowsAre H' vs rs
  | [],[],_=>trivial
  | _ :: _,_ :: _,h=>⟨let ⟨ds,a,b⟩:=h.1; ⟨ds,a,b.keepT k⟩,RowsAre.keepT k h.2⟩
  | [],_ :: _,h=>h.elim
  | _ :: _,[],h=>h.elim
theorem RowsAre.same {H H':Hp} (s:Same H H') {vs:List V} {rs:List Rw} (h:RowsAre H vs rs):RowsAre H' vs rs:=h.keepT fun b vs e=>s b _ e
theorem RowsAre.len {H:Hp}:∀ {vs:List V} {rs:List Rw},RowsAre H vs rs→vs.length=rs.length
  | [],[],_=>rfl
  | _ :: _,_ :: _,h=>by rw [List.length_cons,List.length_cons,RowsAre.len h.2]
  | [],_ :: _,h=>h.elim
  | _ :: _,[],h=>h.elim
theorem RowsAre.app {H:Hp}:∀ {vs us:List V} {rs ts:List Rw},RowsAre H vs rs→RowsAre H us ts→RowsAre H (vs++us) (rs++ts)
  | [],_,[],_,_,k=>k
  | _ :: _,_,_ :: _,_,h,k=>⟨h.1,RowsAre.app h.2 k⟩
  | [],_,_ :: _,_,h,_=>h.elim
  | _ :: _,_,[],_,h,_=>h.elim
theorem RowsAre.at_ {H:Hp}:∀ {vs:List V} {rs:List Rw},RowsAre H vs rs→∀ {i:Nat} {v:V} {r:Rw},vs[i]?=some v→rs[i]?=some r→∃ ds,(TalD r.2 ds∧ds.length≤100000)∧Den H v (.tup [pathD r.1,.tup ds])
  | _ :: _,_ :: _,h,0,v,r,a,b=>by
    cases a
    cases b
    exact h.1
  | _ :: vs,_ :: rs,h,i+1,v,r,a,b=>RowsAre.at_ h.2 (i:=i) a b
  | [],[],_,_,_,_,a,_=>by cases a
  | [],_ :: _,h,_,_,_,_,_=>h.elim
  | _ :: _,[],h,_,_,_,_,_=>h.elim
theorem shal_pr (p:Str × Int):Shal 1 (prD p):=by
  refine ⟨(fun z=>nomatch z),fun ds e=>?_⟩
  cases e
  refine ⟨by show 2≤100000; decide,fun e he=>?_⟩
  rcases List.mem_cons.mp he with rfl | he
  · exact shal_str _
  · rw [List.mem_singleton.mp he]
    exact shal_int _
theorem shal_row {r:Rw} {ds:List D} (hp:r.1.length≤1000) (h:TalD r.2 ds) (hl:ds.length≤100000):Shal 3 (.tup [pathD r.1,.tup ds]):=by
  refine ⟨(fun z=>nomatch z),fun es e=>?_⟩
  cases e
  refine ⟨by show 2≤100000; decide,fun e he=>?_⟩
  rcases List.mem_cons.mp he with rfl | he
  · refine Shal.up ⟨(fun z=>nomatch z),fun es e=>?_⟩
    cases e
    refine ⟨by rw [List.length_map]; omega,fun e he=>?_⟩
    obtain ⟨x,_,rfl⟩:=List.mem_map.mp he
    exact shal_int _
  · rw [List.mem_singleton.mp he]
    refine ⟨(fun z=>nomatch z),fun es e=>?_⟩
    cases e
    refine ⟨hl,fun d hd=>?_⟩
    obtain ⟨ps,pm,_⟩:=h.ex
    obtain ⟨p,_,rfl⟩:=List.mem_map.mp (pm.mem_iff.mp hd)
    exact shal_pr p
theorem RowsAre.det:∀ {H H':Hp} {vs us:List V} {rs:List Rw},RowsAre H vs rs→RowsAre H' us rs→(∀ r∈rs,r.1.length≤1000)→∃ ds:List D,DenL H vs ds∧DenL H' us ds∧∀ d∈ds,Shal 3 d
  | _,_,[],[],[],_,_,_=>⟨[],trivial,trivial,fun d h=>nomatch h⟩
  | _,_,_ :: _,_ :: _,r :: _,h,k,hp=>by
    obtain ⟨ds,a,b,c⟩:=RowsAre.det h.2 k.2 fun r hr=>hp r (.tail _ hr)
    obtain ⟨d1,⟨t1,l1⟩,n1⟩:=h.1
    obtain ⟨d2,⟨t2,l2⟩,n2⟩:=k.1
    rw [← t1.det t2] at n2
    refine ⟨_ :: ds,⟨n1,a⟩,⟨n2,b⟩,fun d hd=>?_⟩
    rcases List.mem_cons.mp hd with rfl | hd
    · exact shal_row (hp r (.head _)) t1 l1
    · exact c d hd
  | _,_,[],_,_ :: _,h,_,_=>h.elim
  | _,_,_ :: _,_,[],h,_,_=>h.elim
  | _,_,_ :: _,[],_ :: _,_,h,_=>h.elim
  | _,_,[],_ :: _,[],_,h,_=>h.elim
noncomputable def spTally:Sp:=fun vs H Q _=>∃ (v:V) (a:Addr) (m:Nat) (d:D) (ws:List Str),vs=[v,.ref a]∧Den H v d∧m≤5∧Tr (m+1) d∧cntN (m+1) d≤100000∧H a=some (.tup (ws.map V.str))∧ws.length=nl (m+1) d ∧
  ∀ (q:Addr) (us:List V) (H':Hp),Same H H'→H' q=some (.tup us)→RowsAre H' us (rws (m+1) d ws)→Q (.ref q) H'
section
open M08
variable {P:Program} {w:World} {K:PySem.W.Frag} {mg:Str→Option Value} {base:Heap}
theorem int_len {p:List Int}:((p.map V.int).length:Nat)=p.length:=List.length_map _
theorem cut12 (xs:List V) (k:Nat):cutV xs none (some (k:Int))=xs.take k:=by
  unfold cutV
  rw [HT.sIx_none,HT.sIx_nat,List.drop_zero,Nat.sub_zero,← List.take_take,List.take_length]
theorem pre_take {p:List Int} {j:Nat} (h:j < p.length):pre (p.take j) p=true:=by
  unfold pre
  rw [List.length_take,Nat.min_eq_left (Nat.le_of_lt h)]
  simp [h]
theorem pre_len {r p:List Int} (h:pre r p=true):r.length < p.length∧p.take r.length=r:=by
  unfold pre at h
  rw [Bool.and_eq_true,decide_eq_true_eq,decide_eq_true_eq] at h
  exact h
theorem scAddAlong:FnScope ["counts", "path", "word", "depth", "within"] ["counts", "path", "word"] (defScope sAddAlong):=⟨rfl,rfl,rfl,by decide +kernel,rfl,by decide +kernel,by decide +kernel⟩
theorem c_add_along (h:Has K mg "add_along" sAddAlong ["counts", "path", "word"]) (m_range:mg "range" = none) (m_len:mg "len" = none):Cal P w K mg base "add_along" 1 ["counts", "path", "word"] spAlong:=by
  refine h.mk' scAddAlong (fun vs H Q E hs=>?_) (fun f cdv A outer s H vs Q E hr hs=>?_)
  · obtain ⟨c,a,x,p,N,bs,f,k,rfl,_⟩:=hs
    rfl
  obtain ⟨c,a,x,p,N,bs,f,k,rfl,hC,hN,ha,hp,hpre,hk,kk⟩:=hs
  refine ⟨_,(pss_one (ps_for PassesOwn.never rfl (pi_range1 rfl m_range (pa_cons (pe_callB call_len_seq rfl m_len PySem.boot_len (pa_cons (pv 1) pa_nil)) pa_nil)) (pg_name (i:=3) scAddAlong.nd rfl (Or.inl rfl))
      (pss_cons (ps_set (i:=4) scAddAlong.nd rfl (Or.inl rfl) (pe_dget (hu_of hr) (pv 0) (pe_slice sl_tupW (pv 1) po_none (po_some (pv 3))) (fun _ _=>rfl)))
    (pss_one (ps_dput (hu_of hr) (pv 4) (pv 2) (pe_op op_add (pe_dget2 (hu_of hr) (pv 4) (pv 2) pe_int ⟨rfl,rfl,rfl,rfl⟩) pe_int) rfl))))),?_⟩
  have nab:∀ b∈bs,b≠a:=fun b hb z=>by
    obtain ⟨i,hi⟩:=List.mem_iff_getElem?.mp hb
    have hil:=(List.getElem?_eq_some_iff.mp hi).1
    have hm:(N[i]'(by rw [← hC.l]; exact hil),b)∈N.zip bs:=by
      refine List.mem_iff_getElem?.mpr ⟨i,?_⟩
      rw [List.getElem?_zip_eq_some]
      exact ⟨List.getElem?_eq_getElem _,hi⟩
    obtain ⟨ps,e,_⟩:=hC.d _ _ hm
    rw [z,ha] at e
    cases e
  refine ⟨_,rfl,a,_,rfl,.inr (SqT.of ha),_,rfl,by rw [int_len]; omega,by rw [int_len]; omega,?_⟩
  rw [int_len]
  refine for_range (lo:=0) (n:=p.length) (fun j σ H1=>∃ v3 v4:Option V,σ=[some (.ref c),some (.ref a),some (.str x),v3,v4]∧CtAt H1 c N bs (fun r w=>f r w+if r.length < j∧pre r p=true∧w=x then 1 else 0) (fun r=>k+if r.length < j then 1 else 0)∧(∀ b o,H b=some o→b ∉ bs→H1 b=some o))
    ⟨_,_,rfl,hC.congr (fun r w=>by rw [if_neg (by omega)]; rfl) (fun r=>Nat.le_add_right _ _),fun _ _ z _=>z⟩ ?_ ?_
  · rintro j σ H1 hj ⟨v3,v4,rfl,C1,o1⟩
    have hat:(p.take j).length=j:=by rw [List.length_take]; omega
    obtain ⟨b,hq⟩:=zip_ex C1.l (hpre j hj)
    have ha1:H1 a=some (.tup (p.map V.int)):=o1 _ _ ha fun z=>nab a z rfl
    obtain ⟨ps,hb,hr0,hg⟩:=C1.d _ b hq
    rw [hat,if_neg (Nat.lt_irrefl j)] at hg
    refine gN ⟨_,rfl,_,rfl,_,rfl,_,rfl,a,_,rfl,ha1,fun q5 H5 s5 e5=>?_⟩
    rw [Int.zero_add,cut12,← List.map_take,← kV_inl] at e5
    have C5:=C1.same s5
    have hb5:=s5 _ _ hb
    refine ⟨c,.ref b,rfl,(zip_val hN hq) ▸ DGet.t C5.e e5,gN ?_⟩
    refine ⟨_,rfl,b,rfl,.inl ⟨_,.inl hb5⟩,_,rfl,_,DGet.k (k:=Sum.inr x) hb5,_,_,hr0.getD x,rfl,_,rfl,_,rfl,b,_,rfl,DPut.k (k:=Sum.inr x) hb5 (by rw [List.length_map]; exact Nat.lt_of_le_of_lt hg (by rw [sizeLine_eq]; omega)),?_⟩
    have C6:=C5.put hN hq hb5 hr0 (by rw [hat,if_neg (Nat.lt_irrefl j)]; exact hg) x
    rw [← putP_put] at C6
    refine ⟨_,_,rfl,C6.congr (fun r w=>?_) (fun r=>?_),fun d o z hd=>?_⟩
    · have hpj:pre (p.take j) p=true:=pre_take hj
      by_cases e:r=p.take j
      · subst e
        simp only [if_pos]
        rw [hat]
        by_cases hw:w=x
        · subst hw
          rw [if_pos rfl,if_neg (fun z=>absurd z.1 (Nat.lt_irrefl j)),if_pos ⟨Nat.lt_succ_self j,hpj,rfl⟩]
        · rw [if_neg hw,if_neg (fun z=>hw z.2.2),if_neg (fun z=>hw z.2.2)]
      · rw [if_neg e]
        congr 1
        by_cases hz:r.length < j∧pre r p=true∧w=x
        · rw [if_pos hz,if_pos ⟨Nat.lt_succ_of_lt hz.1,hz.2⟩]
        · rw [if_neg hz,if_neg fun y=>hz ⟨?_,y.2⟩]
          have:=(pre_len y.2.1).2
          rcases Nat.lt_or_ge r.length j with h | h
          · exact h
          · have e2:r.length=j:=by have:=y.1; omega
            rw [e2] at this
            exact absurd this.symm e
    · by_cases e:r=p.take j
      · subst e
        simp only [if_pos]
        rw [hat,if_neg (Nat.lt_irrefl j),if_pos (Nat.lt_succ_self j)]
        exact Nat.le_refl _
      · simp only [if_neg e]
        split <;> split <;> omega
    · rw [upd_ne (fun y=>hd (by rw [y]; exact (List.of_mem_zip hq).2))]
      exact s5 _ _ (o1 d o z hd)
  · rintro σ H1 ⟨v3,v4,rfl,C1,o1⟩
    refine kk H1 (C1.congr (fun r w=>?_) fun r=>?_) o1
    · congr 1
      by_cases hz:pre r p=true∧w=x
      · rw [if_pos ⟨(pre_len hz.1).1,hz⟩,if_pos hz]
      · rw [if_neg fun z=>hz z.2,if_neg hz]
    · show k+_≤k+1
      split <;> omega
end
theorem nds_kindT:∀ {n:Nat} {ks:List Int} {d:D},Tr n d→∀ p∈nds n ks d,(∃ x,p.2=sD x)∨∃ ds,p.2=.tup ds
  | 0,ks,d,h,p,hp=>by
    obtain ⟨x,rfl⟩:=h
    rw [List.mem_singleton.mp hp]
    exact .inl ⟨x,rfl⟩
  | n+1,ks,d,h,p,hp=>by
    obtain ⟨ds,rfl,h⟩:=h
    rcases List.mem_cons.mp hp with rfl | hp
    · exact .inr ⟨ds,rfl⟩
    · obtain ⟨q,hq,hb⟩:=List.mem_flatMap.mp hp
      have hm:q.1∈ds:=by
        have:=List.mem_zipIdx hq
        rw [this.2.2]
        exact List.getElem_mem _
      exact nds_kindT (h _ hm) p hb
theorem zip_none:∀ {N:List (List Int)} {bs:List Addr} {q:List Int},q ∉ N→valV ((N.zip bs).map ctE) (q.map Sum.inl)=none
  | p :: N,c :: bs,q,h=>by
    rw [List.zip_cons_cons,List.map_cons,valV_neg (show ¬ (ctE (p,c)).1=q.map Sum.inl from fun e=>h (inl_inj e ▸ .head _))]
    exact zip_none fun z=>h (.tail _ z)
  | [],_,_,_=>rfl
  | _ :: _,[],_,_=>rfl
theorem CtAt.snoc {H:Hp} {c:Addr} {N:List (List Int)} {bs:List Addr} {f:List Int→Str→Nat} {g:List Int→Nat} (h:CtAt H c N bs f g) {q:List Int} {b:Addr} (hb:H b=none) (hf:∀ w,f q w=0) :
    CtAt (upd (upd H b (.dK [])) c (.dT ((N.zip bs).map ctE++[(q.map Sum.inl,.ref b)]))) c (N++[q]) (bs++[b]) f g:=by
  have ncb:c≠b:=ne_of_none h.e hb
  have hz:(N++[q]).zip (bs++[b])=N.zip bs++[(q,b)]:=by rw [List.zip_append h.l.symm]; rfl
  have nbb:∀ b'∈bs,b'≠b∧b'≠c:=fun b' hb'=>by
    obtain ⟨i,hi⟩:=List.mem_iff_getElem?.mp hb'
    have hil:=(List.getElem?_eq_some_iff.mp hi).1
    have hm:(N[i]'(by rw [← h.l]; exact hil),b')∈N.zip bs:=by
      refine List.mem_iff_getElem?.mpr ⟨i,?_⟩
      rw [List.getElem?_zip_eq_some]
      exact ⟨List.getElem?_eq_getElem _,hi⟩
    obtain ⟨ps,e,_⟩:=h.d _ _ hm
    exact ⟨ne_of_none e hb,fun z=>by rw [z,h.e] at e; cases e⟩
  refine ⟨?_,by rw [List.length_append,List.length_append,h.l]; rfl,?_,fun r b' hr=>?_⟩
  · rw [upd_same,hz,List.map_append]
    rfl
  · rw [List.nodup_append]
    refine ⟨h.nd,by simp,fun x hx y hy e=>?_⟩
    rw [List.mem_singleton.mp hy] at e
    exact (nbb x hx).1 e
  · rw [hz] at hr
    rcases List.mem_append.mp hr with hr | hr
    · obtain ⟨ps,e,r1,r2⟩:=h.d r b' hr
      have:=nbb b' (List.of_mem_zip hr).2
      exact ⟨ps,by rw [upd_ne this.2,upd_ne this.1]; exact e,r1,r2⟩
    · have e:=List.mem_singleton.mp hr
      cases e
      exact ⟨[],by rw [upd_ne ncb.symm,upd_same]; rfl,Rep.nil.congr fun w=>(hf w).symm,Nat.zero_le _⟩
theorem cntU_snoc {W:List Lw} {i:Nat} {l:Lw} (h:W[i]?=some l) (r:List Int) (w:Str):cntU (W.take (i+1)) r w=cntU (W.take i) r w+if pre r l.1=true∧w=l.2 then 1 else 0:=by
  rw [List.take_add_one,h,cntU_app]
  congr 1
  unfold cntU
  rw [Option.toList_some,List.filter_cons,List.filter_nil]
  by_cases hz:pre r l.1=true∧w=l.2
  · rw [if_pos hz,if_pos (by rw [hz.1,hz.2]; simp)]
    rfl
  · rw [if_neg hz,if_neg]
    · rfl
    · rw [Bool.and_eq_true,decide_eq_true_eq]
      exact fun z=>hz ⟨z.1,z.2.symm⟩
theorem two_of {H:Hp} {v:V} {a b:D} (h:Den H v (.tup [a,b])):∃ (t:Addr) (x y:V),v=.ref t∧H t=some (.tup [x,y])∧Den H x a∧Den H y b:=by
  obtain ⟨t,vs,e,ht,hd⟩:=den_tup h
  match vs,hd with
  | [x,y],hd=>exact ⟨t,x,y,e,ht,hd.1,hd.2.1⟩
  | [],hd=>exact hd.elim
  | [_],hd=>exact hd.2.elim
  | _ :: _ :: _ :: _,hd=>exact hd.2.2.elim
theorem path_of {H:Hp} {v:V} {ks:List Int} (h:Den H v (pathD ks)):∃ t:Addr,v=.ref t∧H t=some (.tup (ks.map V.int)):=by
  obtain ⟨t,vs,e,ht,hd⟩:=den_tup h
  rw [denI hd] at ht
  exact ⟨t,e,ht⟩
section
open M08
variable {P:Program} {w:World} {K:PySem.W.Frag} {mg:Str→Option Value} {base:Heap}
theorem scTally:FnScope ["tree", "words", "counts", "path", "node", "leaf", "word"] ["tree", "words"] (defScope sTally):=⟨rfl,rfl,rfl,by decide +kernel,rfl,by decide +kernel,by decide +kernel⟩
theorem c_tally (h:Has K mg "tally" sTally ["tree", "words"]) (C_nodes_of:Cal P w K mg base "nodes_of" 7 ["tree", "path"] (spNodes 7)) (C_leaves:Cal P w K mg base "leaves" 8 ["tree"] spLeaves) (C_add_along:Cal P w K mg base "add_along" 1 ["counts", "path", "word"] spAlong) (m_isinstance:mg "isinstance" = none) (m_tuple:mg "tuple" = none) (m_zip:mg "zip" = none) (m_sorted:mg "sorted" = none):Cal P w K mg base "tally" 9 ["tree", "words"] spTally:=by
  refine h.mk' scTally (fun vs H Q E hs=>?_) (fun f cdv A outer s H vs Q E hr hs=>?_)
  · obtain ⟨v,a,m,d,ws,rfl,_⟩:=hs
    rfl
  obtain ⟨v,a,m,d,ws,rfl,hv,hm,ht,hc,ha,hw,kk⟩:=hs
  refine ⟨_,(pss_cons (ps_set (i:=2) scTally.nd rfl (Or.inl rfl) pe_dnewT)
    (pss_cons (ps_for PassesOwn.never rfl (pi_list (pe_cal C_nodes_of hr (by decide) rfl (pa_cons (pv 0) (pa_cons (pe_tup pa_nil) pa_nil)))) (pg_tup rfl (pgs_cons (pg_name (i:=3) scTally.nd rfl (Or.inl rfl)) (pgs_cons (pg_name (i:=4) scTally.nd rfl (Or.inl rfl)) pgs_nil)))
      (pss_one (ps_if (pt_val (pe_callB call_isinst rfl m_isinstance boot_isinstance (pa_cons (pv 4) (pa_cons (pe_bltn (v:=.ty "tuple") rfl m_tuple boot_tuple rfl) pa_nil))))
      (pss_one (ps_dput (hu_of hr) (pv 2) (pv 3) pe_dnewK rfl))
      pss_nil)))
    (pss_cons (ps_for PassesOwn.never rfl (pi_zip rfl m_zip (pa_cons (pe_cal C_leaves hr (by decide) rfl (pa_cons (pv 0) pa_nil)) (pa_cons (pv 1) pa_nil))) (pg_tup rfl (pgs_cons (pg_name (i:=5) scTally.nd rfl (Or.inl rfl)) (pgs_cons (pg_name (i:=6) scTally.nd rfl (Or.inl rfl)) pgs_nil)))
      (pss_one (ps_expr (pe_cal C_add_along hr (by decide) rfl (pa_cons (pv 2) (pa_cons (pe_ix ix_tup (pv 5) pe_int (fun _ _=>rfl)) (pa_cons (pv 6) pa_nil)))))))
    (pss_one (ps_ret (pe_callTy call_tuple_of rfl m_tuple boot_tuple (pa_cons (pe_compL ["tree", "words", "counts", "path", "node", "leaf", "word"] (defScope sTally) ["path", "within"] [none,none] rfl rfl rfl (pi_itemsT (pv 2)) rfl (by decide +kernel) (by decide +kernel) (by decide +kernel) (by decide +kernel) (g:=gTup K 2 (gCons (gName 0) (gCons (gName 1) gNil))) (hg:=fun cl C s H ex pn E=>pg_tup (n:=2) rfl (pgs_cons (pg_name (i:=0) (by decide +kernel:(["path", "within"]:List Str).Nodup) rfl (Or.inl rfl) (Or.inr rfl)) (pgs_cons (pg_name (i:=1) (by decide +kernel:(["path", "within"]:List Str).Nodup) rfl (Or.inl rfl) (Or.inr rfl)) pgs_nil))) (ht:=fun cl C s H ex pn E=>pifs_nil) (he:=fun cl C s H ex pn E=>(pe_tup (pa_cons (pv 0) (pa_cons (pe_callTy (call_tuple_ofK (K:=K) rfl) rfl m_tuple boot_tuple (pa_cons (pe_sortIt rfl hr.units rfl m_sorted (pv 1)) pa_nil)) pa_nil))))) pa_nil))))))),?_⟩
  refine fun c hc0=>gN ?_
  have s0:=same_new hc0 (.dT [])
  have e0:(upd H c (.dT [])) c=some (.dT []):=upd_same
  generalize upd H c (.dT [])=H0 at s0 e0
  refine ⟨_,rfl,smn 0,fun t0 ht0=>?_⟩
  have s1:=same_new ht0 (.tup [])
  have e1:(upd H0 t0 (.tup [])) t0=some (.tup []):=upd_same
  generalize upd H0 t0 (.tup [])=H1 at s1 e1
  have s01:=s0.trans s1
  refine ⟨v,.ref t0,m+1,d,[],rfl,hv.same s01,⟨t0,[],rfl,e1,trivial⟩,(by show m+1≤6; omega),ht,hc,(by show 0+(m+1)≤100; omega),fun q us H2 s2 hq e2 D2=>?_⟩
  refine ⟨q,rfl,⟨_,SqL.of e2⟩,?_⟩
  have s02:=s01.trans s2
  have ec2:=s2 _ _ (s1 _ _ e0)
  have nqc:q≠c:=ne_of_none (s1 _ _ e0) hq |>.symm
  have hul:=D2.len
  rw [List.length_map] at hul
  have hkind:=fun p hp=>nds_kindT (ks:=[]) ht p hp
  have hins:((nds (m+1) [] d).filter fun p=>!isS p.2).map (·.1)=ins (m+1) [] d:=nds_ins (m+1) [] d ht
  have hnd:(ins (m+1) [] d).Nodup:=ins_nd
  rw [← hins] at hnd
  have hcn:(nds (m+1) [] d).length≤100000:=by rw [nds_len]; exact hc
  refine for_list (K:=K) (a:=q) (xs:=us) (fun i σ H3=>∃ (v3 v4 v5 v6:Option V) (bs:List Addr),σ=[some v,some (.ref a),some (.ref c),v3,v4,v5,v6]∧CtAt H3 c ((((nds (m+1) [] d).take i).filter fun p=>!isS p.2).map (·.1)) bs (fun _ _=>0) (fun _=>0)∧(∀ b o,H2 b=some o→b≠c→H3 b=some o)∧(∀ b∈bs,H2 b=none))
    ⟨_,_,_,_,[],rfl,⟨ec2,rfl,.nil,fun q b z=>nomatch z⟩,fun _ _ z _=>z,fun b z=>nomatch z⟩ ?_ ?_ ?_
  · rintro i σ H3 _ ⟨_,_,_,_,_,_,_,o3,_⟩
    exact SqL.of (o3 _ _ e2 nqc)
  · rintro i y σ H3 hi ⟨v3,v4,v5,v6,bs,rfl,C3,o3,f3⟩
    have hil:=(List.getElem?_eq_some_iff.mp hi).1
    have hin:i < (nds (m+1) [] d).length:=by omega
    obtain ⟨dd,hdd,dy⟩:=D2.at_ hi
    rw [List.getElem?_map,List.getElem?_eq_getElem hin] at hdd
    have edd:ndD (nds (m+1) [] d)[i]=dd:=Option.some.inj hdd
    subst edd
    have hk:=hkind _ (List.getElem_mem hin)
    have htk:(nds (m+1) [] d).take (i+1)=(nds (m+1) [] d).take i++[(nds (m+1) [] d)[i]]:=by rw [List.take_add_one,List.getElem?_eq_getElem hin]; rfl
    have hsub:((((nds (m+1) [] d).take (i+1)).filter fun p=>!isS p.2).map (·.1)).Nodup:=hnd.sublist (((List.take_sublist _ _).filter _).map _)
    rw [htk,List.filter_append,List.map_append] at hsub ⊢
    have hNl:((((nds (m+1) [] d).take i).filter fun p=>!isS p.2).map (·.1)).length≤100000:=by
      rw [List.length_map]
      exact Nat.le_trans (List.length_filter_le _ _) (by rw [List.length_take]; omega)
    generalize (nds (m+1) [] d)[i]=pp at dy hk hsub
    generalize (((nds (m+1) [] d).take i).filter fun p=>!isS p.2).map (·.1)=N at C3 hsub hNl
    obtain ⟨t,x1,x2,rfl,ht2,d1,d2⟩:=two_of dy
    obtain ⟨tp,rfl,htp⟩:=path_of d1
    have ktc:∀ (b:Addr) (vs:List V),H2 b=some (.tup vs)→H3 b=some (.tup vs):=fun b vs e=>o3 _ _ e fun z=>by rw [z,ec2] at e; cases e
    refine ⟨t,_,rfl,SqT.of (ktc _ _ ht2),rfl,_,_,rfl,_,_,rfl,rfl,?_⟩
    rcases hk with ⟨x,ex⟩ | ⟨ds,ex⟩
    · rw [ex] at d2
      have e2':x2=mkT x:=d2
      subst e2'
      refine ⟨_,rfl,_,_,_,false,rfl,.str _,kit_str_tuple K,_,rfl,iteF ?_⟩
      refine ⟨_,_,_,_,bs,rfl,?_,o3,f3⟩
      rw [show ([pp].filter fun p=>!isS p.2)=[] by rw [List.filter_cons_of_neg (by rw [ex]; exact Bool.false_ne_true)]; rfl,List.map_nil,List.append_nil]
      exact C3
    · rw [ex] at d2
      obtain ⟨tv,tvs,rfl,htv,_⟩:=den_tup d2
      refine ⟨_,rfl,_,_,_,true,rfl,.tup (ktc _ _ htv),kit_tuple_tuple K,_,rfl,iteT ?_⟩
      have ef:([pp].filter fun p=>!isS p.2).map (·.1)=[pp.1]:=by rw [List.filter_cons_of_pos (by rw [ex]; rfl)]; rfl
      rw [ef] at hsub ⊢
      have hnot:pp.1 ∉ N:=by
        rw [List.nodup_append] at hsub
        exact fun z=>hsub.2.2 _ z _ (.head _) rfl
      refine fun b hb=>⟨_,rfl,_,rfl,c,_,rfl,DPut.t (k:=pp.1.map Sum.inl) ((upd_ne (ne_of_none C3.e hb)).trans C3.e) ?_ ?_,?_⟩
      · rw [kV_inl,upd_ne (ne_of_none (ktc _ _ htp) hb)]
        exact ktc _ _ htp
      · rw [List.length_map,List.length_zip,C3.l,Nat.min_self]
        rw [sizeLine_eq]
        omega
      · rw [putK_new _ (zip_none hnot)]
        refine ⟨_,_,_,_,bs++[b],rfl,C3.snoc hb fun _=>rfl,fun b' o z hne=>?_,fun b' hb'=>?_⟩
        · rw [upd_ne hne,upd_ne (ne_of_none (o3 _ _ z hne) hb)]
          exact o3 _ _ z hne
        · rcases List.mem_append.mp hb' with hb' | hb'
          · exact f3 b' hb'
          · rw [List.mem_singleton.mp hb']
            cases e:H2 b with
            | none=>rfl
            | some o =>
              have:=o3 _ _ e (ne_of_none C3.e hb).symm
              rw [hb] at this
              cases this
  · rintro σ H3 ⟨v3,v4,v5,v6,bs,rfl,C3,o3,f3⟩
    rw [hul,List.take_length,hins] at C3
    rw [hins] at hnd
    have s03:Same H H3:=fun b o z=>o3 b o (s02 b o z) fun y=>by rw [y] at z; rw [hc0] at z; cases z
    refine ⟨_,rfl,v,m+1,d,rfl,hv.same s03,by omega,ht,hc,fun ql H4 s4 d4=>?_⟩
    obtain ⟨_,lvs',el,hql,dl⟩:=den_tup d4
    cases el
    have ha4:H4 a=some (.tup (ws.map V.str)):=s4 _ _ (s03 _ _ ha)
    have C4:=C3.same s4
    refine ⟨_,rfl,ql,a,rfl,⟨_,SqT.of hql⟩,⟨_,SqT.of ha4⟩,?_⟩
    have hll:=dl.len
    rw [List.length_map] at hll
    have hlw:(lvs (m+1) [] d).length=ws.length:=by rw [lvs_len,hw]
    have hpl:(pths (m+1) [] d).length=ws.length:=by rw [pths_len,hw]
    have hwn:ws.length≤100000:=by rw [← hlw]; exact Nat.le_trans (lvs_cnt _ _ _) hc
    have tnb:∀ (b:Addr) (vs:List V),H4 b=some (.tup vs)→b ∉ bs:=fun b vs e hb=>by
      obtain ⟨i,hi⟩:=List.mem_iff_getElem?.mp hb
      have hil:=(List.getElem?_eq_some_iff.mp hi).1
      have hm:((ins (m+1) [] d)[i]'(by rw [← C4.l]; exact hil),b)∈(ins (m+1) [] d).zip bs:=by
        refine List.mem_iff_getElem?.mpr ⟨i,?_⟩
        rw [List.getElem?_zip_eq_some]
        exact ⟨List.getElem?_eq_getElem _,hi⟩
      obtain ⟨ps,e',_⟩:=C4.d _ _ hm
      rw [e] at e'
      cases e'
    refine for_byJ (J:=Itz K ql a) lvs'.length (fun i σ H5=>∃ (v3 v4 v5 v6:Option V),σ=[some v,some (.ref a),some (.ref c),v3,v4,v5,v6]∧CtAt H5 c (ins (m+1) [] d) bs (cntU (((pths (m+1) [] d).zip ws).take i)) (fun _=>i)∧(∀ b o,H4 b=some o→b ∉ bs→H5 b=some o)) ⟨_,_,_,_,rfl,C4.congr (fun r w=>by rw [List.take_zero]; rfl) (fun _=>Nat.le_refl _),fun _ _ z _=>z⟩ ?_ ?_
    · rintro σ H5 ⟨v3',v4',v5',v6',rfl,C5,o5⟩
      have htk:((pths (m+1) [] d).zip ws).take lvs'.length=(pths (m+1) [] d).zip ws:=List.take_of_length_le (by rw [List.length_zip]; omega)
      rw [htk] at C5
      refine ⟨⟨_,SqT.of (o5 _ _ hql (tnb _ _ hql)),Nat.le_refl _⟩,?_⟩
      have hro:(ins (m+1) [] d).map (fun q=>((q,cntU ((pths (m+1) [] d).zip ws) q):Rw))=rws (m+1) d ws:=by
        rw [rws_ins ht hw]
        simp
      refine ⟨_,rfl,c,_,rfl,C5.e,fun o=>fun lc hlc=>?_⟩
      have s05:Same H H5:=fun b u z=>o5 b u (s4 _ _ (s03 _ _ z)) fun y=>by
        have:=f3 b y
        rw [s02 _ _ z] at this
        cases this
      have hcn0:∀ b u,H b=some u→b≠c:=fun b u z y=>by rw [y,hc0] at z; cases z
      have nbc:∀ b∈bs,b≠c:=fun b hb y=>by
        have:=f3 b hb
        rw [y,ec2] at this
        cases this
      have sfz:∀ b u,H5 b=some u→b≠c→(upd H5 c (.frz o (.dT (((ins (m+1) [] d).zip bs).map ctE)))) b=some u:=fun b u z h=>by rw [upd_ne h]; exact z
      have ef:(upd H5 c (.frz o (.dT (((ins (m+1) [] d).zip bs).map ctE)))) c=some (.frz o (.dT (((ins (m+1) [] d).zip bs).map ctE))):=upd_same
      generalize upd H5 c (.frz o (.dT (((ins (m+1) [] d).zip bs).map ctE)))=HF at hlc sfz ef ⊢
      have hkl:(((ins (m+1) [] d).zip bs).map ctE).length=(ins (m+1) [] d).length:=by rw [List.length_map,List.length_zip,C5.l,Nat.min_self]
      have hnl:(ins (m+1) [] d).length≤100000:=by
        rw [← hins,List.length_map]
        exact Nat.le_trans (List.length_filter_le _ _) hcn
      have sHF:Same H HF:=fun b u z=>sfz b u (s05 b u z) (hcn0 b u z)
      refine comp_by (J:=ItiT c o (((ins (m+1) [] d).zip bs).map ctE)) (l:=lc) (ins (m+1) [] d).length (fun i σ' H'=>∃ (v1 v2:Option V) (us:List V),σ'=[v1,v2]∧Same HF H'∧H' lc=some (.lst us)∧us.length=i∧RowsAre H' us (((ins (m+1) [] d).take i).map fun q=>((q,cntU ((pths (m+1) [] d).zip ws) q):Rw))) ⟨none,none,[],rfl,same_new hlc _,upd_same,rfl,trivial⟩ ?_ ?_
      · rintro σ' H1' ⟨v1,v2,us',rfl,s1',e1',hl',h1'⟩
        rw [List.take_length,hro] at h1'
        exact ⟨⟨s1' _ _ ef,Nat.le_of_eq hkl⟩,lc,us',rfl,.inl ⟨SqL.of e1',fun r hr=>kk r us' _ ((sHF.trans s1').trans (same_new hr _)) upd_same (h1'.same (same_new hr _))⟩⟩
      · rintro i σ' H1' hi ⟨v1,v2,us',rfl,s1',e1',hl',h1'⟩
        have hib:i < bs.length:=by rw [C5.l]; exact hi
        refine ⟨⟨s1' _ _ ef,by rw [hkl]; exact hi⟩,?_⟩
        rintro y H2' ⟨t,b',kv,rfl,htn,rfl,hkv,hb'⟩
        have hzi:((ins (m+1) [] d).zip bs)[i]?=some ((ins (m+1) [] d)[i],bs[i]):=by
          rw [List.getElem?_zip_eq_some]
          exact ⟨List.getElem?_eq_getElem hi,List.getElem?_eq_getElem hib⟩
        rw [List.getElem?_map,hzi] at hkv
        have ekv:kv=ctE ((ins (m+1) [] d)[i],bs[i]):=(Option.some.inj hkv).symm
        subst ekv
        obtain ⟨ps,hps,hrep,hlen⟩:=C5.d _ _ (List.mem_of_getElem? hzi)
        have hpsF:=s1' _ _ (sfz _ _ hps (nbc _ (List.getElem_mem hib)))
        have htk:((ins (m+1) [] d).take (i+1)).map (fun q=>((q,cntU ((pths (m+1) [] d).zip ws) q):Rw))=((ins (m+1) [] d).take i).map (fun q=>((q,cntU ((pths (m+1) [] d).zip ws) q):Rw))++[((ins (m+1) [] d)[i],cntU ((pths (m+1) [] d).zip ws) (ins (m+1) [] d)[i])]:=by rw [List.take_add_one,List.getElem?_eq_getElem hi,List.map_append]; rfl
        rw [show (ctE ((ins (m+1) [] d)[i],bs[i])).1.map kV=(ins (m+1) [] d)[i].map V.int from kV_inl _] at hb'
        rw [htk]
        generalize (ins (m+1) [] d)[i]=qq at hb' hrep ⊢
        generalize bs[i]=bb at hpsF ⊢
        have s2':=same_new htn (.tup [.ref b',(ctE (qq,bb)).2])
        have e2':(upd H1' t (.tup [.ref b',(ctE (qq,bb)).2])) t=some (.tup [.ref b',(ctE (qq,bb)).2]):=upd_same
        generalize upd H1' t (.tup [.ref b',(ctE (qq,bb)).2])=H2' at s2' e2' ⊢
        refine ⟨t,_,rfl,SqT.of e2',rfl,_,_,rfl,_,_,rfl,rfl,yesT (iteT ?_)⟩
        refine ⟨_,rfl,_,rfl,bb,ps,rfl,s2' _ _ hpsF,by omega,fun l us2 ds' H3' s3' hl3 e3' D3 pm up=>⟨l,us2,rfl,.inl ⟨SqL.of e3',fun r hr=>⟨smn 2,fun t2 ht2=>?_⟩⟩⟩⟩
        have s4':=same_new hr (.tup us2)
        have e4':(upd H3' r (.tup us2)) r=some (.tup us2):=upd_same
        generalize upd H3' r (.tup us2)=H4' at s4' e4' ht2 ⊢
        have s5':=same_new ht2 (.tup [.ref b',.ref r])
        have e5':(upd H4' t2 (.tup [.ref b',.ref r])) t2=some (.tup [.ref b',.ref r]):=upd_same
        generalize upd H4' t2 (.tup [.ref b',.ref r])=H5' at s5' e5' ⊢
        have sA:=((s2'.trans s3').trans s4').trans s5'
        have elc:=sA _ _ e1'
        have kt:∀ (b:Addr) (vs:List V),H5' b=some (.tup vs)→(upd H5' lc (.lst (us'++[.ref t2]))) b=some (.tup vs):=fun b vs e=>by
          rw [upd_ne (ne_of e elc (by intro z; cases z))]
          exact e
        refine ⟨us',elc,Nat.lt_of_lt_of_le (show us'.length < 1000000 by omega) sizeLine_big,_,_,us'++[.ref t2],rfl,fun x u z=>?_,upd_same,by rw [List.length_append,hl']; rfl,?_⟩
        · rw [upd_ne (ne_of_none z hlc)]
          exact sA _ _ (s1' _ _ z)
        · refine RowsAre.app ((h1'.same sA).keepT kt) ⟨⟨ds',⟨⟨up,ps,pm,hrep⟩,by rw [pm.length_eq,List.length_map]; omega⟩,?_⟩,trivial⟩
          exact ⟨t2,_,rfl,kt _ _ e5',⟨b',_,rfl,kt _ _ (sA _ _ hb'),denI_of _ _⟩,⟨r,us2,rfl,kt _ _ (s5' _ _ e4'),((D3.same s4').same s5').keepT kt⟩,trivial⟩
    · rintro i σ H5 hi ⟨v3',v4',v5',v6',rfl,C5,o5⟩
      have hik:i < (lvs (m+1) [] d).length:=by omega
      have hiw:i < ws.length:=by omega
      have hws:(ws.map V.str)[i]?=some (.str ws[i]):=by rw [List.getElem?_map,List.getElem?_eq_getElem hiw]; rfl
      refine ⟨⟨_,_,_,_,SqT.of (o5 _ _ hql (tnb _ _ hql)),SqT.of (o5 _ _ ha4 (tnb _ _ ha4)),List.getElem?_eq_getElem hi,hws⟩,?_⟩
      rintro y H6 ⟨tp,x1,x2,rfl,hn,rfl,hx1,hx2⟩
      have e1:x1=lvs'[i]:=Option.some.inj ((hx1 _ (SqT.of (o5 _ _ hql (tnb _ _ hql)))).symm.trans (List.getElem?_eq_getElem hi))
      have e2:x2=.str ws[i]:=Option.some.inj ((hx2 _ (SqT.of (o5 _ _ ha4 (tnb _ _ ha4)))).symm.trans hws)
      obtain ⟨dd,hdd,dx⟩:=dl.at_ (List.getElem?_eq_getElem hi)
      rw [List.getElem?_map,List.getElem?_eq_getElem hik] at hdd
      have edd:leafD (lvs (m+1) [] d)[i]=dd:=Option.some.inj hdd
      subst edd
      have hab:=fun j=>above ht _ (List.getElem_mem hik) j (Nat.zero_le _)
      have hat:=lvs_at ht _ (List.getElem_mem hik)
      have hW:((pths (m+1) [] d).zip ws)[i]?=some ((lvs (m+1) [] d)[i].1,ws[i]):=by
        rw [List.getElem?_zip_eq_some]
        refine ⟨?_,List.getElem?_eq_getElem hiw⟩
        unfold pths
        rw [List.getElem?_map,List.getElem?_eq_getElem hik]
        rfl
      rw [← e1] at dx
      generalize (lvs (m+1) [] d)[i]=lf at dx hab hat hW
      generalize ws[i]=wd at e2 hW
      subst e2
      obtain ⟨tl,y1,y2,rfl,htl,dy1,dy2⟩:=two_of dx
      obtain ⟨tpp,rfl,htp⟩:=path_of dy1
      have s6:=same_new hn (.tup [.ref tl,.str wd])
      have e6:(upd H5 tp (.tup [.ref tl,.str wd])) tp=some (.tup [.ref tl,.str wd]):=upd_same
      have C6:=C5.same s6
      have k6:∀ (b:Addr) (vs:List V),H4 b=some (.tup vs)→(upd H5 tp (.tup [.ref tl,.str wd])) b=some (.tup vs):=fun b vs e=>s6 _ _ (o5 _ _ e (tnb _ _ e))
      generalize upd H5 tp (.tup [.ref tl,.str wd])=H6 at s6 e6 C6 k6
      refine ⟨tp,_,rfl,SqT.of e6,rfl,_,_,rfl,_,_,rfl,rfl,?_⟩
      refine ⟨_,rfl,_,rfl,tl,_,_,_,rfl,rfl,SqT.of (k6 _ _ htl),atI_zero _ _,_,rfl,c,tpp,wd,lf.1,_,bs,_,i,rfl,C6,hnd,k6 _ _ htp,?_,fun j hj=>hab j hj,by omega,fun H7 C7 o7=>?_⟩
      · obtain ⟨r,er,hr⟩:=hat
        rw [er,List.nil_append,hr]
        omega
      · refine ⟨_,_,_,_,rfl,C7.congr (fun r w=>(cntU_snoc hW r w).symm) (fun _=>Nat.le_refl _),fun b u z hb=>o7 _ _ (s6 _ _ (o5 _ _ z hb)) hb⟩
end
noncomputable def spLWords:Sp:=fun vs H Q _=>∃ (p q:Addr) (a b:Int) (dvs:List V) (ps:List (List Int × List Nat)),vs=[.ref p,.ref q]∧H p=some (.lst [.int a,.int b])∧H q=some (.tup dvs)∧DenL H dvs (ps.map leafD)∧ps.length≤100000 ∧
  ∀ (r:Addr) (ws:List Str) (H':Hp),Pot H p H'→H' r=some (.tup (ws.map V.str))→ws.length=ps.length→Q (.ref r) H'
noncomputable def someW:List Str:=["done", "todo", "a", "", "Z", "10", "9", "a b"]
theorem pickW {r:Int} (h0:0≤r) (h1:r < 8):∃ x,atI (someW.map V.str) r=some (.str x):=by
  obtain ⟨k,rfl⟩:=Int.eq_ofNat_of_zero_le h0
  have hk:k < someW.length:=by show k < 8; omega
  exact ⟨someW[k],atI_nat (by rw [List.getElem?_map,List.getElem?_eq_getElem hk]; rfl)⟩
noncomputable def nlS (n:Nat) (ds:List D) (k:Nat):Nat:=((ds.take k).map (nl n)).sum
theorem nlS_succ {n:Nat} {ds:List D} {k:Nat} (h:k < ds.length):nlS n ds (k+1)=nlS n ds k+nl n ds[k]:=by
  unfold nlS
  rw [List.take_add_one,List.getElem?_eq_getElem h,List.map_append,List.sum_append]
  simp
theorem nlS_all (n:Nat) (ds:List D):nlS n ds ds.length=(ds.map (nl n)).sum:=by
  unfold nlS
  rw [List.take_length]
theorem cntW_app (us vs:List Str) (w:Str):cntW (us++vs) w=cntW us w+cntW vs w:=by
  unfold cntW
  exact List.count_append
noncomputable def OldL (l:Addr) (H H':Hp):Prop:=∀ b o,H b=some o→b≠l→H' b=some o
theorem OldL.tup {l:Addr} {H H':Hp} {us:List V} (h:OldL l H H') (e:H l=some (.lst us)):∀ (b:Addr) (vs:List V),H b=some (.tup vs)→H' b=some (.tup vs):=fun b vs z=>h b _ z fun y=>by rw [y,e] at z; cases z
noncomputable def spC (n:Nat):Sp:=fun vs H Q _=>∃ (v:V) (l:Addr) (m:Nat) (d:D) (us ws:List Str),vs=[v,.ref l]∧Den H v d∧(m≤n∧m≤50)∧Tr (m+1) d∧cntN (m+1) d≤100000∧H l=some (.lst ((us++ws).map V.str))∧ws.length=nl (m+1) d ∧
    ∀ (t c lr:Addr) (ps:List (Str × Int)) (rs:List V) (H':Hp),OldL l H H'→H' l=some (.lst (us.map V.str))→H' t=some (.tup [.ref c,.ref lr])→H' c=some (.dK (ps.map kvE))→Rep (cntW ws) ps→ps.length≤ws.length→H' lr=some (.lst rs)→RowsAre H' rs (rws (m+1) d ws)→H c=none→H lr=none→Q (.ref t) H'
noncomputable def spCounted:Nat→Sp
  | 0=>fun _ _ _ _=>False
  | n+1=>spC n
theorem spCounted_of:∀ {n:Nat} {vs H Q E},0 < n→spC (n - 1) vs H Q E→spCounted n vs H Q E
  | _+1,_,_,_,_,_,h=>h
theorem nl_cnt:∀ (n:Nat) (d:D),nl n d≤cntN n d:=fun n d=>by
  rw [← lvs_len n []]
  exact lvs_cnt n [] d
theorem rws_len:∀ (n:Nat) (d:D) (ws:List Str),(rws n d ws).length≤cntN n d
  | 0,d,ws=>by cases d <;> exact Nat.zero_le _
  | n+1,.tup ds,ws=>by
    have key:∀ (es:List D) (k:Nat) (vs:List Str),(rwsL (rws n) (nl n) es k vs).length≤(es.map (cntN n)).sum:=by
      intro es
      induction es with
      | nil=>intro k vs; exact Nat.zero_le _
      | cons e es ih =>
        intro k vs
        show ((rws n e _).map _++_).length≤_
        rw [List.length_append,List.length_map,List.map_cons,List.sum_cons]
        exact Nat.add_le_add (rws_len n e _) (ih _ _)
    show (rwsL (rws n) (nl n) ds 0 ws).length+1≤1+(ds.map (cntN n)).sum
    have:=key ds 0 ws
    omega
  | _+1,.non,_=>Nat.zero_le _
  | _+1,.bl _,_=>Nat.zero_le _
  | _+1,.int _,_=>Nat.zero_le _
  | _+1,.str _,_=>Nat.zero_le _
section
open M08
variable {P:Program} {w:World} {K:PySem.W.Frag} {mg:Str→Option Value} {base:Heap}
theorem texts_walk {K:PySem.W.Frag} {q lc:Addr} {dvs:List V} {ps:List (List Int × List Nat)} {H:Hp} {R:Hp→Prop} (e1:H q=some (.tup dvs)) (d1:DenL H dvs (ps.map leafD)) (hn:ps.length≤100000) (hlc:H lc=none) (hfin:∀ H',Same H H'→H' lc=some (.lst ((ps.map (·.2)).map mkT))→R H') :
    ∃ W:Nat→Nat→L2.St→Hp→Prop,(∃ m,W 0 m [none,none] (upd H lc (.lst [])))∧∀ i m σ H,W i m σ H →
      ((Itt K q).stop i H∧R H)∨((Itt K q).go i H∧∃ N:L2.St→Hp→Prop,(∀ σ' H',N σ' H'→∃ m',m' < m∧W (i+1) m' σ' H') ∧
        ∀ x H',(Itt K q).yld i H x H'→gTup K 2 (gCons (gName 0) (gCons (gName 1) gNil)) x σ H' fun σ2 H2=>tYes σ2 H2 fun b H3=>if b=true then tVar 1 σ2 H3 fun v H4=>∃ ys,H4 lc=some (.lst ys)∧ys.length < sizeLine∧N σ2 (upd H4 lc (.lst (ys++[v]))) else N σ2 H3):=by
  have hul:=d1.len
  rw [List.length_map] at hul
  refine comp_by (J:=Itt K q) (l:=lc) dvs.length (fun i σ' H'=>∃ (u0 u1:Option V),σ'=[u0,u1]∧Same H H'∧H' lc=some (.lst (((ps.take i).map (·.2)).map mkT))) ⟨none,none,rfl,same_new hlc _,upd_same⟩ ?_ ?_
  · rintro σ' H9 ⟨u0,u1,rfl,s9,hl9⟩
    rw [hul,List.take_length] at hl9
    exact ⟨⟨_,SqT.of (s9 _ _ e1),Nat.le_refl _⟩,hfin H9 s9 hl9⟩
  · rintro i σ' H9 hi ⟨u0,u1,rfl,s9,hl9⟩
    have hat:dvs[i]?=some dvs[i]:=List.getElem?_eq_getElem hi
    refine ⟨⟨_,_,SqT.of (s9 _ _ e1),hat⟩,?_⟩
    rintro y H'' ⟨rfl,hy⟩
    have ey:y=dvs[i]:=Option.some.inj ((hy _ (SqT.of (s9 _ _ e1))).symm.trans hat)
    have hni:i < ps.length:=by omega
    obtain ⟨dd,hdd,dy⟩:=d1.at_ hat
    rw [← ey] at dy
    rw [List.getElem?_map,List.getElem?_eq_getElem hni] at hdd
    have edd:leafD ps[i]=dd:=Option.some.inj hdd
    subst edd
    have dyH:Den H'' y (leafD ps[i]):=dy.same s9
    obtain ⟨b,bs,rfl,hb,hbd⟩:=den_tup dyH
    match bs,hbd,hb with
    | [b0,b1],hbd,hb =>
      have e1':b1=mkT ps[i].2:=hbd.2.1
      subst e1'
      refine ⟨b,_,rfl,SqT.of hb,rfl,_,_,rfl,_,_,rfl,rfl,yesT (iteT ?_)⟩
      refine ⟨_,rfl,_,hl9,?_,_,_,rfl,?_,?_⟩
      · rw [List.length_map,List.length_map,List.length_take]
        exact Nat.lt_of_lt_of_le (show min i ps.length < 1000000 by omega) sizeLine_big
      · intro c o z
        rw [upd_ne (ne_of_none z hlc)]
        exact s9 c o z
      · rw [upd_same,List.take_add_one,List.getElem?_eq_getElem hni,List.map_append,List.map_append]
        rfl
    | [],hbd,_=>exact hbd.elim
    | [_],hbd,_=>exact hbd.2.elim
    | _ :: _ :: _ :: _,hbd,_=>exact hbd.2.2.elim
theorem scWords:FnScope ["_law_pot_here", "_law_told", "_law_some", "_law_few"] ["_law_pot_here", "_law_told"] (defScope sWords):=⟨rfl,rfl,rfl,by decide +kernel,rfl,by decide +kernel,by decide +kernel⟩
theorem c_words (h:Has K mg "_law_words" sWords ["_law_pot_here", "_law_told"]) (C_take:Cal P w K mg base "_law_take" 1 ["_law_pot_here", "_law_many"] spTake) (m_tuple:mg "tuple" = none):Cal P w K mg base "_law_words" 2 ["_law_pot_here", "_law_told"] spLWords:=by
  refine h.mk' scWords (fun vs H Q E hs=>?_) (fun f cdv A outer s H vs Q E hr hs=>?_)
  · obtain ⟨p,q,a,b,dvs,ps,rfl,_⟩:=hs
    rfl
  obtain ⟨p,q,a,b,dvs,ps,rfl,hp,hq,hD,hn,kk⟩:=hs
  refine ⟨_,(pss_cons (ps_set (i:=2) scWords.nd rfl (Or.inr rfl) (pe_lst (pa_cons pe_str (pa_cons pe_str (pa_cons pe_str (pa_cons pe_str (pa_cons pe_str (pa_cons pe_str (pa_cons pe_str (pa_cons pe_str pa_nil))))))))))
    (pss_cons (ps_if (pt_cmpR op_eq (pe_cal C_take hr (by decide) rfl (pa_cons (pv 0) (pa_cons pe_int pa_nil))) pe_int (nomark _))
      (pss_one (ps_ret (pe_callTy call_tuple_of rfl m_tuple boot_tuple (pa_cons (pe_compL ["_law_pot_here", "_law_told", "_law_some", "_law_few"] (defScope sWords) ["_law_path", "_law_leaf"] [none,none] rfl rfl rfl (pi_tup (pv 1)) rfl (by decide +kernel) (by decide +kernel) (by decide +kernel) (by decide +kernel) (g:=gTup K 2 (gCons (gName 0) (gCons (gName 1) gNil))) (hg:=fun cl C s H ex pn E=>pg_tup (n:=2) rfl (pgs_cons (pg_name (i:=0) (by decide +kernel:(["_law_path", "_law_leaf"]:List Str).Nodup) rfl (Or.inl rfl) (Or.inr rfl)) (pgs_cons (pg_name (i:=1) (by decide +kernel:(["_law_path", "_law_leaf"]:List Str).Nodup) rfl (Or.inl rfl) (Or.inr rfl)) pgs_nil))) (ht:=fun cl C s H ex pn E=>pifs_nil) (he:=fun cl C s H ex pn E=>(pv 1))) pa_nil))))
      pss_nil)
    (pss_cons (ps_set (i:=3) scWords.nd rfl (Or.inr rfl) (pe_op op_add pe_int (pe_cal C_take hr (by decide) rfl (pa_cons (pv 0) (pa_cons pe_int pa_nil)))))
    (pss_one (ps_ret (pe_callTy call_tuple_of rfl m_tuple boot_tuple (pa_cons (pe_compL ["_law_pot_here", "_law_told", "_law_some", "_law_few"] (defScope sWords) ["_law_pot_here", "_law_some", "_law_few", "_law_leaf"] [some 0,some 2,some 3,none] rfl rfl rfl (pi_tup (pv 1)) rfl (by decide +kernel) (by decide +kernel) (by decide +kernel) (by decide +kernel) (hg:=fun cl C s H ex pn E=>(pg_name (i:=3) (by decide +kernel:(["_law_pot_here", "_law_some", "_law_few", "_law_leaf"]:List Str).Nodup) rfl (Or.inl rfl))) (ht:=fun cl C s H ex pn E=>pifs_nil) (he:=fun cl C s H ex pn E=>(pe_ix (ix_listK (K:=K) rfl) (pv 1) (pe_cal C_take hr (by decide) rfl (pa_cons (pv 0) (pa_cons (pv 2) pa_nil))) (fun _ _=>rfl)))) pa_nil))))))),?_⟩
  have P0:Pot H p H:=⟨⟨a,b,hp⟩,fun c o e _=>e⟩
  refine ⟨smn 8,fun ls hls=>gN ?_⟩
  have nls:ls≠p:=P0.apart hls
  have P1:=P0.new hls (o:=.lst (someW.map V.str))
  have e1:(upd H ls (.lst (someW.map V.str))) ls=some (.lst (someW.map V.str)):=upd_same
  have hp1:(upd H ls (.lst (someW.map V.str))) p=some (.lst [.int a,.int b]):=(upd_ne nls.symm).trans hp
  refine ⟨_,rfl,p,4,a,b,rfl,hp1,by decide,by decide,fun r a1 b1 r0 r1=>⟨rfl,_,rfl,?_⟩⟩
  have P2:Pot H p (upd (upd H ls (.lst (someW.map V.str))) p (.lst [.int a1,.int b1])):=P1.turn
  have e2:(upd (upd H ls (.lst (someW.map V.str))) p (.lst [.int a1,.int b1])) ls=some (.lst (someW.map V.str)):=(upd_ne nls).trans e1
  have nqp:q≠p:=ne_of hq hp (by intro z; cases z)
  have hul:=hD.len
  rw [List.length_map] at hul
  have k2:∀ (b:Addr) (vs:List V),H b=some (.tup vs)→(upd (upd H ls (.lst (someW.map V.str))) p (.lst [.int a1,.int b1])) b=some (.tup vs):=fun b vs e=>P2.old b _ e (ne_of e hp (by intro z; cases z))
  refine ite2 (fun _=>?_) (fun _=>?_)
  · refine ⟨_,rfl,q,rfl,⟨_,SqT.of (k2 _ _ hq)⟩,fun lc hlc=>texts_walk (k2 _ _ hq) (hD.keepT k2) hn hlc fun H' s' e'=>⟨lc,_,rfl,.inl ⟨SqL.of e',fun r hr=>kk r (ps.map fun p=>(⟨p.2.toArray⟩:Str)) _ ((P2.same s').new hr) ?_ (List.length_map _)⟩⟩⟩
    rw [upd_same,List.map_map,List.map_map]
    rfl
  · refine ⟨_,rfl,p,8,a1,b1,rfl,upd_same,by decide,by decide,fun r2 a2 b2 r20 r21=>⟨_,_,rfl,rfl,gN ?_⟩⟩
    have P3:Pot H p (upd (upd (upd H ls (.lst (someW.map V.str))) p (.lst [.int a1,.int b1])) p (.lst [.int a2,.int b2])):=P2.turn
    have e3:(upd (upd (upd H ls (.lst (someW.map V.str))) p (.lst [.int a1,.int b1])) p (.lst [.int a2,.int b2])) ls=some (.lst (someW.map V.str)):=(upd_ne nls).trans e2
    have hq3:(upd (upd (upd H ls (.lst (someW.map V.str))) p (.lst [.int a1,.int b1])) p (.lst [.int a2,.int b2])) q=some (.tup dvs):=P3.old q _ hq nqp
    refine ⟨_,rfl,q,rfl,⟨_,SqT.of hq3⟩,fun lc hlc=>?_⟩
    have nlc:lc≠p:=P3.apart hlc
    have nlcs:lc≠ls:=(ne_of_none e3 hlc).symm
    have nqc:q≠lc:=ne_of_none hq3 hlc
    have hlH:=P3.free hlc
    refine comp_by (J:=Itt K q) (l:=lc) dvs.length (fun i σ' H'=>∃ (v:Option V) (xs:List Str),σ'=[some (.ref p),some (.ref ls),some (.int (1+r2)),v]∧Pot H p H'∧H' ls=some (.lst (someW.map V.str))∧H' lc=some (.lst (xs.map V.str))∧xs.length=i) ⟨none,[],rfl,P3.new hlc,(upd_ne nlcs.symm).trans e3,upd_same,rfl⟩ ?_ ?_
    · rintro σ' H' ⟨v,xs,rfl,P',els,elc,hxl⟩
      exact ⟨⟨_,SqT.of (P'.old q _ hq nqp),Nat.le_refl _⟩,lc,_,rfl,.inl ⟨SqL.of elc,fun r hr=>kk r xs _ (P'.new hr) upd_same (by rw [hxl,hul])⟩⟩
    · rintro i σ' H' hi ⟨v,xs,rfl,P',els,elc,hxl⟩
      refine ⟨⟨_,_,SqT.of (P'.old q _ hq nqp),List.getElem?_eq_getElem hi⟩,?_⟩
      rintro y H'' ⟨rfl,hy⟩
      obtain ⟨a5,b5,e5⟩:=id P'.at_
      refine gN (yesT (iteT ⟨_,rfl,_,rfl,_,rfl,p,_,a5,b5,rfl,e5,by omega,by omega,fun r5 a6 b6 r50 r51=>?_⟩))
      obtain ⟨x,hx⟩:=pickW (r:=r5) r50 (by omega)
      refine ⟨ls,_,_,_,rfl,rfl,SqL.of ((upd_ne nls).trans els),hx,_,(upd_ne nlc).trans elc,Nat.lt_of_lt_of_le (show (xs.map V.str).length < 1000000 by rw [List.length_map]; omega) sizeLine_big,_,xs++[x],rfl,P'.turn.list hlH nlc,(upd_ne nlcs.symm).trans ((upd_ne nls).trans els),?_,by rw [List.length_append,hxl]; rfl⟩
      rw [upd_same,List.map_append]
      rfl
end
section
open M08
variable {P:Program} {w:World} {K:PySem.W.Frag} {mg:Str→Option Value} {base:Heap}
theorem rows_walk {K:PySem.W.Frag} {l lc:Addr} {us:List V} {rs:List Rw} {k:Int} {H:Hp} {R:Hp→Prop} (e:H l=some (.lst us)) (hR:RowsAre H us rs) (hn:rs.length≤100000) (hp:∀ r∈rs,r.1.length≤100) (hlc:H lc=none)
    (hfin:∀ H' us',Same H H'→H' lc=some (.lst us')→RowsAre H' us' (rs.map fun r=>(k :: r.1,r.2))→R H') :
    ∃ W:Nat→Nat→L2.St→Hp→Prop,(∃ m,W 0 m [some (.int k),none,none] (upd H lc (.lst [])))∧∀ i m σ H,W i m σ H →
      ((Itl K l).stop i H∧R H)∨((Itl K l).go i H∧∃ N:L2.St→Hp→Prop,(∀ σ' H',N σ' H'→∃ m',m' < m∧W (i+1) m' σ' H') ∧
        ∀ x H',(Itl K l).yld i H x H'→gTup K 2 (gCons (gName 1) (gCons (gName 2) gNil)) x σ H' fun σ2 H2=>tYes σ2 H2 fun b H3=>if b=true then tTup (tCons (tOp rCat2 (tTup (tCons (tVar 0) tNil)) (tVar 1)) (tCons (tVar 2) tNil)) σ2 H3 fun v H4=>∃ ys,H4 lc=some (.lst ys)∧ys.length < sizeLine∧N σ2 (upd H4 lc (.lst (ys++[v]))) else N σ2 H3):=by
  have hul:=hR.len
  refine comp_by (J:=Itl K l) (l:=lc) us.length (fun i σ' H'=>∃ (v1 v2:Option V) (us':List V),σ'=[some (.int k),v1,v2]∧Same H H'∧H' lc=some (.lst us')∧us'.length=i∧RowsAre H' us' ((rs.take i).map fun r=>(k :: r.1,r.2))) ⟨none,none,[],rfl,same_new hlc _,upd_same,rfl,trivial⟩ ?_ ?_
  · rintro σ' H1 ⟨v1,v2,us',rfl,s1,e1,hl,h1⟩
    rw [hul,List.take_length] at h1
    exact ⟨⟨_,SqL.of (s1 _ _ e),Nat.le_refl _⟩,hfin H1 us' s1 e1 h1⟩
  · rintro i σ' H1 hi ⟨v1,v2,us',rfl,s1,e1,hl,h1⟩
    have hir:i < rs.length:=by omega
    refine ⟨⟨_,_,SqL.of (s1 _ _ e),List.getElem?_eq_getElem hi⟩,?_⟩
    rintro y H2 ⟨rfl,hy⟩
    have ey:y=us[i]:=Option.some.inj ((hy _ (SqL.of (s1 _ _ e))).symm.trans (List.getElem?_eq_getElem hi))
    obtain ⟨ds,t1,n1⟩:=hR.at_ (List.getElem?_eq_getElem hi) (List.getElem?_eq_getElem hir)
    have htk:(rs.take (i+1)).map (fun r=>((k :: r.1,r.2):Rw))=(rs.take i).map (fun r=>((k :: r.1,r.2):Rw))++[(k :: rs[i].1,rs[i].2)]:=by rw [List.take_add_one,List.getElem?_eq_getElem hir,List.map_append]; rfl
    have hpi:=hp _ (List.getElem_mem hir)
    rw [htk]
    rw [← ey] at n1
    generalize rs[i]=rr at t1 n1 hpi ⊢
    obtain ⟨t,x1,x2,rfl,ht,d1,d2⟩:=two_of (n1.same s1)
    obtain ⟨tp,rfl,htp⟩:=path_of d1
    refine ⟨t,_,rfl,SqT.of ht,rfl,_,_,rfl,_,_,rfl,rfl,yesT (iteT ?_)⟩
    refine ⟨_,rfl,smn 1,fun ta hta=>?_⟩
    have sA:=same_new hta (.tup [.int k])
    have eA:(upd H2 ta (.tup [.int k])) ta=some (.tup [.int k]):=upd_same
    generalize upd H2 ta (.tup [.int k])=H3 at sA eA ⊢
    refine ⟨_,rfl,ta,tp,_,_,rfl,rfl,eA,sA _ _ htp,small (by rw [List.length_map]; show 1+rr.1.length≤1000; omega),fun q H4 s4 e4=>?_⟩
    refine ⟨_,rfl,smn 2,fun tn htn=>?_⟩
    have sB:=same_new htn (.tup [.ref q,x2])
    have eB:(upd H4 tn (.tup [.ref q,x2])) tn=some (.tup [.ref q,x2]):=upd_same
    generalize upd H4 tn (.tup [.ref q,x2])=H5 at sB eB ⊢
    have s25:=(sA.trans s4).trans sB
    have elc:=s25 _ _ e1
    have kt:∀ (b:Addr) (vs:List V),H5 b=some (.tup vs)→(upd H5 lc (.lst (us'++[.ref tn]))) b=some (.tup vs):=fun b vs e=>by
      rw [upd_ne (ne_of e elc (by intro z; cases z))]
      exact e
    refine ⟨us',elc,Nat.lt_of_lt_of_le (show us'.length < 1000000 by omega) sizeLine_big,_,_,us'++[.ref tn],rfl,fun x u z=>?_,upd_same,by rw [List.length_append,hl]; rfl,?_⟩
    · rw [upd_ne (ne_of_none z hlc)]
      exact s25 _ _ (s1 _ _ z)
    · refine RowsAre.app ((h1.same s25).keepT kt) ⟨⟨ds,t1,?_⟩,trivial⟩
      exact ⟨tn,_,rfl,kt _ _ eB,⟨q,_,rfl,kt _ _ (sB _ _ e4),denI_of _ (k :: rr.1)⟩,(d2.same s25).keepT kt,trivial⟩
theorem denS {H:Hp}:∀ {cs:List Str} {vs:List V},DenL H vs (cs.map D.str)→vs=cs.map V.str
  | [],[],_=>rfl
  | _ :: cs,v :: vs,h=>by
    have e:v=.str _:=h.1
    rw [e,denS h.2]
    rfl
  | [],_ :: _,h=>h.elim
  | _ :: _,[],h=>h.elim
theorem denS_of (H:Hp):∀ cs:List Str,DenL H (cs.map V.str) (cs.map D.str)
  | []=>trivial
  | _ :: cs=>⟨rfl,denS_of H cs⟩
noncomputable def strOf:D→Str
  | .str x=>x
  | _=>Str.empty
theorem perm_strs {ds:List D} {xs:List Str} (h:ds.Perm (xs.map D.str)):∃ ys:List Str,ds=ys.map D.str∧ys.Perm xs:=by
  refine ⟨ds.map strOf,?_,?_⟩
  · rw [List.map_map]
    conv=>lhs; rw [← List.map_id ds]
    refine List.map_congr_left fun d hd=>?_
    obtain ⟨x,_,rfl⟩:=List.mem_map.mp (h.mem_iff.mp hd)
    rfl
  · have:=h.map strOf
    rw [List.map_map] at this
    rw [show strOf ∘ D.str=id from rfl,List.map_id] at this
    exact this
theorem str_hom (xs:List Str):Hom (xs.map D.str):=by
  refine ⟨fun d hd e he=>?_,.inr (.inl fun d hd=>?_)⟩
  · obtain ⟨a,_,rfl⟩:=List.mem_map.mp hd
    obtain ⟨b,_,rfl⟩:=List.mem_map.mp he
    exact trivial
  · obtain ⟨a,_,rfl⟩:=List.mem_map.mp hd
    exact ⟨_,rfl⟩
theorem tal_words {f:Str→Nat} {ps:List (Str × Int)} (h:Rep f ps) {xs:List Str} (hp:xs.Perm (ps.map (·.1))) (hu:UpD (xs.map D.str)):TalD f (xs.map fun w=>prD (w,((f w:Nat):Int))):=by
  have hnd:xs.Nodup:=hp.nodup_iff.mpr h.nd
  refine ⟨?_,xs.map fun w=>(w,((f w:Nat):Int)),by rw [List.map_map]; exact List.Perm.refl _,⟨?_,fun w=>?_,fun p hp'=>?_⟩⟩
  · unfold UpD at hu ⊢
    rw [List.pairwise_map] at hu ⊢
    refine (hu.and hnd).imp fun {x y} z=>?_
    obtain ⟨z1,z2⟩:=z
    unfold prD
    rw [dlt_tt,dltL_cc,if_neg (by rw [eqD_of_ne fun e=>z2 (D.str.inj e).symm]; exact Bool.false_ne_true)]
    exact z1
  · rw [List.map_map,show ((fun p:Str × Int=>p.1) ∘ fun w=>(w,((f w:Nat):Int)))=id from rfl,List.map_id]
    exact hnd
  · rw [List.map_map,show ((fun p:Str × Int=>p.1) ∘ fun w=>(w,((f w:Nat):Int)))=id from rfl,List.map_id,hp.mem_iff]
    exact h.mem w
  · obtain ⟨w,_,rfl⟩:=List.mem_map.mp hp'
    rfl
theorem mine_walk {K:PySem.W.Frag} {l lc c:Addr} {xs:List Str} {f:Str→Nat} {ps:List (Str × Int)} {H:Hp} {R:Hp→Prop} (e:H l=some (.lst (xs.map V.str))) (ec:H c=some (.dK (ps.map kvE))) (hr:Rep f ps) (hx:∀ w∈xs,0 < f w) (hn:xs.length≤100000) (hlc:H lc=none)
    (hfin:∀ H' us,Same H H'→H' lc=some (.lst us)→DenL H' us (xs.map fun w=>prD (w,((f w:Nat):Int)))→R H') :
    ∃ W:Nat→Nat→L2.St→Hp→Prop,(∃ m,W 0 m [some (.ref c),none] (upd H lc (.lst [])))∧∀ i m σ H,W i m σ H →
      ((Itl K l).stop i H∧R H)∨((Itl K l).go i H∧∃ N:L2.St→Hp→Prop,(∀ σ' H',N σ' H'→∃ m',m' < m∧W (i+1) m' σ' H') ∧
        ∀ x H',(Itl K l).yld i H x H'→gName 1 x σ H' fun σ2 H2=>tYes σ2 H2 fun b H3=>if b=true then tTup (tCons (tVar 1) (tCons (tDGet (tVar 0) (tVar 1)) tNil)) σ2 H3 fun v H4=>∃ ys,H4 lc=some (.lst ys)∧ys.length < sizeLine∧N σ2 (upd H4 lc (.lst (ys++[v]))) else N σ2 H3):=by
  refine comp_by (J:=Itl K l) (l:=lc) (xs.map V.str).length (fun i σ' H'=>∃ (v1:Option V) (us:List V),σ'=[some (.ref c),v1]∧Same H H'∧H' lc=some (.lst us)∧us.length=i∧DenL H' us ((xs.take i).map fun w=>prD (w,((f w:Nat):Int)))) ⟨none,[],rfl,same_new hlc _,upd_same,rfl,trivial⟩ ?_ ?_
  · rintro σ' H1 ⟨v1,us,rfl,s1,e1,hl,h1⟩
    rw [List.length_map,List.take_length] at h1
    exact ⟨⟨_,SqL.of (s1 _ _ e),Nat.le_refl _⟩,hfin H1 us s1 e1 h1⟩
  · rintro i σ' H1 hi ⟨v1,us,rfl,s1,e1,hl,h1⟩
    have hix:i < xs.length:=by rwa [List.length_map] at hi
    have hat:(xs.map V.str)[i]?=some (.str xs[i]):=by rw [List.getElem?_map,List.getElem?_eq_getElem hix]; rfl
    refine ⟨⟨_,_,SqL.of (s1 _ _ e),hat⟩,?_⟩
    rintro y H2 ⟨rfl,hy⟩
    have ey:y=.str xs[i]:=Option.some.inj ((hy _ (SqL.of (s1 _ _ e))).symm.trans hat)
    subst ey
    have hxi:=hx _ (List.getElem_mem hix)
    have htk:(xs.take (i+1)).map (fun w=>prD (w,((f w:Nat):Int)))=(xs.take i).map (fun w=>prD (w,((f w:Nat):Int)))++[prD (xs[i],((f xs[i]:Nat):Int))]:=by rw [List.take_add_one,List.getElem?_eq_getElem hix,List.map_append]; rfl
    rw [htk]
    generalize xs[i]=wd at hxi ⊢
    have hgt:DGet H2 c (.str wd) (some (.int (f wd:Nat))):=.inl ⟨_,Sum.inr wd,.inl (s1 _ _ ec),rfl,by rw [hr.get,if_pos hxi]⟩
    refine gN (yesT (iteT ⟨_,rfl,_,rfl,_,rfl,c,_,rfl,hgt,smn 2,fun tn htn=>?_⟩))
    have sB:=same_new htn (.tup [.str wd,.int (f wd:Nat)])
    have eB:(upd H2 tn (.tup [.str wd,.int (f wd:Nat)])) tn=some (.tup [.str wd,.int (f wd:Nat)]):=upd_same
    generalize upd H2 tn (.tup [.str wd,.int (f wd:Nat)])=H5 at sB eB ⊢
    have elc:=sB _ _ e1
    have kt:∀ (b:Addr) (vs:List V),H5 b=some (.tup vs)→(upd H5 lc (.lst (us++[.ref tn]))) b=some (.tup vs):=fun b vs e=>by
      rw [upd_ne (ne_of e elc (by intro z; cases z))]
      exact e
    refine ⟨us,elc,Nat.lt_of_lt_of_le (show us.length < 1000000 by omega) sizeLine_big,_,us++[.ref tn],rfl,fun x u z=>?_,upd_same,by rw [List.length_append,hl]; rfl,?_⟩
    · rw [upd_ne (ne_of_none z hlc)]
      exact sB _ _ (s1 _ _ z)
    · exact denl_app ((h1.same sB).keepT kt) ⟨⟨tn,_,rfl,kt _ _ eB,rfl,rfl,trivial⟩,trivial⟩
end
section
open M08
variable {P:Program} {w:World} {K:PySem.W.Frag} {mg:Str→Option Value} {base:Heap}
theorem rws_path:∀ {n:Nat} {d:D} {ws:List Str},∀ r∈rws n d ws,r.1.length < n
  | n+1,.tup ds,ws,r,hr=>by
    have key:∀ (es:List D) (k:Nat) (vs:List Str),∀ r∈rwsL (rws n) (nl n) es k vs,r.1.length < n+1:=by
      intro es
      induction es with
      | nil=>intro k vs r hr; cases hr
      | cons e es ih =>
        intro k vs r hr
        rcases List.mem_append.mp hr with hr | hr
        · obtain ⟨q,hq,rfl⟩:=List.mem_map.mp hr
          have:=rws_path q hq
          rw [List.length_cons]
          omega
        · exact ih _ _ r hr
    rcases List.mem_cons.mp hr with rfl | hr
    · exact Nat.succ_pos _
    · exact key ds 0 ws r hr
  | 0,d,_,r,hr=>by cases d <;> cases hr
  | _+1,.non,_,r,hr=>nomatch hr
  | _+1,.bl _,_,r,hr=>nomatch hr
  | _+1,.int _,_,r,hr=>nomatch hr
  | _+1,.str _,_,r,hr=>nomatch hr
theorem rwsL_len (n:Nat):∀ (es:List D) (k:Nat) (vs:List Str),(rwsL (rws n) (nl n) es k vs).length≤(es.map (cntN n)).sum
  | [],_,_=>Nat.zero_le _
  | e :: es,k,vs=>by
    show ((rws n e _).map _++_).length≤_
    rw [List.length_append,List.length_map,List.map_cons,List.sum_cons]
    exact Nat.add_le_add (rws_len n e _) (rwsL_len n es _ _)
theorem drop_sum (n:Nat) (ds:List D) (k:Nat):((ds.drop k).map (cntN n)).sum≤(ds.map (cntN n)).sum:=by
  conv=>rhs; rw [← List.take_append_drop k ds,List.map_append,List.sum_append]
  exact Nat.le_add_left _ _
structure CtI (H:Hp) (l c lr:Addr) (us ws:List Str) (n:Nat) (ds:List D) (k:Nat) (H5:Hp) (ps:List (Str × Int)) (rs:List V):Prop where
  old:OldL l H H5
  el:H5 l=some (.lst ((us++ws.take (nlS n ds k)).map V.str))
  ec:H5 c=some (.dK (ps.map kvE))
  rp:Rep (cntW (ws.drop (nlS n ds k))) ps
  pl:ps.length≤(ws.drop (nlS n ds k)).length
  er:H5 lr=some (.lst rs)
  hr:H lr=none
  rw_:RowsAre H5 rs (rwsL (rws n) (nl n) (ds.drop k) k (ws.drop (nlS n ds k)))
theorem cnt_pos':∀ (n:Nat) (d:D),1≤cntN n d
  | 0,d=>by cases d <;> simp [cntN]
  | n+1,d=>by cases d <;> simp [cntN]
theorem len_sum (n:Nat):∀ ds:List D,ds.length≤(ds.map (cntN n)).sum
  | []=>Nat.le_refl _
  | d :: ds=>by
    have:=len_sum n ds
    have:=cnt_pos' n d
    rw [List.length_cons,List.map_cons,List.sum_cons]
    omega
theorem nlS_mono {n:Nat} {ds:List D} {a b:Nat} (h:a≤b):nlS n ds a≤nlS n ds b:=by
  unfold nlS
  rw [← Nat.add_sub_cancel' h,List.take_add,List.map_append,List.sum_append]
  exact Nat.le_add_right _ _
structure StI (l:Addr) (H5:Hp) (ci li:Addr) (row seg:List Str) (R:List Rw) (H6:Hp) (pi:List (Str × Int)) (ri:List V):Prop where
  old:OldL l H5 H6
  el:H6 l=some (.lst (row.map V.str))
  ec:H6 ci=some (.dK (pi.map kvE))
  rp:Rep (cntW seg) pi
  pl:pi.length≤seg.length
  er:H6 li=some (.lst ri)
  rw_:RowsAre H6 ri R
  nc:H5 ci=none
theorem kit_tuple_str (K:PySem.W.Frag):PySem.W.kitOne K (.type "tuple") (.type "str")=some false:=kit_tt K (by decide +kernel)
theorem rep_one (x:Str):Rep (cntW [x]) [(x,1)]:=by
  refine ⟨by simp,fun w=>?_,fun p hp=>?_⟩
  · unfold cntW
    rw [List.count_pos_iff]
    simp
  · rw [List.mem_singleton.mp hp]
    unfold cntW
    simp
theorem scCounted:FnScope ["_law_tree", "_law_row", "_law_counts", "_law_rows", "_law_k", "_law_inner", "_law_told", "_law_word", "_law_mine"] ["_law_tree", "_law_row"] (defScope sCounted):=⟨rfl,rfl,rfl,by decide +kernel,rfl,by decide +kernel,by decide +kernel⟩
theorem c_counted (h:Has K mg "_law_counted" sCounted ["_law_tree", "_law_row"]) (m_len:mg "len" = none) (m_range:mg "range" = none) (m_isinstance:mg "isinstance" = none) (m_str:mg "str" = none) (m_tuple:mg "tuple" = none) (m_sorted:mg "sorted" = none) (m_list:mg "list" = none) :
    ∀ n:Nat,Cal P w K mg base "_law_counted" n ["_law_tree", "_law_row"] (spCounted n)
  | 0=>h.never fun _ _ _ _ z=>z
  | n+1=>by
    have C_counted:=c_counted h m_len m_range m_isinstance m_str m_tuple m_sorted m_list n
    refine h.mk' scCounted (fun vs H Q E hs=>?_) (fun f cdv A outer s H vs Q E hr hs=>?_)
    · obtain ⟨v,l,m,d,us,ws,rfl,_⟩:=hs
      rfl
    obtain ⟨v,l,m,d,us,ws,rfl,hv,⟨hm,hm50⟩,ht,hc,hl,hw,kk⟩:=hs
    refine ⟨_,(pss_cons (ps_set (i:=2) scCounted.nd rfl (Or.inr rfl) pe_dnewK)
    (pss_cons (ps_set (i:=3) scCounted.nd rfl (Or.inl rfl) (pe_lst pa_nil))
    (pss_cons (ps_for PassesOwn.never rfl (pi_rangeD rfl m_range (pa_cons (pe_op op_sub (pe_callB call_len_seq rfl m_len PySem.boot_len (pa_cons (pv 0) pa_nil)) pe_int) (pa_cons (pe_un un_neg pe_int) (pa_cons (pe_un un_neg pe_int) pa_nil)))) (pg_name (i:=4) scCounted.nd rfl (Or.inr rfl))
      (pss_cons (ps_if (pt_val (pe_callB call_isinst rfl m_isinstance boot_isinstance (pa_cons (pe_ix ix_tup (pv 0) (pv 4) (fun _ _=>rfl)) (pa_cons (pe_bltn (v:=.ty "str") rfl m_str boot_str rfl) pa_nil))))
      (pss_one (ps_par (i:=5) (j:=6) rfl scCounted.nd rfl rfl (by decide) rfl rfl (pa_cons (pe_disp (pps_cons (pe_bm0 PySem.F.plainAttrs_list PySem.F.slot_list_pop PySem.F.type_list_pop mt_pop (pv 1)) pe_int pps_nil) rfl rfl (by simp) (by decide +kernel)) (pa_cons (pe_lst pa_nil) pa_nil)) rfl))
      (pss_one (ps_asg (pe_cal C_counted hr (Nat.le_refl _) rfl (pa_cons (pe_ix ix_tup (pv 0) (pv 4) (fun _ _=>rfl)) (pa_cons (pv 1) pa_nil))) (pg_tup rfl (pgs_cons (pg_name (i:=5) scCounted.nd rfl (Or.inl rfl)) (pgs_cons (pg_name (i:=6) scCounted.nd rfl (Or.inl rfl)) pgs_nil))))))
    (pss_cons (ps_for PassesOwn.never rfl (pi_dict (pv 5)) (pg_name (i:=7) scCounted.nd rfl (Or.inl rfl))
      (pss_one (ps_dput (hu_of hr) (pv 2) (pv 7) (pe_op op_add (pe_dget2 (hu_of hr) (pv 2) (pv 7) pe_int ⟨rfl,rfl,rfl,rfl⟩) (pe_dget (hu_of hr) (pv 5) (pv 7) (fun _ _=>rfl))) rfl)))
    (pss_one (ps_set (i:=3) scCounted.nd rfl (Or.inl rfl) (pe_op op_cat (pe_compL ["_law_tree", "_law_row", "_law_counts", "_law_rows", "_law_k", "_law_inner", "_law_told", "_law_word", "_law_mine"] (defScope sCounted) ["_law_k", "_law_path", "_law_some"] [some 4,none,none] rfl rfl rfl (pi_list (pv 6)) rfl (by decide +kernel) (by decide +kernel) (by decide +kernel) (by decide +kernel) (g:=gTup K 2 (gCons (gName 1) (gCons (gName 2) gNil))) (hg:=fun cl C s H ex pn E=>pg_tup (n:=2) rfl (pgs_cons (pg_name (i:=1) (by decide +kernel:(["_law_k", "_law_path", "_law_some"]:List Str).Nodup) rfl (Or.inl rfl) (Or.inr rfl)) (pgs_cons (pg_name (i:=2) (by decide +kernel:(["_law_k", "_law_path", "_law_some"]:List Str).Nodup) rfl (Or.inl rfl) (Or.inr rfl)) pgs_nil))) (ht:=fun cl C s H ex pn E=>pifs_nil) (he:=fun cl C s H ex pn E=>(pe_tup (pa_cons (pe_op op_catT2 (pe_tup (pa_cons (pv 0) pa_nil)) (pv 1)) (pa_cons (pv 2) pa_nil))))) (pv 3)))))))
    (pss_cons (ps_set (i:=8) scCounted.nd rfl (Or.inl rfl) (pe_callTy call_tuple_of rfl m_tuple boot_tuple (pa_cons (pe_compL ["_law_tree", "_law_row", "_law_counts", "_law_rows", "_law_k", "_law_inner", "_law_told", "_law_word", "_law_mine"] (defScope sCounted) ["_law_counts", "_law_word"] [some 2,none] rfl rfl rfl (pi_list (pe_callB (call_sortedDB hr.units) rfl m_sorted boot_sorted (pa_cons (pe_callTy (call_list_dict rfl) rfl m_list boot_list (pa_cons (pv 2) pa_nil)) pa_nil))) rfl (by decide +kernel) (by decide +kernel) (by decide +kernel) (by decide +kernel) (hg:=fun cl C s H ex pn E=>(pg_name (i:=1) (by decide +kernel:(["_law_counts", "_law_word"]:List Str).Nodup) rfl (Or.inl rfl))) (ht:=fun cl C s H ex pn E=>pifs_nil) (he:=fun cl C s H ex pn E=>(pe_tup (pa_cons (pv 1) (pa_cons (pe_dget (hu_of hr) (pv 0) (pv 1) (fun _ _=>rfl)) pa_nil))))) pa_nil)))
    (pss_one (ps_ret (pe_tup (pa_cons (pv 2) (pa_cons (pe_op op_cat (pe_lst (pa_cons (pe_tup (pa_cons (pe_tup pa_nil) (pa_cons (pv 8) pa_nil))) pa_nil)) (pv 3)) pa_nil))))))))),?_⟩
    obtain ⟨ds,rfl,hds⟩:=ht
    obtain ⟨pv,vs,rfl,hpv,hvs⟩:=den_tup hv
    have hlen:=hvs.len
    have hcs:1+(ds.map (cntN m)).sum≤100000:=hc
    have hws:ws.length=nlS m ds ds.length:=by rw [hw,nlS_all]; rfl
    have hwc:ws.length≤100000:=by rw [hw]; exact Nat.le_trans (nl_cnt _ _) hc
    have hdl:ds.length≤100000:=by
      have:=len_sum m ds
      omega
    have npl:pv≠l:=ne_of hpv hl (by intro z; cases z)
    refine fun c hc0=>gN ?_
    have s0:=same_new hc0 (.dK [])
    have e0:(upd H c (.dK [])) c=some (.dK []):=upd_same
    generalize upd H c (.dK [])=H0 at s0 e0 ⊢
    refine ⟨smn 0,fun lr hlr=>gN ?_⟩
    have s1:=same_new hlr (.lst [])
    have e1:(upd H0 lr (.lst [])) lr=some (.lst []):=upd_same
    have hlrH:H lr=none:=by
      cases e:H lr with
      | none=>rfl
      | some o=>exact absurd ((s0 _ _ e).symm.trans hlr) (by simp)
    generalize upd H0 lr (.lst [])=H1 at s1 e1 ⊢
    have s01:=s0.trans s1
    have ncl:c≠l:=(ne_of_none hl hc0).symm
    refine ⟨_,rfl,pv,_,rfl,.inr (SqT.of (s01 _ _ hpv)),_,_,rfl,rfl,_,rfl,_,rfl,_,vs.length,rfl,rfl,by omega,?_⟩
    refine for_down (a:=(vs.length:Int) - 1) (n:=vs.length) (fun j σ H5=>∃ (v4 v5 v6 v7 v8:Option V) (lr':Addr) (ps:List (Str × Int)) (rs:List V),σ=[some (.ref pv),some (.ref l),some (.ref c),some (.ref lr'),v4,v5,v6,v7,v8]∧CtI H l c lr' us ws m ds (ds.length - j) H5 ps rs)
      ⟨_,_,_,_,_,lr,[],[],rfl,?_⟩ ?_ ?_
    · rw [Nat.sub_zero]
      refine ⟨fun b o z _=>s01 _ _ z,by rw [← hws,List.take_length]; exact s01 _ _ hl,s1 _ _ e0,?_,Nat.zero_le _,e1,hlrH,?_⟩
      · rw [← hws,List.drop_length]
        exact Rep.nil.congr fun w=>rfl
      · rw [List.drop_length]
        trivial
    · rintro j σ H5 hj ⟨v4,v5,v6,v7,v8,lr',ps,rs,rfl,C5⟩
      have eix:(vs.length:Int) - 1 - (j:Int)=((ds.length - 1 - j:Nat):Int):=by omega
      rw [eix]
      have ej:ds.length - j=ds.length - 1 - j+1:=by omega
      rw [ej] at C5
      rw [show ds.length - (j+1)=ds.length - 1 - j by omega]
      generalize hi:ds.length - 1 - j=i at C5 ⊢
      have hil:i < ds.length:=by omega
      have hiv:i < vs.length:=by omega
      have hpv5:=C5.old _ _ hpv npl
      obtain ⟨dd,hdd,dy⟩:=hvs.at_ (List.getElem?_eq_getElem hiv)
      have edd:ds[i]=dd:=Option.some.inj ((List.getElem?_eq_getElem hil).symm.trans hdd)
      rw [← edd] at dy
      have dy5:Den H5 vs[i] ds[i]:=dy.keepT (C5.old.tup hl)
      have hti:=hds _ (List.getElem_mem hil)
      have hns:=nlS_succ (n:=m) hil
      have hle:nlS m ds (i+1)≤ws.length:=by
        rw [hws]
        exact nlS_mono (by omega)
      have hsg:((ws.drop (nlS m ds i)).take (nl m ds[i])).length=nl m ds[i]:=by rw [List.length_take,List.length_drop]; omega
      have hcut:ws.take (nlS m ds (i+1))=ws.take (nlS m ds i)++(ws.drop (nlS m ds i)).take (nl m ds[i]):=by rw [hns,List.take_add]
      have hdr:ws.drop (nlS m ds i)=(ws.drop (nlS m ds i)).take (nl m ds[i])++ws.drop (nlS m ds (i+1)):=by
        rw [hns,← List.drop_drop,List.take_append_drop]
      have hcni:cntN m ds[i]≤100000:=by
        have:=le_sum (cntN m) (List.getElem_mem hil)
        omega
      have hel:=C5.el
      rw [hcut] at hel
      have hat:atI vs ((i:Nat):Int)=some vs[i]:=atI_nat (List.getElem?_eq_getElem hiv)
      have c5rp:=C5.rp
      have c5pl:=C5.pl
      have c5rw:=C5.rw_
      generalize hrest:ws.drop (nlS m ds (i+1))=rest at c5rp c5pl c5rw hdr
      generalize hseg:(ws.drop (nlS m ds i)).take (nl m ds[i])=seg at hsg hcut hdr hel
      generalize hrow:us++ws.take (nlS m ds i)=row
      rw [← List.append_assoc,hrow] at hel
      rcases Nat.eq_zero_or_pos m with hm0 | hm0
      case' inl =>
        have hz:Tr 0 ds[i]:=hm0 ▸ hti
        obtain ⟨x,ex⟩:=hz
        have ev:vs[i]=mkT x:=by
          have:=dy5
          rw [ex] at this
          exact this
        have hn1:nl m ds[i]=1:=by rw [hm0,ex]; rfl
        have hr0:rws m ds[i] seg=[]:=by rw [hm0,ex]; rfl
        obtain ⟨wd,hwd⟩:∃ wd,seg=[wd]:=List.length_eq_one_iff.mp (hsg.trans hn1)
        rw [hwd,List.map_append] at hel
        rw [hwd] at hr0
        refine gN ⟨_,rfl,_,rfl,pv,_,_,_,rfl,rfl,SqT.of hpv5,hat,_,_,_,true,rfl,by rw [ev]; exact .str _,kit_str_str K,_,rfl,iteT ?_⟩
        refine fun ci hci=>?_
        have nlc:l≠ci:=ne_of_none hel hci
        refine ⟨_,rfl,.inl ⟨rfl,_,SqL.of ((upd_ne nlc).trans hel)⟩,l,_,.str wd,rfl,rfl,(upd_ne nlc).trans hel,by simp,?_⟩
        rw [List.map_cons,List.map_nil,List.dropLast_concat]
        refine ⟨(upd_ne nlc.symm).trans upd_same,[(Sum.inr wd,.int 1)],rfl,(by show 1≤15; decide),?_⟩
        refine ⟨smn 0,fun li hli=>⟨_,_,rfl,?_⟩⟩
        obtain ⟨pi,ri,S6⟩:∃ pi ri,StI l H5 ci li row [wd] (rws m ds[i] [wd]) (upd (upd (upd (upd H5 ci (.dK [])) l (.lst (row.map V.str))) ci (.dK (mergeK [] [(Sum.inr wd,V.int 1)]))) li (.lst [])) pi ri:=by
          have nli:li≠l:=fun z=>by rw [z,upd_ne nlc,upd_same] at hli; cases hli
          have nlci:li≠ci:=fun z=>by rw [z,upd_same] at hli; cases hli
          refine ⟨[(wd,1)],[],fun b u z hb=>?_,?_,?_,rep_one wd,Nat.le_refl _,upd_same,by rw [hr0]; trivial,hci⟩
          · have nb:b≠ci:=ne_of_none z hci
            have nb2:b≠li:=fun y=>by rw [← y,upd_ne nb,upd_ne hb,upd_ne nb,z] at hli; cases hli
            rw [upd_ne nb2,upd_ne nb,upd_ne hb,upd_ne nb]
            exact z
          · rw [upd_ne nli.symm,upd_ne nlc,upd_same]
          · rw [upd_ne nlci.symm,upd_same]
            rfl
        generalize upd (upd (upd (upd H5 ci (.dK [])) l (.lst (row.map V.str))) ci (.dK (mergeK [] [(Sum.inr wd,V.int 1)]))) li (.lst [])=H6 at S6 ⊢
        rw [← hwd] at S6
      case' inr =>
        obtain ⟨m',hm'⟩:∃ m',m=m' + 1:=⟨m - 1,by omega⟩
        obtain ⟨tv,tvs,ev,htv⟩:∃ (tv:Addr) (tvs:List V),vs[i]=.ref tv∧H5 tv=some (.tup tvs):=by
          have hz:Tr (m' + 1) ds[i]:=hm' ▸ hti
          obtain ⟨es,ee,_⟩:=hz
          have:=dy5
          rw [ee] at this
          obtain ⟨tv,tvs,e1,e2,_⟩:=den_tup this
          exact ⟨tv,tvs,e1,e2⟩
        refine gN ⟨_,rfl,_,rfl,pv,_,_,_,rfl,rfl,SqT.of hpv5,hat,_,_,_,false,rfl,by rw [ev]; exact .tup htv,kit_tuple_str K,_,rfl,iteF ?_⟩
        refine ⟨_,rfl,_,rfl,pv,_,_,_,rfl,rfl,SqT.of hpv5,hat,_,rfl,spCounted_of (by omega) ⟨vs[i],l,m',ds[i],row,seg,rfl,dy5,⟨by omega,by omega⟩,hm' ▸ hti,hm' ▸ hcni,hel,hsg.trans (by rw [hm']),fun t6 ci li pi ri H6 o6 el6 et6 ec6 rp6 pl6 er6 rw6 nc6 nl6=>?_⟩⟩
        refine ⟨t6,_,rfl,SqT.of et6,rfl,_,_,rfl,_,_,rfl,rfl,?_⟩
        have S6:StI l H5 ci li row seg (rws m ds[i] seg) H6 pi ri:=⟨o6,el6,ec6,rp6,pl6,er6,by rw [hm']; exact rw6,nc6⟩
      all_goals
        have ncc:ci≠c:=(ne_of_none C5.ec S6.nc).symm
        have e6c:=S6.old _ _ C5.ec ncl
        have e6r:=S6.old _ _ C5.er (ne_of_none hl C5.hr).symm
        have o56:∀ (b:Addr) (vs:List V),H5 b=some (.tup vs)→H6 b=some (.tup vs):=S6.old.tup hel
        refine ⟨_,rfl,ci,_,rfl,S6.ec,fun o=>?_⟩
        have oF:∀ b u,H6 b=some u→b≠ci→(upd H6 ci (.frz o (.dK (pi.map kvE)))) b=some u:=fun b u z hb=>by rw [upd_ne hb]; exact z
        have eF:(upd H6 ci (.frz o (.dK (pi.map kvE)))) ci=some (.frz o (.dK (pi.map kvE))):=upd_same
        generalize upd H6 ci (.frz o (.dK (pi.map kvE)))=HF at oF eF ⊢
        have hpll:ps.length+pi.length≤100000:=by
          have h1:=S6.pl
          have h2:=congrArg List.length hdr
          rw [List.length_append,List.length_drop] at h2
          omega
        refine for_dict (d:=ci) (o:=o) (kvs:=pi.map kvE) (fun j' σ H7=>∃ (v7:Option V) (p7:List (Str × Int)),σ=[some (.ref pv),some (.ref l),some (.ref c),some (.ref lr'),some (.int (i:Nat)),some (.ref ci),some (.ref li),v7,v8]∧H7 ci=some (.frz o (.dK (pi.map kvE)))∧H7 c=some (.dK (p7.map kvE))∧Rep (fun w=>cntW rest w+if w∈(pi.take j').map (·.1) then cntW seg w else 0) p7∧p7.length≤ps.length+j'∧(∀ b u,HF b=some u→b≠c→H7 b=some u))
          ⟨_,ps,rfl,eF,oF _ _ e6c ncc.symm,c5rp.congr fun w=>(by rw [List.take_zero]; rfl),Nat.le_refl _,fun _ _ z _=>z⟩ ?_ ?_ ?_
        · rintro j' σ H7 _ ⟨_,_,_,e7,_⟩
          exact e7
        · rintro j' kv σ H7 hkv ⟨v7',p7,rfl,e7,ec7,rp7,pl7,o7⟩
          have hj':j' < pi.length:=by have:=(List.getElem?_eq_some_iff.mp hkv).1; rwa [List.length_map] at this
          rw [List.getElem?_map,List.getElem?_eq_getElem hj'] at hkv
          have ekv:kv=kvE pi[j']:=(Option.some.inj hkv).symm
          subst ekv
          have hpos:0 < cntW seg pi[j'].1:=(S6.rp.mem _).mp (List.mem_map_of_mem (List.getElem_mem hj'))
          have hnin:pi[j'].1 ∉ (pi.take j').map (·.1):=by
            have hnd:=S6.rp.nd
            rw [← List.take_append_drop j' pi,List.map_append,List.nodup_append] at hnd
            refine fun z=>hnd.2.2 _ z pi[j'].1 ?_ rfl
            rw [List.drop_eq_getElem_cons hj']
            exact List.mem_cons_self
          have htk:(pi.take (j' + 1)).map (·.1)=(pi.take j').map (·.1)++[pi[j'].1]:=by rw [List.take_add_one,List.getElem?_eq_getElem hj',List.map_append]; rfl
          rw [htk]
          show gName 7 (.str pi[j'].1) _ _ _
          generalize pi[j'].1=wd at hpos hnin ⊢
          have hgt:DGet H7 ci (.str wd) (some (.int (cntW seg wd:Nat))):=.inl ⟨_,Sum.inr wd,.inr ⟨o,e7⟩,rfl,by rw [S6.rp.get,if_pos hpos]⟩
          have hgd:=rp7.getD wd
          rw [if_neg hnin,Nat.add_zero] at hgd
          refine gN ⟨_,rfl,c,rfl,.inl ⟨_,.inl ec7⟩,_,rfl,_,DGet.k (k:=Sum.inr wd) ec7,_,rfl,_,rfl,ci,_,rfl,hgt,_,_,hgd,rfl,_,rfl,_,rfl,c,_,rfl,DPut.k (k:=Sum.inr wd) ec7 (by rw [List.length_map,sizeLine_eq]; omega),?_⟩
          have eH:putK (p7.map kvE) (Sum.inr wd) (.int (((cntW rest wd:Nat):Int)+((cntW seg wd:Nat):Int)))=(putP p7 wd ((cntW rest wd+cntW seg wd:Nat):Int)).map kvE:=by
            rw [← putP_put]
            rfl
          refine ⟨_,putP p7 wd ((cntW rest wd+cntW seg wd:Nat):Int),rfl,(upd_ne ncc).trans e7,upd_same.trans (congrArg (fun z=>some (HO.dK z)) eH),(rp7.put wd (show 0 < cntW rest wd+cntW seg wd by omega)).congr fun x=>?_,by have:=putP_len p7 wd ((cntW rest wd+cntW seg wd:Nat):Int); omega,fun b u z hb=>by rw [upd_ne hb]; exact o7 b u z hb⟩
          by_cases e:x=wd
          · rw [if_pos e,e,if_pos (by simp)]
          · rw [if_neg e]
            congr 1
            by_cases hx:x∈(pi.take j').map (·.1)
            · rw [if_pos hx,if_pos (List.mem_append_left _ hx)]
            · rw [if_neg hx,if_neg fun z=>(List.mem_append.mp z).elim hx fun y=>e (List.mem_singleton.mp y)]
        · rintro σ H7 ⟨v7',p7,rfl,e7,ec7,rp7,pl7,o7⟩
          rw [List.length_map] at pl7
          have rp8:Rep (cntW (seg++rest)) p7:=rp7.congr fun w=>by
            rw [List.length_map,List.take_length,cntW_app,Nat.add_comm]
            congr 1
            by_cases hx:w∈pi.map (·.1)
            · rw [if_pos hx]
            · rw [if_neg hx]
              have:¬ 0 < cntW seg w:=fun z=>hx ((S6.rp.mem w).mpr z)
              omega
          have o67:∀ b u,H6 b=some u→b≠ci→b≠c→H7 b=some u:=fun b u z h1 h2=>o7 b u (oF b u z h1) h2
          have k67:∀ (b:Addr) (vs:List V),H6 b=some (.tup vs)→H7 b=some (.tup vs):=fun b vs z=>o67 b _ z (fun y=>by rw [y,S6.ec] at z; cases z) fun y=>by rw [y,e6c] at z; cases z
          have er7:H7 li=some (.lst ri):=o67 _ _ S6.er (fun y=>by have:=S6.er; rw [y,S6.ec] at this; cases this) fun y=>by have:=S6.er; rw [y,e6c] at this; cases this
          have er7':H7 lr'=some (.lst rs):=o67 _ _ e6r (fun y=>by have:=e6r; rw [y,S6.ec] at this; cases this) fun y=>by have:=e6r; rw [y,e6c] at this; cases this
          have el7:H7 l=some (.lst (row.map V.str)):=o67 _ _ S6.el (fun y=>by have:=S6.el; rw [y,S6.ec] at this; cases this) fun y=>by have:=S6.el; rw [y,e6c] at this; cases this
          have rw7:=S6.rw_.keepT k67
          have rw7':=(c5rw.keepT o56).keepT k67
          have hrl:=rws_len m ds[i] seg
          have hrl2:rs.length≤100000:=by
            have h1:=c5rw.len
            have h2:=rwsL_len m (ds.drop (i+1)) (i+1) rest
            have h3:=drop_sum m ds (i+1)
            omega
          refine ⟨_,rfl,li,rfl,⟨_,SqL.of er7⟩,fun lc hlc=>rows_walk er7 rw7 (by omega) (fun r hr=>by have:=rws_path r hr; omega) hlc fun H8 us' s8 e8 h8=>?_⟩
          have hul:=h8.len
          rw [List.length_map] at hul
          refine ⟨_,rfl,lc,lr',us',rs,rfl,rfl,e8,s8 _ _ er7',by rw [sizeLine_eq]; omega,fun lz hlz=>gN ?_⟩
          have s9:=same_new hlz (.lst (us'++rs))
          have e9:(upd H8 lz (.lst (us'++rs))) lz=some (.lst (us'++rs)):=upd_same
          generalize upd H8 lz (.lst (us'++rs))=H9 at s9 e9 ⊢
          have s79:=s8.trans s9
          refine ⟨_,_,_,_,_,lz,p7,us'++rs,rfl,⟨fun b u z hb=>?_,?_,s79 _ _ ec7,?_,?_,e9,?_,?_⟩⟩
          · have z5:=C5.old b u z hb
            exact s79 _ _ (o67 _ _ (S6.old b u z5 hb) (ne_of_none z5 S6.nc) (ne_of_none z hc0))
          · rw [hrow]
            exact s79 _ _ el7
          · rw [hdr]
            exact rp8
          · rw [hdr,List.length_append]
            have:=S6.pl
            omega
          · cases e:H lz with
            | none=>rfl
            | some u =>
              by_cases hb:lz=l
              · rw [hb,s8 _ _ el7] at hlz
                cases hlz
              · have z5:=C5.old lz u e hb
                rw [s8 _ _ (o67 _ _ (S6.old lz u z5 hb) (ne_of_none z5 S6.nc) (ne_of_none e hc0))] at hlz
                cases hlz
          · rw [List.drop_eq_getElem_cons hil]
            show RowsAre H9 (us'++rs) ((rws m ds[i] ((ws.drop (nlS m ds i)).take (nl m ds[i]))).map (fun r=>(((i:Nat):Int) :: r.1,r.2))++rwsL (rws m) (nl m) (ds.drop (i+1)) (i+1) ((ws.drop (nlS m ds i)).drop (nl m ds[i])))
            rw [hseg,List.drop_drop,← hns,hrest]
            exact (h8.same s9).app (rw7'.same s79)
    · rintro σ H5 ⟨v4,v5,v6,v7,v8,lr',ps,rs,rfl,C5⟩
      have ez:ds.length - vs.length=0:=by omega
      rw [ez] at C5
      have e0':nlS m ds 0=0:=rfl
      have hel:=C5.el
      have hrp:=C5.rp
      have hpl:=C5.pl
      have hrw:=C5.rw_
      rw [e0',List.take_zero,List.append_nil] at hel
      rw [e0',List.drop_zero] at hrp hpl
      rw [e0',List.drop_zero,List.drop_zero] at hrw
      refine ⟨_,rfl,c,_,rfl,C5.ec,fun lk hlk=>?_⟩
      have evs:(ps.map kvE).map (fun kv=>kV kv.1)=(ps.map (·.1)).map V.str:=by rw [List.map_map,List.map_map]; rfl
      rw [evs]
      have s2:=same_new hlk (.lst ((ps.map (·.1)).map V.str))
      have e2:(upd H5 lk (.lst ((ps.map (·.1)).map V.str))) lk=some (.lst ((ps.map (·.1)).map V.str)):=upd_same
      generalize upd H5 lk (.lst ((ps.map (·.1)).map V.str))=H2 at s2 e2 ⊢
      refine ⟨lk,_,(ps.map (·.1)).map D.str,rfl,.inl (SqL.of e2),denS_of _ _,str_hom _,by rw [List.length_map,List.length_map]; omega,fun d hd=>?_,fun ls us2 ds' hls pm up D2=>?_⟩
      · obtain ⟨x,_,rfl⟩:=List.mem_map.mp hd
        exact ⟨(fun z=>nomatch z),fun _ z=>nomatch z⟩
      obtain ⟨xs,rfl,hxp⟩:=perm_strs pm
      have eus:=denS D2
      subst eus
      have s3:=same_new hls (.lst (xs.map V.str))
      have e3:(upd H2 ls (.lst (xs.map V.str))) ls=some (.lst (xs.map V.str)):=upd_same
      generalize upd H2 ls (.lst (xs.map V.str))=H3 at s3 e3 ⊢
      have s53:=s2.trans s3
      refine ⟨ls,rfl,⟨_,SqL.of e3⟩,fun lc hlc=>mine_walk e3 (s53 _ _ C5.ec) hrp (fun w hw=>by rw [← hrp.mem]; exact hxp.mem_iff.mp hw) (by have:=hxp.length_eq; rw [List.length_map] at this; omega) hlc fun H4 rs4 s4 e4 D4=>?_⟩
      refine ⟨lc,_,rfl,.inl ⟨SqL.of e4,fun tm htm=>gN ?_⟩⟩
      have s5':=same_new htm (.tup rs4)
      have em:(upd H4 tm (.tup rs4)) tm=some (.tup rs4):=upd_same
      have D5:=D4.same s5'
      generalize upd H4 tm (.tup rs4)=H6 at s5' em D5 ⊢
      have s56:=(s53.trans s4).trans s5'
      refine ⟨_,rfl,smn 0,fun t0 ht0=>?_⟩
      have sa:=same_new ht0 (.tup [])
      have ea:(upd H6 t0 (.tup [])) t0=some (.tup []):=upd_same
      generalize upd H6 t0 (.tup [])=H7 at sa ea ⊢
      refine ⟨_,rfl,smn 2,fun t1 ht1=>?_⟩
      have sb:=same_new ht1 (.tup [.ref t0,.ref tm])
      have eb:(upd H7 t1 (.tup [.ref t0,.ref tm])) t1=some (.tup [.ref t0,.ref tm]):=upd_same
      generalize upd H7 t1 (.tup [.ref t0,.ref tm])=H8 at sb eb ⊢
      refine ⟨smn 1,fun l1 hl1=>?_⟩
      have sc:=same_new hl1 (.lst [.ref t1])
      have ec1:(upd H8 l1 (.lst [.ref t1])) l1=some (.lst [.ref t1]):=upd_same
      generalize upd H8 l1 (.lst [.ref t1])=H9 at sc ec1 ⊢
      have s69:=(sa.trans sb).trans sc
      have s59:=s56.trans s69
      have hrl:=hrw.len
      have hrl2:=rwsL_len m ds 0 ws
      refine ⟨_,rfl,l1,lr',_,rs,rfl,rfl,ec1,s59 _ _ C5.er,by rw [sizeLine_eq]; show 1+rs.length≤_; omega,fun lz hlz=>?_⟩
      have sd:=same_new hlz (.lst ([.ref t1]++rs))
      have ed:(upd H9 lz (.lst ([.ref t1]++rs))) lz=some (.lst ([.ref t1]++rs)):=upd_same
      generalize upd H9 lz (.lst ([.ref t1]++rs))=HA at sd ed ⊢
      refine ⟨smn 2,fun tt htt=>?_⟩
      have se:=same_new htt (.tup [.ref c,.ref lz])
      have ee:(upd HA tt (.tup [.ref c,.ref lz])) tt=some (.tup [.ref c,.ref lz]):=upd_same
      generalize upd HA tt (.tup [.ref c,.ref lz])=HB at se ee ⊢
      have s9B:=sd.trans se
      have s5B:=s59.trans s9B
      have s6B:=s69.trans s9B
      refine kk tt c lz ps ([.ref t1]++rs) HB (fun b u z hb=>s5B _ _ (C5.old b u z hb)) (s5B _ _ hel) ee (s5B _ _ C5.ec) hrp hpl (se _ _ ed) ?_ hc0 ?_
      · show RowsAre HB ([.ref t1]++rs) ([([],cntW ws)]++rwsL (rws m) (nl m) ds 0 ws)
        refine RowsAre.app ⟨⟨_,⟨tal_words hrp hxp up,by rw [List.length_map,hxp.length_eq,List.length_map]; omega⟩,?_⟩,trivial⟩ (hrw.same s5B)
        exact ⟨t1,_,rfl,s9B _ _ (sc _ _ eb),⟨t0,[],rfl,s9B _ _ (sc _ _ (sb _ _ ea)),trivial⟩,⟨tm,rs4,rfl,s6B _ _ em,D5.same s6B⟩,trivial⟩
      · cases e:H lz with
        | none=>rfl
        | some u =>
          by_cases hb:lz=l
          · rw [hb,s59 _ _ hel] at hlz
            cases hlz
          · rw [s59 _ _ (C5.old lz u e hb)] at hlz
            cases hlz
end
noncomputable def spLaw (K:PySem.W.Frag):Sp:=fun vs H Q _=>∃ (a:Addr) (ns:List Int),vs=[.ref a]∧SqL K H a (ns.map V.int)∧ns.length≤63∧∀ H',Q (.bl true) H'
section
open M08
variable {P:Program} {w:World} {K:PySem.W.Frag} {mg:Str→Option Value} {base:Heap}
theorem shal_le {n m:Nat} {d:D} (h:Shal n d) (hnm:n≤m):Shal m d:=by
  induction hnm with
  | refl=>exact h
  | step _ ih=>exact ih.up
theorem cut_from12 (xs:List V) (k:Nat):cutV xs (some (k:Int)) none=xs.drop k:=by
  unfold cutV
  rw [HT.sIx_none,HT.sIx_nat]
  by_cases h:k≤xs.length
  · rw [Nat.min_eq_left h,List.take_of_length_le]
    rw [List.length_drop]
    omega
  · rw [Nat.min_eq_right (by omega),List.drop_length,List.drop_eq_nil_of_le (by omega),List.take_nil]
theorem cut_one12 (xs:List V) (k:Nat) (h:k≤xs.length):(cutV xs (some (k:Int)) (some (((k+1:Nat)):Int))).length=if k < xs.length then 1 else 0:=by
  unfold cutV
  rw [HT.sIx_nat,HT.sIx_nat,List.length_take,List.length_drop]
  split <;> omega
theorem tal_nil {ds:List D} (h:TalD (cntW []) ds):ds=[]:=by
  obtain ⟨ps,pm,rp⟩:=h.ex
  have:ps=[]:=by
    rcases ps with _ | ⟨p,ps⟩
    · rfl
    · have:=(rp.mem p.1).mp (by simp)
      exact absurd this (by unfold cntW; simp)
  rw [this] at pm
  exact List.perm_nil.mp pm
theorem scLaw:FnScope ["_law_script", "_law_seed_here", "_law_left", "_law_k", "_law_cell", "_law_pot_here", "_law_text_here", "_law_tree", "_law_words_here", "_law_turn", "_law_at"] ["_law_script"] (defScope sLaw):=⟨rfl,rfl,rfl,by decide +kernel,rfl,by decide +kernel,by decide +kernel⟩
theorem ok_law {f:Addr} {fd:FuncData} (F:Fun K "law" "law" sLaw f fd) (C_seed:Cal P w K mg base "_law_seed" 1 ["_law_script"] (spSeed K)) (C_pot:Cal P w K mg base "_law_pot" 1 ["_law_cell", "_law_seed_here"] spPot) (C_text:Cal P w K mg base "_law_text" 2 ["_law_pot_here"] spText) (C_cut_up:Cal P w K mg base "cut_up" 7 ["text", "rules"] (spCut 5)) (C_rules:Cal P w K mg base "_law_rules" 3 ["_law_pot_here", "_law_text_here", "_law_many"] spRules) (C_take:Cal P w K mg base "_law_take" 1 ["_law_pot_here", "_law_many"] spTake) (C_words:Cal P w K mg base "_law_words" 2 ["_law_pot_here", "_law_told"] spLWords) (C_leaves:Cal P w K mg base "leaves" 8 ["tree"] spLeaves) (C_same:Cal P w K mg base "_law_same" 9 ["_law_told", "_law_due"] (spSame 9)) (C_counted:Cal P w K mg base "_law_counted" 7 ["_law_tree", "_law_row"] (spCounted 7)) (C_tally:Cal P w K mg base "tally" 9 ["tree", "words"] spTally) (m_enumerate:mg "enumerate" = none) (m_max:mg "max" = none) (m_len:mg "len" = none) (m_range:mg "range" = none) (m_tuple:mg "tuple" = none) (m_list:mg "list" = none):FnOk P w K mg base CX0 11 f fd ["_law_script"] (spLaw K):=by
  refine F.ok scLaw (fun vs H Q E hs=>?_) (fun cdv A outer s H vs Q E hr hs=>?_)
  · obtain ⟨a,ns,rfl,_⟩:=hs
    rfl
  obtain ⟨a,ns,rfl,hS,h63,k⟩:=hs
  refine ⟨_,(pss_cons (ps_set (i:=1) scLaw.nd rfl (Or.inl rfl) (pe_cal C_seed hr (by decide) rfl (pa_cons (pv 0) pa_nil)))
    (pss_cons (ps_set (i:=2) scLaw.nd rfl (Or.inl rfl) pe_int)
    (pss_cons (ps_for PassesOwn.never rfl (pi_enum rfl m_enumerate (pa_cons (pe_op op_cat (pe_lst (pa_cons pe_int (pa_cons pe_int pa_nil))) (pe_slice sl_list (pv 0) po_none (po_some pe_int))) pa_nil)) (pg_tup rfl (pgs_cons (pg_name (i:=3) scLaw.nd rfl (Or.inl rfl)) (pgs_cons (pg_name (i:=4) scLaw.nd rfl (Or.inl rfl)) pgs_nil)))
      (pss_cons (ps_set (i:=5) scLaw.nd rfl (Or.inl rfl) (pe_cal C_pot hr (by decide) rfl (pa_cons (pv 4) (pa_cons (pe_op op_add (pv 1) (pe_op op_mul pe_int (pv 3))) pa_nil))))
    (pss_cons (ps_set (i:=6) scLaw.nd rfl (Or.inl rfl) (pe_slice sl_str (pe_cal C_text hr (by decide) rfl (pa_cons (pv 5) pa_nil)) po_none (po_some (pe_callB (call_max2 rfl) rfl m_max boot_max (pa_cons pe_int (pa_cons (pv 2) pa_nil))))))
    (pss_cons (ps_set (i:=2) scLaw.nd rfl (Or.inl rfl) (pe_op op_sub (pv 2) (pe_callB call_len_str rfl m_len PySem.boot_len (pa_cons (pv 6) pa_nil))))
    (pss_cons (ps_set (i:=7) scLaw.nd rfl (Or.inl rfl) (pe_cal C_cut_up hr (by decide) rfl (pa_cons (pv 6) (pa_cons (pe_cal C_rules hr (by decide) rfl (pa_cons (pv 5) (pa_cons (pv 6) (pa_cons (pe_op op_add pe_int (pe_cal C_take hr (by decide) rfl (pa_cons (pv 5) (pa_cons pe_int pa_nil)))) pa_nil)))) pa_nil))))
    (pss_cons (ps_set (i:=8) scLaw.nd rfl (Or.inl rfl) (pe_cal C_words hr (by decide) rfl (pa_cons (pv 5) (pa_cons (pe_cal C_leaves hr (by decide) rfl (pa_cons (pv 7) pa_nil)) pa_nil))))
    (pss_one (ps_for PassesOwn.never rfl (pi_range1 rfl m_range (pa_cons pe_int pa_nil)) (pg_name (i:=9) scLaw.nd rfl (Or.inl rfl))
      (pss_cons (ps_if (pt_not (pt_val (pe_cal C_same hr (by decide) rfl (pa_cons (pe_cal C_tally hr (by decide) rfl (pa_cons (pv 7) (pa_cons (pv 8) pa_nil))) (pa_cons (pe_callTy call_tuple_of rfl m_tuple boot_tuple (pa_cons (pe_ix ix_tup (pe_cal C_counted hr (by decide) rfl (pa_cons (pv 7) (pa_cons (pe_callTy call_list_of rfl m_list boot_list (pa_cons (pv 8) pa_nil)) pa_nil))) pe_int (fun _ _=>rfl)) pa_nil)) pa_nil)))))
      (pss_one (ps_ret pe_bl))
      pss_nil)
    (pss_cons (ps_set (i:=10) scLaw.nd rfl (Or.inl rfl) (pe_cal C_take hr (by decide) rfl (pa_cons (pv 5) (pa_cons (pe_op op_add (pe_callB call_len_seq rfl m_len PySem.boot_len (pa_cons (pv 8) pa_nil)) pe_int) pa_nil))))
    (pss_one (ps_set (i:=8) scLaw.nd rfl (Or.inl rfl) (pe_op op_catT2 (pe_op op_catT2 (pe_slice sl_tupW (pv 8) po_none (po_some (pv 10))) (pe_op op_rep01 (pe_tup (pa_cons pe_str pa_nil)) (pe_callB call_len_seq rfl m_len PySem.boot_len (pa_cons (pe_slice sl_tupW (pv 8) (po_some (pv 10)) (po_some (pe_op op_add (pv 10) pe_int))) pa_nil)))) (pe_slice sl_tupW (pv 8) (po_some (pe_op op_add (pv 10) pe_int)) po_none))))))))))))))
    (pss_one (ps_ret (pe_cmpR (op_eqDt hr.units) (pe_cal C_tally hr (by decide) rfl (pa_cons (pe_tup pa_nil) (pa_cons (pe_tup pa_nil) pa_nil))) (pe_tup (pa_cons (pe_tup (pa_cons (pe_tup pa_nil) (pa_cons (pe_tup pa_nil) pa_nil))) pa_nil)) (nomark _))))))),?_⟩
  refine ⟨_,rfl,a,ns,rfl,hS,fun z H1 s1=>?_⟩
  refine ⟨smn 2,fun l1 hl1=>?_⟩
  have hS1:=(same_new hl1 (.lst [.int 3,.int 4])).seq (s1.seq hS)
  refine ⟨_,rfl,_,rfl,a,_,rfl,hS1,fun l2 hl2=>?_⟩
  obtain ⟨ms0,em0,hms0⟩:=cutV_ints ns none (some 61)
  rw [em0]
  have npl:l1≠l2:=ne_of_none upd_same hl2
  refine ⟨l1,l2,[.int 3,.int 4],ms0.map V.int,rfl,rfl,Eq.trans (upd_ne npl) upd_same,upd_same,(by rw [List.length_map]; exact small (by show 2+ms0.length≤1000; omega)),fun l3 hl3=>?_⟩
  have ecat:([.int 3,.int 4]:List V)++ms0.map V.int=(3 :: 4 :: ms0).map V.int:=rfl
  rw [ecat]
  refine ⟨l3,rfl,⟨_,SqL.of upd_same⟩,?_⟩
  have hmlen:(3 :: 4 :: ms0).length≤65:=by simp only [List.length_cons]; omega
  generalize 3 :: 4 :: ms0=ms3 at hmlen
  refine for_enum (K:=K) (a:=l3) (xs:=ms3.map V.int) (fun i σ H2=>∃ (lf:Int) (v3 v4 v5 v6 v7 v8 v9 v10:Option V),σ=[some (.ref a),some (.int z),some (.int lf),v3,v4,v5,v6,v7,v8,v9,v10]∧lf≤9000∧H2 l3=some (.lst (ms3.map V.int)))
    ⟨6000,_,_,_,_,_,_,_,_,rfl,by decide,upd_same⟩ ?_ ?_ ?_
  · rintro i σ H2 _ ⟨lf,v3,v4,v5,v6,v7,v8,v9,v10,_,_,e⟩
    exact SqL.of e
  · rintro i y t σ H2 hi ⟨lf,v3,v4,v5,v6,v7,v8,v9,v10,rfl,hlf,el3⟩ ht
    obtain ⟨c,rfl⟩:=map_int_at hi
    have nt:l3≠t:=ne_of_none el3 ht
    have q1:(upd H2 t (.tup [.int (i:Nat),.int c])) l3=some (.lst (ms3.map V.int)):=(upd_ne nt).trans el3
    refine ⟨t,_,rfl,SqT.of upd_same,rfl,_,_,rfl,_,_,rfl,rfl,?_⟩
    refine ⟨_,rfl,_,rfl,_,rfl,_,_,rfl,rfl,.inl ⟨by decide,by decide⟩,_,_,rfl,rfl,_,_,rfl,fun p a0 b0 hp=>?_⟩
    have n3p:l3≠p:=ne_of_none q1 hp
    refine ⟨_,rfl,p,a0,b0,rfl,upd_same,fun x H3 hx hP=>?_⟩
    refine ⟨_,rfl,_,_,rfl,_,rfl,x,rfl,small (by omega),?_⟩
    obtain ⟨m,em⟩:∃ m:Nat,(if lf > 12 then lf else 12)=(m:Int):=⟨(if lf > 12 then lf else 12).toNat,by split <;> omega⟩
    rw [em,SLi.upto]
    have hxl:x.cps.toList.length=x.length:=by simp [Str.length]
    obtain ⟨tt,ett⟩:∃ tt,tt=x.cps.toList.take m:=⟨_,rfl⟩
    have htt:tt.length≤400:=by
      rw [ett,List.length_take]
      omega
    rw [← ett]
    have hz:(⟨tt.toArray⟩:Str).length≤sizeLine:=small (by rw [lenT]; omega)
    refine ⟨_,rfl,_,rfl,_,rfl,hz,_,_,rfl,rfl,?_⟩
    have e3':H3 l3=some (.lst (ms3.map V.int)):=hP.old l3 _ ((upd_ne n3p).trans q1) n3p
    have hlf2:lf - ((⟨tt.toArray⟩:Str).length:Nat)≤9000:=by
      have:(0:Int)≤(((⟨tt.toArray⟩:Str).length:Nat):Int):=Int.natCast_nonneg _
      omega
    refine ⟨_,rfl,_,rfl,_,rfl,?_⟩
    refine draw (σ:=[some (.ref a),some (.int z),some (.int (lf - ((⟨tt.toArray⟩:Str).length:Nat))),some (.int (i:Nat)),some (.int c),some (.ref p),some (mkT tt),v7,v8,v9,v10]) (i:=5) (H:=H3) (m:=5) rfl hP (by decide) (by decide) fun lv H4 r0 r1 P4 s4=>?_
    refine ⟨_,_,rfl,rfl,?_⟩
    obtain ⟨ln,eln⟩:∃ ln:Nat,1+lv=(ln:Int):=⟨(1+lv).toNat,by omega⟩
    obtain ⟨a1,b1,e1⟩:=id P4.at_
    refine ⟨p,⟨tt.toArray⟩,ln,a1,b1,(by show [V.ref p,V.str ⟨tt.toArray⟩,V.int (1+lv)]=_; rw [eln]),e1,by rw [lenT]; omega,by omega,fun q ls H5 P5 d5 ok5 hll=>?_⟩
    have e43:H4 l3=some (.lst (ms3.map V.int)):=s4 l3 _ e3' n3p
    have e53:H5 l3=some (.lst (ms3.map V.int)):=P5.old l3 _ e43 n3p
    have hln:ls≠[]:=fun z=>by rw [z] at hll; simp at hll; omega
    have hl5:ls.length≤5:=by omega
    refine ⟨tt,_,ls,rfl,d5,hln,hl5,ok5,by omega,fun q6 H6 s6 d6=>?_⟩
    have htr:=tr_tree ls tt
    have hcn:cntN ls.length (treeD ls tt)≤100000:=by
      have h1:=cnt_tree ls tt
      have h2:ls.length * tt.length≤5 * 400:=Nat.mul_le_mul hl5 htt
      omega
    have e63:=s6 _ _ e53
    generalize hT:treeD ls tt=T at d6 htr hcn
    obtain ⟨m,hm⟩:∃ m,ls.length=m+1:=⟨ls.length - 1,by have:=List.length_pos_iff.mpr hln; omega⟩
    have htr':Tr (m+1) T:=hm ▸ htr
    have hcn':cntN (m+1) T≤100000:=hm ▸ hcn
    obtain ⟨a5,b5,e5⟩:=id P5.at_
    refine ⟨_,rfl,_,rfl,_,m+1,T,rfl,d6,by omega,htr',hcn',fun q7 H7 s7 d7=>?_⟩
    obtain ⟨q7',dvs,eq,e7q,d7'⟩:=den_tup d7
    injection eq with eq
    subst eq
    have hcnl:=lvs_cnt (m+1) [] T
    have e7p:=s7 _ _ (s6 _ _ e5)
    refine ⟨p,q7,a5,b5,dvs,lvs (m+1) [] T,rfl,e7p,e7q,d7',by omega,fun q8 ws H8 P8 e8 hw=>?_⟩
    rw [lvs_len] at hw
    have k78:∀ (b:Addr) (vs:List V),H7 b=some (.tup vs)→H8 b=some (.tup vs):=fun b vs e=>P8.old b _ e (ne_of e e7p (by intro z; cases z))
    have d8:=(d6.same s7).keepT k78
    have e83:H8 l3=some (.lst (ms3.map V.int)):=P8.old _ _ (s7 _ _ e63) n3p
    have p8:=P8.at_
    have hwl:nl (m+1) T≤100000:=Nat.le_trans (nl_cnt _ _) hcn'
    refine ⟨2,rfl,by decide,by decide,?_⟩
    refine for_range (lo:=0) (n:=2) (fun j σ H9=>∃ (v9 v10:Option V) (q9:Addr) (ws:List Str),σ=[some (.ref a),some (.int z),some (.int (lf - ((⟨tt.toArray⟩:Str).length:Nat))),some (.int (i:Nat)),some (.int c),some (.ref p),some (mkT tt),some (.ref q6),some (.ref q9),v9,v10]∧H9 q9=some (.tup (ws.map V.str))∧ws.length=nl (m+1) T∧(∃ a b:Int,H9 p=some (.lst [.int a,.int b]))∧Den H9 (.ref q6) T∧H9 l3=some (.lst (ms3.map V.int)))
      ⟨_,_,q8,ws,rfl,e8,hw,p8,d8,e83⟩ ?_ ?_
    · rintro j σ H9 hj ⟨v9',v10',q9,ws',rfl,e9,hw9,⟨ap,bp,ep⟩,d9,e93⟩
      refine ⟨_,rfl,_,rfl,.ref q6,q9,m,T,ws',rfl,d9,by omega,htr',hcn',e9,hw9,fun qt ut Ha sa ea ra=>?_⟩
      refine ⟨_,rfl,_,rfl,q9,_,rfl,.inr (SqT.of (sa _ _ e9)),fun lw hlw=>?_⟩
      have sw:=same_new hlw (.lst (ws'.map V.str))
      have ew:(upd Ha lw (.lst (ws'.map V.str))) lw=some (.lst (ws'.map V.str)):=upd_same
      generalize upd Ha lw (.lst (ws'.map V.str))=Hw at sw ew ⊢
      have s9w:=sa.trans sw
      refine ⟨.ref q6,lw,m,T,[],ws',rfl,d9.same s9w,⟨by show m≤6; omega,by omega⟩,htr',hcn',ew,hw9,fun t' c' lr' ps' rs' Hb ob elb etb ecb rpb plb erb rwb ncb nlb=>?_⟩
      refine ⟨t',_,_,_,rfl,rfl,SqT.of etb,atI_nat (xs:=[V.ref c',V.ref lr']) (j:=1) rfl,lr',rs',rfl,.inl ⟨SqL.of erb,fun r' hr'=>?_⟩⟩
      have sr:=same_new hr' (.tup rs')
      have er:(upd Hb r' (.tup rs')) r'=some (.tup rs'):=upd_same
      have rwc:=rwb.same sr
      generalize upd Hb r' (.tup rs')=Hc at sr er rwc ⊢
      have nwl:∀ b u,H9 b=some u→b≠lw:=fun b u z=>ne_of_none (sa _ _ z) hlw
      have o9c:∀ b u,H9 b=some u→Hc b=some u:=fun b u z=>sr _ _ (ob b u (s9w _ _ z) (nwl b u z))
      have kac:∀ (b:Addr) (vs:List V),Ha b=some (.tup vs)→Hc b=some (.tup vs):=fun b vs z=>sr _ _ (ob.tup ew b vs (sw _ _ z))
      obtain ⟨ds,D1,D2,hsh⟩:=RowsAre.det (ra.keepT kac) rwc fun r hr=>by have:=rws_path r hr; omega
      have hdl:ds.length≤100000:=by
        have h1:=D1.len
        have h2:=ra.len
        have h3:=rws_len (m+1) T ws'
        omega
      have hS4:Shal 4 (.tup ds):=⟨(fun z=>nomatch z),fun es e=>by cases e; exact ⟨hdl,hsh⟩⟩
      refine ⟨.ref qt,.ref r',.tup ds,rfl,⟨qt,ut,rfl,kac _ _ ea,D1⟩,⟨r',rs',rfl,er,D2⟩,shal_le hS4 (by decide),fun Hs ss=>⟨_,rfl,iteF ?_⟩⟩
      have o9s:∀ b u,H9 b=some u→Hs b=some u:=fun b u z=>ss _ _ (o9c b u z)
      have eps:=o9s _ _ ep
      have e9s:=o9s _ _ e9
      refine ⟨_,rfl,_,rfl,q9,_,rfl,.inr (SqT.of e9s),_,_,rfl,rfl,p,_,ap,bp,rfl,eps,by rw [List.length_map]; omega,by rw [List.length_map]; omega,fun rr a2 b2 rr0 rr1=>gN ?_⟩
      obtain ⟨r2,rfl⟩:=Int.eq_ofNat_of_zero_le rr0
      have hr2:r2≤ws'.length:=by rw [List.length_map] at rr1; omega
      have nqp:q9≠p:=ne_of e9 ep (by intro z; cases z)
      have ke:∀ (b:Addr) (vs:List V),Hs b=some (.tup vs)→(upd Hs p (.lst [.int a2,.int b2])) b=some (.tup vs):=fun b vs z=>by rw [upd_ne (ne_of z eps (by intro y; cases y))]; exact z
      have e9e:=ke _ _ e9s
      have ee3:(upd Hs p (.lst [.int a2,.int b2])) l3=some (.lst (ms3.map V.int)):=(upd_ne n3p).trans (o9s _ _ e93)
      have de:Den (upd Hs p (.lst [.int a2,.int b2])) (.ref q6) T:=(d9.keepT fun b vs z=>o9s _ _ z).keepT ke
      have epe:(upd Hs p (.lst [.int a2,.int b2])) p=some (.lst [.int a2,.int b2]):=upd_same
      generalize upd Hs p (.lst [.int a2,.int b2])=He at e9e ee3 de epe ⊢
      refine ⟨_,rfl,_,rfl,_,rfl,q9,_,rfl,e9e,fun qa Hf sf ef=>?_⟩
      refine ⟨smn 1,fun to hto=>?_⟩
      have sg:=same_new hto (.tup [.str "other"])
      have eg:(upd Hf to (.tup [.str "other"])) to=some (.tup [.str "other"]):=upd_same
      generalize upd Hf to (.tup [.str "other"])=Hg at sg eg ⊢
      have seg:=sf.trans sg
      refine ⟨_,rfl,_,rfl,_,rfl,_,rfl,_,_,rfl,rfl,_,rfl,q9,_,rfl,seg _ _ e9e,fun qb Hh sh eh=>⟨qb,_,rfl,.inr (SqT.of eh),to,.str "other",_,rfl,rfl,SqT.of (sh _ _ eg),?_⟩⟩
      have seh:=seg.trans sh
      have hk1:(cutV (ws'.map V.str) (some ((r2:Nat):Int)) (some (((r2:Nat):Int)+1))).length=if r2 < ws'.length then 1 else 0:=by
        have:=cut_one12 (ws'.map V.str) r2 (by rw [List.length_map]; exact hr2)
        rw [List.length_map] at this
        exact this
      by_cases hlt:r2 < ws'.length
      case' pos =>
        rw [if_pos hlt] at hk1
        refine .inr ⟨hk1,?_⟩
        obtain ⟨ys,hys,hyl,etx⟩:∃ ys:List Str,[V.str "other"]=ys.map V.str∧ys.length=ws'.length - r2 - (ws'.length - (r2+1))∧Hh to=some (.tup (ys.map V.str)):=⟨["other"],rfl,by show 1=_; omega,sh _ _ eg⟩
        obtain ⟨tx,htx⟩:∃ tx,tx=to:=⟨_,rfl⟩
        obtain ⟨Hx,hHx⟩:∃ Hx,Hx=Hh:=⟨_,rfl⟩
        have sx:Same Hh Hx:=by rw [hHx]; exact Same.refl _
        rw [← htx,← hHx] at etx
        rw [← htx,← hHx]
      case' neg =>
        rw [if_neg hlt] at hk1
        refine .inl ⟨hk1,fun tx htx=>?_⟩
        obtain ⟨ys,hyl,etx⟩:∃ ys:List Str,ys.length=ws'.length - r2 - (ws'.length - (r2+1))∧(upd Hh tx (.tup [])) tx=some (.tup (ys.map V.str)):=⟨[],by show 0=_; omega,upd_same⟩
        have sx:=same_new htx (.tup [])
        generalize upd Hh tx (.tup [])=Hx at sx etx ⊢
      all_goals
        have sex:=seh.trans sx
        have hta:cutV (ws'.map V.str) none (some ((r2:Nat):Int))=(ws'.take r2).map V.str:=by rw [cut12,List.map_take]
        have htb:cutV (ws'.map V.str) (some (((r2:Nat):Int)+1)) none=(ws'.drop (r2+1)).map V.str:=by rw [show ((r2:Nat):Int)+1=((r2+1:Nat):Int) from rfl,cut_from12,List.map_drop]
        rw [hta] at ef
        refine ⟨qa,tx,_,_,rfl,rfl,sx _ _ (sh _ _ (sg _ _ ef)),etx,?_,fun qc Hi si ei=>?_⟩
        · rw [List.length_map,List.length_map,List.length_take,sizeLine_eq]
          omega
        refine ⟨_,rfl,_,rfl,_,_,rfl,rfl,_,rfl,q9,_,rfl,si _ _ (sex _ _ e9e),fun qd Hj sj ej=>?_⟩
        rw [htb] at ej
        refine ⟨qc,qd,_,_,rfl,rfl,sj _ _ ei,ej,?_,fun qe Hk sk ek=>gN ?_⟩
        · rw [List.length_append,List.length_map,List.length_map,List.length_map,List.length_take,List.length_drop,sizeLine_eq]
          omega
        have sek:=((sex.trans si).trans sj).trans sk
        refine ⟨_,_,qe,ws'.take r2++ys++ws'.drop (r2+1),rfl,?_,?_,⟨_,_,sek _ _ epe⟩,de.same sek,sek _ _ ee3⟩
        · rw [List.map_append,List.map_append]
          exact ek
        · rw [List.length_append,List.length_append,List.length_take,List.length_drop,hyl,← hw9]
          omega
    · rintro σ H9 ⟨v9',v10',q9,ws',rfl,e9,hw9,_,d9,e93⟩
      exact ⟨_,_,_,_,_,_,_,_,_,rfl,hlf2,e93⟩
  · rintro σ H2 ⟨lf,v3,v4,v5,v6,v7,v8,v9,v10,rfl,hlf,el3⟩
    refine ⟨smn 0,fun t0 ht0=>?_⟩
    have s0:=same_new ht0 (.tup [])
    have e0:(upd H2 t0 (.tup [])) t0=some (.tup []):=upd_same
    generalize upd H2 t0 (.tup [])=H3 at s0 e0 ⊢
    refine ⟨smn 0,fun t1 ht1=>?_⟩
    have s1':=same_new ht1 (.tup [])
    have e1:(upd H3 t1 (.tup [])) t1=some (.tup []):=upd_same
    generalize upd H3 t1 (.tup [])=H4 at s1' e1 ⊢
    refine ⟨.ref t0,t1,0,.tup [],[],rfl,⟨t0,[],rfl,s1' _ _ e0,trivial⟩,by decide,⟨[],rfl,fun e h=>nomatch h⟩,by decide,e1,rfl,fun q us H5 s5 e5 r5=>?_⟩
    obtain ⟨u,ds,hus,htl,hdu⟩:∃ (u:V) (ds:List D),us=[u]∧TalD (cntW []) ds∧Den H5 u (.tup [pathD [],.tup ds]):=by
      match us,r5 with
      | [u],r=>obtain ⟨ds,⟨a,_⟩,b⟩:=r.1; exact ⟨u,ds,rfl,a,b⟩
      | [],r=>exact r.elim
      | _ :: _ :: _,r=>exact r.2.elim
    have hds:=tal_nil htl
    rw [hds] at hdu htl
    rw [hus] at e5
    refine ⟨smn 0,fun u0 hu0=>?_⟩
    have sa:=same_new hu0 (.tup [])
    have ea:(upd H5 u0 (.tup [])) u0=some (.tup []):=upd_same
    generalize upd H5 u0 (.tup [])=H6 at sa ea ⊢
    refine ⟨smn 0,fun u1 hu1=>?_⟩
    have sb:=same_new hu1 (.tup [])
    have eb:(upd H6 u1 (.tup [])) u1=some (.tup []):=upd_same
    generalize upd H6 u1 (.tup [])=H7 at sb eb ⊢
    refine ⟨smn 2,fun u2 hu2=>?_⟩
    have sc:=same_new hu2 (.tup [.ref u0,.ref u1])
    have ec:(upd H7 u2 (.tup [.ref u0,.ref u1])) u2=some (.tup [.ref u0,.ref u1]):=upd_same
    generalize upd H7 u2 (.tup [.ref u0,.ref u1])=H8 at sc ec ⊢
    refine ⟨smn 1,fun u3 hu3=>?_⟩
    have sd:=same_new hu3 (.tup [.ref u2])
    have ed:(upd H8 u3 (.tup [.ref u2])) u3=some (.tup [.ref u2]):=upd_same
    generalize upd H8 u3 (.tup [.ref u2])=H9 at sd ed ⊢
    have s59:=((sa.trans sb).trans sc).trans sd
    have hsh:Shal 4 (.tup [.tup [pathD [],.tup []]]):=⟨(fun z=>nomatch z),fun es e=>by
      cases e
      exact ⟨by show 1≤100000; decide,fun d hd=>by rw [List.mem_singleton.mp hd]; exact shal_row (r:=([],cntW [])) (Nat.zero_le _) htl (Nat.zero_le _)⟩⟩
    refine ⟨[.tup [pathD [],.tup []]],[.tup [pathD [],.tup []]],3,⟨q,[u],rfl,s59 _ _ e5,hdu.same s59,trivial⟩,⟨u3,[.ref u2],rfl,ed,⟨u2,_,rfl,sd _ _ ec,⟨u0,[],rfl,sd _ _ (sc _ _ (sb _ _ ea)),trivial⟩,⟨u1,[],rfl,sd _ _ (sc _ _ eb),trivial⟩,trivial⟩,trivial⟩,hsh,hsh,by decide,SimL_c (Sim_t (SimL_c (Sim_t (SimL_n _)) (SimL_c (Sim_t (SimL_n _)) (SimL_n _)))) (SimL_n _),?_⟩
    rw [eqD_self]
    exact k _
end
theorem all_mk {l:PySem.W.OpenLaw} {w:World} {K:PySem.W.Frag} {h:Heap} {mg:Str→Option Value} {fa f1 f2 f3 f4 f5 f6 f7 f8 f9 f10 f11 f12 f13 f14 f15 f16 f17:Addr} (X:K.In h) (G:h.Ns mainGlobals mg) (hfa:mg "law" = some (.ref fa))
    {od1 an1 od2 an2 od3 an3 od4 an4 od5 an5 od6 an6 od7 an7 od8 an8 od9 an9 od10 an10 od11 an11 od12 an12 od13 an13 od14 an14 od15 an15 od16 an16 od17 an17:Option Addr} {sl1 sl2 sl3 sl4 sl5 sl6 sl7 sl8 sl9 sl10 sl11 sl12 sl13 sl14 sl15 sl16 sl17:Array (Option Value)} {oc1 kV1 dc1 pm1 cd1 ct1 oc2 kV2 dc2 pm2 cd2 ct2 oc3 kV3 dc3 pm3 cd3 ct3 oc4 kV4 dc4 pm4 cd4 ct4 oc5 kV5 dc5 pm5 cd5 ct5 oc6 kV6 dc6 pm6 cd6 ct6 oc7 kV7 dc7 pm7 cd7 ct7 oc8 kV8 dc8 pm8 cd8 ct8 oc9 kV9 dc9 pm9 cd9 ct9 oc10 kV10 dc10 pm10 cd10 ct10 oc11 kV11 dc11 pm11 cd11 ct11 oc12 kV12 dc12 pm12 cd12 ct12 oc13 kV13 dc13 pm13 cd13 ct13 oc14 kV14 dc14 pm14 cd14 ct14 oc15 kV15 dc15 pm15 cd15 ct15 oc16 kV16 dc16 pm16 cd16 ct16 oc17 kV17 dc17 pm17 cd17 ct17:Value}
    (a1:PySem.W.nsIn K mainGlobals "longest_at" = some (some (.ref f1))) (l1:K.lookup f1=some ⟨oc1,od1,.func (PySem.W.fnOf "longest_at" "longest_at" (defArgs sLongestAt) (defBody sLongestAt) (defScope sLongestAt) .none kV1 dc1 pm1 an1 cd1 ct1),sl1⟩) (c1:PySem.W.codeIn K cd1 "longest_at" = true) (k1:PySem.W.keepIn K (.ref f1)=true)
    (a2:PySem.W.nsIn K mainGlobals "pieces_of" = some (some (.ref f2))) (l2:K.lookup f2=some ⟨oc2,od2,.func (PySem.W.fnOf "pieces_of" "pieces_of" (defArgs sPiecesOf) (defBody sPiecesOf) (defScope sPiecesOf) .none kV2 dc2 pm2 an2 cd2 ct2),sl2⟩) (c2:PySem.W.codeIn K cd2 "pieces_of" = true) (k2:PySem.W.keepIn K (.ref f2)=true)
    (a3:PySem.W.nsIn K mainGlobals "cut_up" = some (some (.ref f3))) (l3:K.lookup f3=some ⟨oc3,od3,.func (PySem.W.fnOf "cut_up" "cut_up" (defArgs sCutUp) (defBody sCutUp) (defScope sCutUp) .none kV3 dc3 pm3 an3 cd3 ct3),sl3⟩) (c3:PySem.W.codeIn K cd3 "cut_up" = true) (k3:PySem.W.keepIn K (.ref f3)=true)
    (a4:PySem.W.nsIn K mainGlobals "nodes_of" = some (some (.ref f4))) (l4:K.lookup f4=some ⟨oc4,od4,.func (PySem.W.fnOf "nodes_of" "nodes_of" (defArgs sNodesOf) (defBody sNodesOf) (defScope sNodesOf) .none kV4 dc4 pm4 an4 cd4 ct4),sl4⟩) (c4:PySem.W.codeIn K cd4 "nodes_of" = true) (k4:PySem.W.keepIn K (.ref f4)=true)
    (a5:PySem.W.nsIn K mainGlobals "leaves" = some (some (.ref f5))) (l5:K.lookup f5=some ⟨oc5,od5,.func (PySem.W.fnOf "leaves" "leaves" (defArgs sLeaves) (defBody sLeaves) (defScope sLeaves) .none kV5 dc5 pm5 an5 cd5 ct5),sl5⟩) (c5:PySem.W.codeIn K cd5 "leaves" = true) (k5:PySem.W.keepIn K (.ref f5)=true)
    (a6:PySem.W.nsIn K mainGlobals "tally" = some (some (.ref f6))) (l6:K.lookup f6=some ⟨oc6,od6,.func (PySem.W.fnOf "tally" "tally" (defArgs sTally) (defBody sTally) (defScope sTally) .none kV6 dc6 pm6 an6 cd6 ct6),sl6⟩) (c6:PySem.W.codeIn K cd6 "tally" = true) (k6:PySem.W.keepIn K (.ref f6)=true)
    (a7:PySem.W.nsIn K mainGlobals "add_along" = some (some (.ref f7))) (l7:K.lookup f7=some ⟨oc7,od7,.func (PySem.W.fnOf "add_along" "add_along" (defArgs sAddAlong) (defBody sAddAlong) (defScope sAddAlong) .none kV7 dc7 pm7 an7 cd7 ct7),sl7⟩) (c7:PySem.W.codeIn K cd7 "add_along" = true) (k7:PySem.W.keepIn K (.ref f7)=true)
    (a8:PySem.W.nsIn K mainGlobals "_law_pot" = some (some (.ref f8))) (l8:K.lookup f8=some ⟨oc8,od8,.func (PySem.W.fnOf "_law_pot" "_law_pot" (defArgs sPot) (defBody sPot) (defScope sPot) .none kV8 dc8 pm8 an8 cd8 ct8),sl8⟩) (c8:PySem.W.codeIn K cd8 "_law_pot" = true) (k8:PySem.W.keepIn K (.ref f8)=true)
    (a9:PySem.W.nsIn K mainGlobals "_law_take" = some (some (.ref f9))) (l9:K.lookup f9=some ⟨oc9,od9,.func (PySem.W.fnOf "_law_take" "_law_take" (defArgs sTake) (defBody sTake) (defScope sTake) .none kV9 dc9 pm9 an9 cd9 ct9),sl9⟩) (c9:PySem.W.codeIn K cd9 "_law_take" = true) (k9:PySem.W.keepIn K (.ref f9)=true)
    (a10:PySem.W.nsIn K mainGlobals "_law_seed" = some (some (.ref f10))) (l10:K.lookup f10=some ⟨oc10,od10,.func (PySem.W.fnOf "_law_seed" "_law_seed" (defArgs sSeed) (defBody sSeed) (defScope sSeed) .none kV10 dc10 pm10 an10 cd10 ct10),sl10⟩) (c10:PySem.W.codeIn K cd10 "_law_seed" = true) (k10:PySem.W.keepIn K (.ref f10)=true)
    (a11:PySem.W.nsIn K mainGlobals "_law_same" = some (some (.ref f11))) (l11:K.lookup f11=some ⟨oc11,od11,.func (PySem.W.fnOf "_law_same" "_law_same" (defArgs sSame) (defBody sSame) (defScope sSame) .none kV11 dc11 pm11 an11 cd11 ct11),sl11⟩) (c11:PySem.W.codeIn K cd11 "_law_same" = true) (k11:PySem.W.keepIn K (.ref f11)=true)
    (a12:PySem.W.nsIn K mainGlobals "_law_text" = some (some (.ref f12))) (l12:K.lookup f12=some ⟨oc12,od12,.func (PySem.W.fnOf "_law_text" "_law_text" (defArgs sText) (defBody sText) (defScope sText) .none kV12 dc12 pm12 an12 cd12 ct12),sl12⟩) (c12:PySem.W.codeIn K cd12 "_law_text" = true) (k12:PySem.W.keepIn K (.ref f12)=true)
    (a13:PySem.W.nsIn K mainGlobals "_law_marks" = some (some (.ref f13))) (l13:K.lookup f13=some ⟨oc13,od13,.func (PySem.W.fnOf "_law_marks" "_law_marks" (defArgs sMarks) (defBody sMarks) (defScope sMarks) .none kV13 dc13 pm13 an13 cd13 ct13),sl13⟩) (c13:PySem.W.codeIn K cd13 "_law_marks" = true) (k13:PySem.W.keepIn K (.ref f13)=true)
    (a14:PySem.W.nsIn K mainGlobals "_law_rules" = some (some (.ref f14))) (l14:K.lookup f14=some ⟨oc14,od14,.func (PySem.W.fnOf "_law_rules" "_law_rules" (defArgs sRules) (defBody sRules) (defScope sRules) .none kV14 dc14 pm14 an14 cd14 ct14),sl14⟩) (c14:PySem.W.codeIn K cd14 "_law_rules" = true) (k14:PySem.W.keepIn K (.ref f14)=true)
    (a15:PySem.W.nsIn K mainGlobals "_law_words" = some (some (.ref f15))) (l15:K.lookup f15=some ⟨oc15,od15,.func (PySem.W.fnOf "_law_words" "_law_words" (defArgs sWords) (defBody sWords) (defScope sWords) .none kV15 dc15 pm15 an15 cd15 ct15),sl15⟩) (c15:PySem.W.codeIn K cd15 "_law_words" = true) (k15:PySem.W.keepIn K (.ref f15)=true)
    (a16:PySem.W.nsIn K mainGlobals "_law_counted" = some (some (.ref f16))) (l16:K.lookup f16=some ⟨oc16,od16,.func (PySem.W.fnOf "_law_counted" "_law_counted" (defArgs sCounted) (defBody sCounted) (defScope sCounted) .none kV16 dc16 pm16 an16 cd16 ct16),sl16⟩) (c16:PySem.W.codeIn K cd16 "_law_counted" = true) (k16:PySem.W.keepIn K (.ref f16)=true)
    (a17:PySem.W.nsIn K mainGlobals "law" = some (some (.ref f17))) (l17:K.lookup f17=some ⟨oc17,od17,.func (PySem.W.fnOf "law" "law" (defArgs sLaw) (defBody sLaw) (defScope sLaw) .none kV17 dc17 pm17 an17 cd17 ct17),sl17⟩) (c17:PySem.W.codeIn K cd17 "law" = true) (k17:PySem.W.keepIn K (.ref f17)=true)
    (z_len:PySem.W.nsIn K mainGlobals "len" = some none) (z_abs:PySem.W.nsIn K mainGlobals "abs" = some none) (z_int:PySem.W.nsIn K mainGlobals "int" = some none) (z_range:PySem.W.nsIn K mainGlobals "range" = some none) (z_isinstance:PySem.W.nsIn K mainGlobals "isinstance" = some none) (z_tuple:PySem.W.nsIn K mainGlobals "tuple" = some none) (z_bool:PySem.W.nsIn K mainGlobals "bool" = some none) (z_str:PySem.W.nsIn K mainGlobals "str" = some none) (z_all:PySem.W.nsIn K mainGlobals "all" = some none) (z_zip:PySem.W.nsIn K mainGlobals "zip" = some none) (z_enumerate:PySem.W.nsIn K mainGlobals "enumerate" = some none) (z_sorted:PySem.W.nsIn K mainGlobals "sorted" = some none) (z_list:PySem.W.nsIn K mainGlobals "list" = some none) (z_max:PySem.W.nsIn K mainGlobals "max" = some none) :
    ∃ fd:FuncData,(∀ (s:Shared) (v:Value),BindsTo s fd ⟨[v],[]⟩ [("_law_script",v)])∧∀ base:Heap,K.In base→base.Ns mainGlobals mg→FnOk l.prog w K mg base CX0 11 fa fd ["_law_script"] (spLaw K):=by
  have e:=hfa.symm.trans (PySem.W.mg_of X G a17)
  cases e
  have F1:=fun_mk (st:=sLongestAt) l1 c1 k1
  have h_longest_at:Has K mg "longest_at" sLongestAt ["text", "place", "choices"]:=⟨_,_,F1,F1.binds fun _ _ _ _ _ _ us hl=>match us,hl with | [_,_,_],_=>rfl,PySem.W.mg_of X G a1⟩
  have F2:=fun_mk (st:=sPiecesOf) l2 c2 k2
  have h_pieces_of:Has K mg "pieces_of" sPiecesOf ["text", "level"]:=⟨_,_,F2,F2.binds fun _ _ _ _ _ _ us hl=>match us,hl with | [_,_],_=>rfl,PySem.W.mg_of X G a2⟩
  have F3:=fun_mk (st:=sCutUp) l3 c3 k3
  have h_cut_up:Has K mg "cut_up" sCutUp ["text", "rules"]:=⟨_,_,F3,F3.binds fun _ _ _ _ _ _ us hl=>match us,hl with | [_,_],_=>rfl,PySem.W.mg_of X G a3⟩
  have F4:=fun_mk (st:=sNodesOf) l4 c4 k4
  have h_nodes_of:Has K mg "nodes_of" sNodesOf ["tree", "path"]:=⟨_,_,F4,F4.binds fun _ _ _ _ _ _ us hl=>match us,hl with | [_,_],_=>rfl,PySem.W.mg_of X G a4⟩
  have F5:=fun_mk (st:=sLeaves) l5 c5 k5
  have h_leaves:Has K mg "leaves" sLeaves ["tree"]:=⟨_,_,F5,F5.binds fun _ _ _ _ _ _ us hl=>match us,hl with | [_],_=>rfl,PySem.W.mg_of X G a5⟩
  have F6:=fun_mk (st:=sTally) l6 c6 k6
  have h_tally:Has K mg "tally" sTally ["tree", "words"]:=⟨_,_,F6,F6.binds fun _ _ _ _ _ _ us hl=>match us,hl with | [_,_],_=>rfl,PySem.W.mg_of X G a6⟩
  have F7:=fun_mk (st:=sAddAlong) l7 c7 k7
  have h_add_along:Has K mg "add_along" sAddAlong ["counts", "path", "word"]:=⟨_,_,F7,F7.binds fun _ _ _ _ _ _ us hl=>match us,hl with | [_,_,_],_=>rfl,PySem.W.mg_of X G a7⟩
  have F8:=fun_mk (st:=sPot) l8 c8 k8
  have h_pot:Has K mg "_law_pot" sPot ["_law_cell", "_law_seed_here"]:=⟨_,_,F8,F8.binds fun _ _ _ _ _ _ us hl=>match us,hl with | [_,_],_=>rfl,PySem.W.mg_of X G a8⟩
  have F9:=fun_mk (st:=sTake) l9 c9 k9
  have h_take:Has K mg "_law_take" sTake ["_law_pot_here", "_law_many"]:=⟨_,_,F9,F9.binds fun _ _ _ _ _ _ us hl=>match us,hl with | [_,_],_=>rfl,PySem.W.mg_of X G a9⟩
  have F10:=fun_mk (st:=sSeed) l10 c10 k10
  have h_seed:Has K mg "_law_seed" sSeed ["_law_script"]:=⟨_,_,F10,F10.binds fun _ _ _ _ _ _ us hl=>match us,hl with | [_],_=>rfl,PySem.W.mg_of X G a10⟩
  have F11:=fun_mk (st:=sSame) l11 c11 k11
  have h_same:Has K mg "_law_same" sSame ["_law_told", "_law_due"]:=⟨_,_,F11,F11.binds fun _ _ _ _ _ _ us hl=>match us,hl with | [_,_],_=>rfl,PySem.W.mg_of X G a11⟩
  have F12:=fun_mk (st:=sText) l12 c12 k12
  have h_text:Has K mg "_law_text" sText ["_law_pot_here"]:=⟨_,_,F12,F12.binds fun _ _ _ _ _ _ us hl=>match us,hl with | [_],_=>rfl,PySem.W.mg_of X G a12⟩
  have F13:=fun_mk (st:=sMarks) l13 c13 k13
  have h_marks:Has K mg "_law_marks" sMarks ["_law_pot_here", "_law_text_here"]:=⟨_,_,F13,F13.binds fun _ _ _ _ _ _ us hl=>match us,hl with | [_,_],_=>rfl,PySem.W.mg_of X G a13⟩
  have F14:=fun_mk (st:=sRules) l14 c14 k14
  have h_rules:Has K mg "_law_rules" sRules ["_law_pot_here", "_law_text_here", "_law_many"]:=⟨_,_,F14,F14.binds fun _ _ _ _ _ _ us hl=>match us,hl with | [_,_,_],_=>rfl,PySem.W.mg_of X G a14⟩
  have F15:=fun_mk (st:=sWords) l15 c15 k15
  have h_words:Has K mg "_law_words" sWords ["_law_pot_here", "_law_told"]:=⟨_,_,F15,F15.binds fun _ _ _ _ _ _ us hl=>match us,hl with | [_,_],_=>rfl,PySem.W.mg_of X G a15⟩
  have F16:=fun_mk (st:=sCounted) l16 c16 k16
  have h_counted:Has K mg "_law_counted" sCounted ["_law_tree", "_law_row"]:=⟨_,_,F16,F16.binds fun _ _ _ _ _ _ us hl=>match us,hl with | [_,_],_=>rfl,PySem.W.mg_of X G a16⟩
  have F17:=fun_mk (st:=sLaw) l17 c17 k17
  have m_len:=PySem.W.mg_none_of X G z_len
  have m_abs:=PySem.W.mg_none_of X G z_abs
  have m_int:=PySem.W.mg_none_of X G z_int
  have m_range:=PySem.W.mg_none_of X G z_range
  have m_isinstance:=PySem.W.mg_none_of X G z_isinstance
  have m_tuple:=PySem.W.mg_none_of X G z_tuple
  have m_bool:=PySem.W.mg_none_of X G z_bool
  have m_str:=PySem.W.mg_none_of X G z_str
  have m_all:=PySem.W.mg_none_of X G z_all
  have m_zip:=PySem.W.mg_none_of X G z_zip
  have m_enumerate:=PySem.W.mg_none_of X G z_enumerate
  have m_sorted:=PySem.W.mg_none_of X G z_sorted
  have m_list:=PySem.W.mg_none_of X G z_list
  have m_max:=PySem.W.mg_none_of X G z_max
  refine ⟨PySem.W.fnOf "law" "law" (defArgs sLaw) (defBody sLaw) (defScope sLaw) .none kV17 dc17 pm17 an17 cd17 ct17,fun s v=>.of_eq rfl,fun base _ _=>?_⟩
  have C_pot:=c_pot (P:=l.prog) (w:=w) (base:=base) h_pot m_abs m_int
  have C_take:=c_take (P:=l.prog) (w:=w) (base:=base) h_take
  have C_seed:=c_seed (P:=l.prog) (w:=w) (base:=base) h_seed
  have C_text:=c_text (P:=l.prog) (w:=w) (base:=base) h_text C_take m_len m_range
  have C_same:=c_same (P:=l.prog) (w:=w) (base:=base) h_same m_isinstance m_tuple m_bool m_str m_int m_len m_all m_zip 9
  have C_longest_at:=c_longest_at (P:=l.prog) (w:=w) (base:=base) h_longest_at m_max m_len
  have C_pieces_of:=c_pieces_of (P:=l.prog) (w:=w) (base:=base) h_pieces_of C_longest_at m_len m_max m_tuple
  have C_cut_up:=c_cut_up (P:=l.prog) (w:=w) (base:=base) h_cut_up C_pieces_of m_len m_tuple 5
  have C_nodes_of:=c_nodes_of (P:=l.prog) (w:=w) (base:=base) h_nodes_of m_isinstance m_tuple m_enumerate 7
  have C_leaves:=c_leaves (P:=l.prog) (w:=w) (base:=base) h_leaves C_nodes_of m_tuple m_isinstance m_str
  have C_marks:=c_marks (P:=l.prog) (w:=w) (base:=base) h_marks C_take m_range m_len m_tuple m_list
  have C_rules:=c_rules (P:=l.prog) (w:=w) (base:=base) h_rules C_marks m_tuple m_range
  have C_add_along:=c_add_along (P:=l.prog) (w:=w) (base:=base) h_add_along m_range m_len
  have C_tally:=c_tally (P:=l.prog) (w:=w) (base:=base) h_tally C_nodes_of C_leaves C_add_along m_isinstance m_tuple m_zip m_sorted
  have C_words:=c_words (P:=l.prog) (w:=w) (base:=base) h_words C_take m_tuple
  have C_counted:=c_counted (P:=l.prog) (w:=w) (base:=base) h_counted m_len m_range m_isinstance m_str m_tuple m_sorted m_list 7
  exact ok_law F17 C_seed C_pot C_text C_cut_up C_rules C_take C_words C_leaves C_same C_counted C_tally m_enumerate m_max m_len m_range m_tuple m_list
theorem walk {l:PySem.W.OpenLaw} {q:Program} {loose:List Str} {XP:(Str→Option Value)→Heap→Prop} {YP:World→Heap→Prop} {d:DefRec} {K:Params→PySem.W.Frag} (hn:l.most=some 63) (hdf:d.params.defaults=[])
    (hY:∀ (w:World) (h:Heap),YP w h→(K w.params).In h)
    (F:∀ (w:World) (mg:Str→Option Value) (fa:Addr) (h:Heap),(K w.params).In h→h.Ns mainGlobals mg→mg d.name=some (.ref fa) →
      ∃ fd:FuncData,(∀ (s:Shared) (u:Value),BindsTo s fd ⟨[u],[]⟩ [("_law_script",u)])∧∀ base:Heap,(K w.params).In base→base.Ns mainGlobals mg→FnOk l.prog w (K w.params) mg base CX0 11 fa fd ["_law_script"] (spLaw (K w.params))) :
    PySem.W.WalkO q loose XP YP l.row.toRowW d [] (fun f vs=>PySem.call f vs) :=
  L2.walk_of (n:=63) (k:=11) (x:="_law_script") (CX:=fun _=>CX0) (sp:=fun w=>spLaw (K w.params)) hn (by decide) hdf ⟨rfl,by decide,by decide⟩ hY F (fun _ _ a ns hl _ hS=>⟨a,ns,rfl,hS,hl,fun _=>rfl⟩) fun _ _ _ _ _ z=>z
end Mine
open PySem PySem.W PyProof.Rows
set_option maxRecDepth 100000 in
set_option maxHeartbeats 0 in
theorem PySem.Challenge.cw_twainkeep_k12_words_tallied_holds : PySem.Challenge.rw_twainkeep_k12_words_tallied.Holds := by
  w_on; o_law; k_head; (case hw=>w_witness2)
  k_fill
  refine Mine.walk (l:=PySem.Challenge.rw_twainkeep_k12_words_tallied) rfl rfl (fun w h Y=>PySem.W.kIn_of Y) ?F
  case F =>
    intro w mg fa h KX G hmg
    refine' Mine.all_mk KX G hmg ?a1 ?l1 ?c1 ?k1 ?a2 ?l2 ?c2 ?k2 ?a3 ?l3 ?c3 ?k3 ?a4 ?l4 ?c4 ?k4 ?a5 ?l5 ?c5 ?k5 ?a6 ?l6 ?c6 ?k6 ?a7 ?l7 ?c7 ?k7 ?a8 ?l8 ?c8 ?k8 ?a9 ?l9 ?c9 ?k9 ?a10 ?l10 ?c10 ?k10 ?a11 ?l11 ?c11 ?k11 ?a12 ?l12 ?c12 ?k12 ?a13 ?l13 ?c13 ?k13 ?a14 ?l14 ?c14 ?k14 ?a15 ?l15 ?c15 ?k15 ?a16 ?l16 ?c16 ?k16 ?a17 ?l17 ?c17 ?k17 ?z_len ?z_abs ?z_int ?z_range ?z_isinstance ?z_tuple ?z_bool ?z_str ?z_all ?z_zip ?z_enumerate ?z_sorted ?z_list ?z_max
    (case a1=>k_is)
    (case l1=>k_is)
    (case c1=>k_is)
    (case k1=>k_is)
    (case a2=>k_is)
    (case l2=>k_is)
    (case c2=>k_is)
    (case k2=>k_is)
    (case a3=>k_is)
    (case l3=>k_is)
    (case c3=>k_is)
    (case k3=>k_is)
    (case a4=>k_is)
    (case l4=>k_is)
    (case c4=>k_is)
    (case k4=>k_is)
    (case a5=>k_is)
    (case l5=>k_is)
    (case c5=>k_is)
    (case k5=>k_is)
    (case a6=>k_is)
    (case l6=>k_is)
    (case c6=>k_is)
    (case k6=>k_is)
    (case a7=>k_is)
    (case l7=>k_is)
    (case c7=>k_is)
    (case k7=>k_is)
    (case a8=>k_is)
    (case l8=>k_is)
    (case c8=>k_is)
    (case k8=>k_is)
    (case a9=>k_is)
    (case l9=>k_is)
    (case c9=>k_is)
    (case k9=>k_is)
    (case a10=>k_is)
    (case l10=>k_is)
    (case c10=>k_is)
    (case k10=>k_is)
    (case a11=>k_is)
    (case l11=>k_is)
    (case c11=>k_is)
    (case k11=>k_is)
    (case a12=>k_is)
    (case l12=>k_is)
    (case c12=>k_is)
    (case k12=>k_is)
    (case a13=>k_is)
    (case l13=>k_is)
    (case c13=>k_is)
    (case k13=>k_is)
    (case a14=>k_is)
    (case l14=>k_is)
    (case c14=>k_is)
    (case k14=>k_is)
    (case a15=>k_is)
    (case l15=>k_is)
    (case c15=>k_is)
    (case k15=>k_is)
    (case a16=>k_is)
    (case l16=>k_is)
    (case c16=>k_is)
    (case k16=>k_is)
    (case a17=>k_is)
    (case l17=>k_is)
    (case c17=>k_is)
    (case k17=>k_is)
    (case z_len=>k_is)
    (case z_abs=>k_is)
    (case z_int=>k_is)
    (case z_range=>k_is)
    (case z_isinstance=>k_is)
    (case z_tuple=>k_is)
    (case z_bool=>k_is)
    (case z_str=>k_is)
    (case z_all=>k_is)
    (case z_zip=>k_is)
    (case z_enumerate=>k_is)
    (case z_sorted=>k_is)
    (case z_list=>k_is)
    (case z_max=>k_is)
