import PyProof.Rows.All
import Wide.All
import OpenK.AllK
import Wide.FinOn
import Lean
import PyProof.EqAt
import PyProof.EqKinds
import PyProof.TupleCall
import PyProof.ZipIter
import PyProof.TupleIter
import PyProof.WalksMore
import KE.KWords
import PyProof.MinMaxWalk
import PyProof.SeqI3
import PyProof.MaxThree
import PyProof.AttrMissHeap
import PyProof.DictList
import PyProof.DictIter
import KE.KDictOf
import KE.KDictList
import PyProof.Rows.CallKwBuiltin
import PyProof.Rows.Range3
import PyProof.Rows.StrNews2
import PyProof.StrLawsIdx
import PyProof.StrBlockI
import KE.KRevSl
import PyProof.AutoListH
import PyProof.DictWalks
import PyProof.Draws
import PyProof.EnumMake
import PyProof.NeKinds
import PyProof.Rows.SetFrom
import KE.KSortTup
import PyProof.StrBlock2
import PyProof.DictItems
import KE.KPairComp
import KE.KItemsList
import PySem.SetOps
import PyProof.TupleKey
import PyProof.SetKind
import PyProof.IsRules
import PyProof.DictKinds
import PyProof.SetRoads
import PyProof.MeetsSeq2
import PyProof.Rows.SumAny
import PyProof.ListStr
import PyProof.DictValues
import OpenK.KRaise
import PyProof.StationsW
import PyProof.ExcClass2
import OpenK.KOwn
import PyProof.Rows.FStr
import PyProof.NsDelKeeps
import PyProof.RulesAs
import KE.KIsNot
import PyProof.ExcArgsOwn
import PyProof.ExcAttrAll.ValueError
import KE.KLam
import PyProof.ListRange
import PyProof.TupleOfSeq
import PySem.Challenge.RW_twainkeep_k13_whole_cut_and_sewn
set_option Elab.async false
set_option linter.all false
set_option maxRecDepth 100000
namespace L2
open PySem PySem.Spec PyProof.Rows
abbrev Key:=Sum Int Str
def keyIs:Key→Value→Bool
  | .inl k,v=>Value.isInt k v
  | .inr x,v=>Value.isStrOf x v
def keyH (w:World):Key→Int
  | .inl k=>hashInt k
  | .inr x=>hashStr w x
theorem keyIs_shape:∀ {k:Key} {v:Value},keyIs k v=true→(∃ i t,k=Sum.inl i∧v=Value.int i t)∨(∃ x t,k=Sum.inr x∧v=Value.str x t)
  | .inl i,v,h=>by
    obtain ⟨t,e⟩:=Value.isInt_shape (k:=i) (v:=v) h
    exact .inl ⟨i,t,rfl,e⟩
  | .inr x,v,h=>by
    obtain ⟨t,e⟩:=Value.isStrOf_shape (x:=x) (v:=v) h
    exact .inr ⟨x,t,rfl,e⟩
theorem keyIs_int (i:Int) (t:Tok):keyIs (.inl i) (.int i t)=true:=by simp [keyIs,Value.isInt]
theorem keyIs_str (x:Str) (t:Tok):keyIs (.inr x) (.str x t)=true:=by simp [keyIs,Value.isStrOf]
theorem key_ll (a b:Int):decide ((Sum.inl a:Key)=Sum.inl b)=(a == b):=by
  by_cases e:a=b
  · subst e; simp
  · have h:¬ (Sum.inl a:Key)=Sum.inl b:=fun q=>e (Sum.inl.inj q)
    rw [decide_eq_false h]
    exact (beq_eq_false_iff_ne.mpr e).symm
theorem key_rr (a b:Str):decide ((Sum.inr a:Key)=Sum.inr b)=decide (a=b):=by
  by_cases e:a=b
  · subst e; simp
  · have h:¬ (Sum.inr a:Key)=Sum.inr b:=fun q=>e (Sum.inr.inj q)
    rw [decide_eq_false h,decide_eq_false e]
theorem key_lr (a:Int) (b:Str):decide ((Sum.inl a:Key)=Sum.inr b)=false:=decide_eq_false (fun q=>nomatch q)
theorem key_rl (a:Str) (b:Int):decide ((Sum.inr a:Key)=Sum.inl b)=false:=decide_eq_false (fun q=>nomatch q)
def mixKind (prog:Program) (w:World):PySem.KeyKind prog w Key where
  is:=keyIs
  hash:=keyH w
  inj:=fun v a b ha hb=>by
    rcases keyIs_shape ha with ⟨i,t,rfl,rfl⟩ | ⟨x,t,rfl,rfl⟩
    · rcases keyIs_shape hb with ⟨j,u,rfl,e⟩ | ⟨y,u,rfl,e⟩
      · injection e with e1 _; rw [e1]
      · exact nomatch e
    · rcases keyIs_shape hb with ⟨j,u,rfl,e⟩ | ⟨y,u,rfl,e⟩
      · exact nomatch e
      · injection e with e1 _; rw [e1]
  byValue:=fun k v h=>by
    rcases keyIs_shape h with ⟨i,t,rfl,rfl⟩ | ⟨x,t,rfl,rfl⟩ <;> rfl
  pyHash:=fun hv h=>by
    rcases keyIs_shape hv with ⟨i,t,rfl,rfl⟩ | ⟨x,t,rfl,rfl⟩
    · exact wpAny_pyHash_int h
    · exact wpAny_pyHash_str h
  eqBool:=fun hu hv h=>by
    rcases keyIs_shape hu with ⟨i,t,rfl,rfl⟩ | ⟨x,t,rfl,rfl⟩
    · rcases keyIs_shape hv with ⟨j,u,rfl,rfl⟩ | ⟨y,u,rfl,rfl⟩
      · rw [key_ll] at h; exact wpAny_eqBool_int h
      · rw [key_lr] at h; exact SeqAt.EqAt.int_str i t y u _ _ _ _ h
    · rcases keyIs_shape hv with ⟨j,u,rfl,rfl⟩ | ⟨y,u,rfl,rfl⟩
      · rw [key_rl] at h; exact SeqAt.EqAt.str_int x t j u _ _ _ _ h
      · rw [key_rr] at h; exact wpAny_eqBool_str h
  «strs»:=fun k x t v h=>by
    rcases keyIs_shape h with ⟨i,u,rfl,e⟩ | ⟨y,u,rfl,e⟩
    · exact nomatch e
    · injection e with e1 _
      subst e1
      cases v <;> rfl
theorem mixKind_int (prog:Program) (w:World) (i:Int) (t:Tok):(mixKind prog w).is (.inl i) (.int i t)=true:=keyIs_int i t
theorem mixKind_str (prog:Program) (w:World) (x:Str) (t:Tok):(mixKind prog w).is (.inr x) (.str x t)=true:=keyIs_str x t
end L2
namespace L2
open PySem PySem.Spec PyProof.Rows
inductive V where
  | non | bl (b:Bool) | int (i:Int) | str (x:Str) | byt (b:Array UInt8) | flt (b:UInt64) | ref (a:Addr) | ty (n:String)
  deriving DecidableEq
def RelV:V→Value→Prop
  | .non,u=>u=Value.none
  | .bl b,u=>u=Value.bool b
  | .int i,u=>∃ t,u=Value.int i t
  | .str x,u=>∃ t,u=Value.str x t
  | .byt b,u=>∃ t,u=Value.bytes b t
  | .flt b,u=>∃ t,u=Value.float b t
  | .ref a,u=>u=Value.ref a
  | .ty n,u=>u=Value.type n
abbrev Vals:List V→List Value→Prop:=Paired RelV
theorem Vals.length {xs:List V} {us:List Value} (r:Vals xs us):xs.length=us.length:=Paired.length r
theorem Vals.get:∀ {xs:List V} {us:List Value} {i:Nat} {x:V},Vals xs us→xs[i]?=some x→∃ u,us[i]?=some u∧RelV x u
  | _,_,_,_,.nil,e=>by simp at e
  | _,_,0,_,.cons r _,e=>by simp at e; subst e; exact ⟨_,rfl,r⟩
  | _,_,i+1,x,.cons _ t,e=>by
    obtain ⟨u,h1,h2⟩:=Vals.get (i:=i) (x:=x) t (by simpa using e)
    exact ⟨u,by simpa using h1,h2⟩
theorem Vals.set {x:V} {u:Value} (r:RelV x u):∀ {xs:List V} {us:List Value} (i:Nat),Vals xs us→Vals (xs.set i x) (us.set i u)
  | _,_,_,.nil=>.nil
  | _,_,0,.cons _ t=>.cons r t
  | _,_,i+1,.cons q t=>.cons q (Vals.set r i t)
theorem Vals.append:∀ {xs ys:List V} {us ws:List Value},Vals xs us→Vals ys ws→Vals (xs++ys) (us++ws)
  | _,_,_,_,.nil,s=>s
  | _,_,_,_,.cons r t,s=>.cons r (Vals.append t s)
theorem Vals.take:∀ {xs:List V} {us:List Value} (n:Nat),Vals xs us→Vals (xs.take n) (us.take n)
  | _,_,0,_=>.nil
  | _,_,_+1,.nil=>.nil
  | _,_,n+1,.cons r t=>.cons r (Vals.take n t)
theorem Vals.drop:∀ {xs:List V} {us:List Value} (n:Nat),Vals xs us→Vals (xs.drop n) (us.drop n)
  | _,_,0,r=>r
  | _,_,_+1,.nil=>.nil
  | _,_,n+1,.cons _ t=>Vals.drop n t
def RelO:Option V→Option Value→Prop
  | some v,some u=>RelV v u
  | none,none=>True
  | _,_=>False
def KV {κ:Type}:List (κ × V)→List (κ × Value)→Prop:=Paired fun (p:κ × V) (q:κ × Value)=>p.1=q.1∧RelV p.2 q.2
def kV:Key→V
  | .inl i=>.int i
  | .inr x=>.str x
inductive HO where
  | lst (xs:List V)
  | tup (xs:List V)
  | dK (kvs:List (Key × V)) | dT (kvs:List (List Key × V))
  | set (S:Int→Bool) (n:Nat)
  | ins (C dx:Addr) (fs:List (Str × V))
  | own (x:Addr)
  | xd (fs:List (Str × V))
  | met (f x:Addr)
  | rng (lo hi:Int)
  | frz (o:Obj) (u:HO)
  | tbl (ps:Array Value)
  | ext (φ:Heap→Prop)
abbrev Hp:=Addr→Option HO
def upd (H:Hp) (a:Addr) (o:HO):Hp:=fun b=>if b=a then some o else H b
theorem upd_same {H:Hp} {a:Addr} {o:HO}:upd H a o a=some o:=by unfold upd; rw [if_pos rfl]
theorem upd_ne {H:Hp} {a b:Addr} {o:HO} (h:b≠a):upd H a o b=H b:=by unfold upd; rw [if_neg h]
theorem upd_upd {H:Hp} {a:Addr} {o u:HO}:upd (upd H a o) a u=upd H a u:=by
  funext b; unfold upd; split <;> rfl
theorem ne_of {H:Hp} {a b:Addr} {o u:HO} (h:H a=some o) (h':H b=some u) (d:o≠u):a≠b:=by
  intro e; subst e; rw [h] at h'; exact d (Option.some.inj h')
theorem ne_of_none {H:Hp} {a b:Addr} {o:HO} (h:H a=some o) (h':H b=none):a≠b:=by
  intro e; subst e; rw [h] at h'; cases h'
section
variable (P:Program) (w:World)
def ObjOk (H:Hp) (h:Heap) (a:Addr):HO→Prop
  | .lst xs=>xs.length≤sizeLine∧∃ (its:List Value) (n:Nat),Vals xs its∧h.get? a=some { cls:=.type "list",data:=.seq its.toArray n }
  | .tup xs=>xs.length≤sizeLine∧∃ its:List Value,Vals xs its∧IsTup h a its.toArray
  | .dK kvs=>kvs.length≤sizeLine∧(a == sysModules)=false∧∃ vs,KV kvs vs∧h.DictOf (mixKind P w) a vs
  | .dT kvs=>kvs.length≤sizeLine∧(a == sysModules)=false∧∃ xs:List (List Key × Addr × Value),
      Paired (fun (p:List Key × V) (q:List Key × Addr × Value)=>p.1=q.1∧H q.2.1=some (.tup (p.1.map kV))∧RelV p.2 q.2.2) kvs xs ∧
      ∃ o es ep,h.get? a=some o∧o.ExactDict∧o.data=.dict es ep∧es.toList=xs.map (entryOfKey (tupleKind (mixKind P w)))∧(xs.map (·.1)).Nodup
  | .set S n=>h.SetOf (intKind P w) a S n
  | .ins C dx fs=>H dx=some (.own a)∧fs.length≤1000∧dx≠a∧h.get? a=some (PySem.W.instObj C dx) ∧
      ∃ mA,h.Ns1 dx mA∧(∀ f,RelO (fs.lookup f) (mA f))∧PySem.Within mA (fs.map (·.1))
  | .own _=>∃ o,h.get? a=some o
  | .xd fs=>∃ mA,h.Ns1 a mA∧∀ f,RelO (fs.lookup f) (mA f)
  | .rng lo hi=>∃ t u v,h.get? a=some { cls:=.type "range",data:=.fields #[.int lo t,.int hi u,.int 1 v] }
  | .frz o u=>h.get? a=some o∧ObjOk H h a u
  | .tbl ps=>h.get? a=some { cls:=.none,data:=.fields ps }
  | .met f x=>h.get? a=some (PySem.W.methodObj (.ref f) (.ref x))
  | .ext φ=>φ h∧(∃ o,h.get? a=some o)∧∀ h1 h2:Heap,φ h1→(∀ o,h1.get? a=some o→h2.get? a=some o)→φ h2
def HOk (H:Hp) (h:Heap):Prop:=∀ a o,H a=some o→ObjOk P w H h a o
end
section
variable {P:Program} {w:World} {H H':Hp} {h h':Heap} {a:Addr} {o:HO}
theorem ObjOk.lt (x:ObjOk P w H h a o):a < h.objs.size:=by
  cases o with
  | lst xs=>obtain ⟨_,_,_,_,e⟩:=x; exact Heap.lt_size e
  | tup xs=>obtain ⟨_,_,_,p⟩:=x; exact p.lt
  | dK kvs=>obtain ⟨_,_,_,_,o,_,_,e,_⟩:=x; exact Heap.lt_size e
  | dT kvs=>obtain ⟨_,_,_,_,o,_,_,e,_⟩:=x; exact Heap.lt_size e
  | set S n=>obtain ⟨o,_,_,_,e,_⟩:=x; exact Heap.lt_size e
  | ins C dx fs=>obtain ⟨_,_,_,e,_⟩:=x; exact Heap.lt_size e
  | own y=>obtain ⟨_,e⟩:=x; exact Heap.lt_size e
  | xd fs=>obtain ⟨_,⟨_,_,_,e,_⟩,_⟩:=x; exact Heap.lt_size e
  | rng lo hi=>obtain ⟨_,_,_,e⟩:=x; exact Heap.lt_size e
  | frz ob u=>obtain ⟨e,_⟩:=x; exact Heap.lt_size e
  | tbl ps=>exact Heap.lt_size (show h.get? a=some _ from x)
  | met f y=>exact Heap.lt_size (show h.get? a=some _ from x)
  | ext φ=>obtain ⟨_,⟨_,e⟩,_⟩:=x; exact Heap.lt_size e
theorem Paired.mapP {α β:Type} {F G:α→β→Prop}:∀ {l₁:List α} {l₂:List β},Paired F l₁ l₂→(∀ a b,F a b→G a b)→Paired G l₁ l₂
  | _,_,.nil,_=>.nil
  | _,_,.cons r t,f=>.cons (f _ _ r) (Paired.mapP t f)
theorem ObjOk.stay (x:ObjOk P w H h a o) (k:∀ b u,(b=a∨H b=some (.own a))→h.get? b=some u→h'.get? b=some u)
    (ho:∀ b,H b=some (.own a)→H' b=some (.own a)) (ht:∀ b xs,H b=some (.tup xs)→H' b=some (.tup xs)):ObjOk P w H' h' a o:=by
  induction o with
  | lst xs=>obtain ⟨z,its,n,r,e⟩:=x; exact ⟨z,its,n,r,k _ _ (.inl rfl) e⟩
  | tup xs=>obtain ⟨z,its,r,ob,e,c⟩:=x; exact ⟨z,its,r,ob,k _ _ (.inl rfl) e,c⟩
  | dK kvs=>obtain ⟨z,y,vs,r,ob,es,ep,e,c⟩:=x; exact ⟨z,y,vs,r,ob,es,ep,k _ _ (.inl rfl) e,c⟩
  | dT kvs =>
    obtain ⟨z,y,xs,r,ob,es,ep,e,c⟩:=x
    exact ⟨z,y,xs,Paired.mapP r fun p q z=>⟨z.1,ht _ _ z.2.1,z.2.2⟩,ob,es,ep,k _ _ (.inl rfl) e,c⟩
  | set S n=>obtain ⟨ob,es,ep,t,e,c⟩:=x; exact ⟨ob,es,ep,t,k _ _ (.inl rfl) e,c⟩
  | ins C dx fs =>
    obtain ⟨d,z,ne,e,mA,⟨od,es,ep,e2,c⟩,r⟩:=x
    exact ⟨ho _ d,z,ne,k _ _ (.inl rfl) e,mA,⟨od,es,ep,k _ _ (.inr d) e2,c⟩,r⟩
  | own y=>obtain ⟨ob,e⟩:=x; exact ⟨ob,k _ _ (.inl rfl) e⟩
  | xd fs=>obtain ⟨mA,⟨od,es,ep,e,c⟩,r⟩:=x; exact ⟨mA,⟨od,es,ep,k _ _ (.inl rfl) e,c⟩,r⟩
  | rng lo hi=>obtain ⟨t,u,v,e⟩:=x; exact ⟨t,u,v,k _ _ (.inl rfl) e⟩
  | frz ob u ih=>obtain ⟨e,q⟩:=x; exact ⟨k _ _ (.inl rfl) e,ih q⟩
  | tbl ps =>
    have e:h.get? a=some { cls:=.none,data:=.fields ps }:=x
    show h'.get? a=some { cls:=.none,data:=.fields ps }
    exact k a _ (.inl rfl) e
  | met f y =>
    have e:h.get? a=some (PySem.W.methodObj (.ref f) (.ref y)):=x
    show h'.get? a=some (PySem.W.methodObj (.ref f) (.ref y))
    exact k a _ (.inl rfl) e
  | ext φ=>obtain ⟨p,⟨o,e⟩,st⟩:=x; exact ⟨st _ _ p fun o q=>k _ _ (.inl rfl) q,⟨o,k _ _ (.inl rfl) e⟩,st⟩
theorem HOk.lt (x:HOk P w H h) (e:H a=some o):a < h.objs.size:=(x a o e).lt
theorem HOk.fresh (x:HOk P w H h) (e:h.objs.size≤a):H a=none:=by
  cases q:H a with
  | none=>rfl
  | some u=>exact absurd (Nat.lt_of_lt_of_le (x.lt q) e) (Nat.lt_irrefl _)
theorem HOk.kept (x:HOk P w H h) (k:∀ b u,h.get? b=some u→h'.get? b=some u):HOk P w H h':=fun a o e =>
  (x a o e).stay (fun b u _ q=>k b u q) (fun _ q=>q) fun _ _ q=>q
theorem HOk.laid (x:HOk P w H h) (k:∀ b u,h.get? b=some u→h'.get? b=some u) (hp:h.objs.size≤a) (new:ObjOk P w (upd H a o) h' a o):HOk P w (upd H a o) h':=fun b u e=>by
  have hn:=x.fresh hp
  by_cases hb:b=a
  · subst hb; rw [upd_same] at e; cases e; exact new
  · rw [upd_ne hb] at e
    exact (x b u e).stay (fun c v _ q=>k c v q) (fun c q=>by rw [upd_ne (ne_of_none q hn)]; exact q) fun c xs q=>by rw [upd_ne (ne_of_none q hn)]; exact q
end
def Rd (H:Hp) (a:Addr) (u:HO):Prop:=H a=some u∨∃ o,H a=some (.frz o u)
theorem Rd.of {H:Hp} {a:Addr} {u:HO} (h:H a=some u):Rd H a u:=.inl h
theorem Rd.ok {P:Program} {w:World} {H:Hp} {h:Heap} {a:Addr} {u:HO} (r:Rd H a u) (x:HOk P w H h):ObjOk P w H h a u:=by
  rcases r with r | ⟨o,r⟩
  · exact x a u r
  · obtain ⟨_,q⟩:=x a _ r
    exact q
def Mut:Option HO→Prop
  | some (.lst _)=>True
  | some (.dK _)=>True
  | some (.dT _)=>True
  | some (.set _ _)=>True
  | some (.ins _ _ _)=>True
  | some (.ext _)=>True
  | _=>False
section
variable {P:Program} {w:World} {H:Hp} {h h':Heap} {x e:Addr} {o':HO}
theorem HOk.write (ok:HOk P w H h) (mu:Mut (H x)) (he:e=x∨H e=some (.own x)) (k:∀ b u,b≠e→h.get? b=some u→h'.get? b=some u) (heo:∃ u,h'.get? e=some u)
    (new:ObjOk P w (upd H x o') h' x o'):HOk P w (upd H x o') h':=fun b u q=>by
  have nown:∀ c y,H c=some (.own y)→c≠x:=fun c y r z=>by subst z; rw [r] at mu; exact mu
  have ntup:∀ c xs,H c=some (.tup xs)→c≠x:=fun c xs r z=>by subst z; rw [r] at mu; exact mu
  by_cases hb:b=x
  · subst hb; rw [upd_same] at q; cases q; exact new
  · rw [upd_ne hb] at q
    by_cases hbe:b=e
    · have q':H b=some (.own x):=by
        rcases he with z | z
        · exact absurd (hbe.trans z) hb
        · rw [hbe]; exact z
      rw [q] at q'; cases q'
      obtain ⟨v,hv⟩:=heo
      exact ⟨v,by rw [hbe]; exact hv⟩
    · refine (ok b u q).stay (fun c v hc r=>k c v ?_ r) (fun c r=>by rw [upd_ne (nown c b r)]; exact r) fun c xs r=>by rw [upd_ne (ntup c xs r)]; exact r
      rcases hc with rfl | hc
      · exact hbe
      · rintro rfl
        rcases he with z | z
        · exact nown c b hc z
        · rw [hc] at z; cases z; exact hb rfl
end
structure Un (fs ex:List Addr) (H H':Hp) (h h':Heap):Prop where
  keep:∀ b o,h.get? b=some o→H b=none→b ∉ fs→b ∉ ex→h'.get? b=some o
  slot:∀ b o,h.get? b=some o→H b=none→b∈fs→b ∉ ex→∃ sl,h'.get? b=some { o with slots:=sl }
  free:∀ b o,h.get? b=some o→H b=none→b ∉ ex→H' b=none
  there:∀ b o,h.get? b=some o→b ∉ ex→∃ o',h'.get? b=some o'
  tups:∀ b xs,H b=some (.tup xs)→H' b=some (.tup xs)
  frzs:∀ b o u,H b=some (.frz o u)→H' b=some (.frz o u)
  tbls:∀ b ps,H b=some (.tbl ps)→∃ more,H' b=some (.tbl (ps++more))
section
variable {fs fs' ex ex':List Addr} {H H1 H2:Hp} {h h1 h2 h':Heap} {a x e:Addr} {o:HO}
theorem Un.any (u:Un fs ex H H1 h h1) {b:Addr} {ob:Obj} (q:h.get? b=some ob) (n:H b=none) (hx:b ∉ ex):∃ sl,h1.get? b=some { ob with slots:=sl }:=by
  by_cases hb:b∈fs
  · exact u.slot b ob q n hb hx
  · exact ⟨ob.slots,u.keep b ob q n hb hx⟩
theorem Un.trans (a:Un fs ex H H1 h h1) (b:Un fs ex H1 H2 h1 h2):Un fs ex H H2 h h2 where
  keep:=fun c ob q n hc hx=>b.keep c ob (a.keep c ob q n hc hx) (a.free c ob q n hx) hc hx
  slot:=fun c ob q n hc hx=>by
    obtain ⟨sl,e1⟩:=a.slot c ob q n hc hx
    obtain ⟨sl',e2⟩:=b.slot c _ e1 (a.free c ob q n hx) hc hx
    exact ⟨sl',e2⟩
  free:=fun c ob q n hx=>by
    obtain ⟨o',e1⟩:=a.there c ob q hx
    exact b.free c o' e1 (a.free c ob q n hx) hx
  there:=fun c ob q hx=>by
    obtain ⟨o',e1⟩:=a.there c ob q hx
    exact b.there c o' e1 hx
  tups:=fun c xs q=>b.tups c xs (a.tups c xs q)
  frzs:=fun c ob xs q=>b.frzs c ob xs (a.frzs c ob xs q)
  tbls:=fun c ps q=>by
    obtain ⟨m1,e1⟩:=a.tbls c ps q
    obtain ⟨m2,e2⟩:=b.tbls c _ e1
    exact ⟨m1++m2,by rw [e2,Array.append_assoc]⟩
theorem Un.kept (k:∀ b u,h.get? b=some u→h'.get? b=some u):Un fs ex H H h h' :=
  ⟨fun b ob q _ _ _=>k b ob q,fun b ob q _ _ _=>⟨ob.slots,k b ob q⟩,fun _ _ _ n _=>n,fun b ob q _=>⟨ob,k b ob q⟩,fun _ _ q=>q,fun _ _ _ q=>q,fun _ ps q=>⟨#[],by rw [q]; simp⟩⟩
theorem Un.refl:Un fs ex H H h h:=Un.kept fun _ _ q=>q
theorem Un.laid (k:∀ b u,h.get? b=some u→h'.get? b=some u) (hp:h.objs.size≤a) (hn:H a=none):Un fs ex H (upd H a o) h h' where
  keep:=fun b u q _ _ _=>k b u q
  slot:=fun b u q _ _ _=>⟨u.slots,k b u q⟩
  free:=fun b u q n _=>by rw [upd_ne (Nat.ne_of_lt (Nat.lt_of_lt_of_le (Heap.lt_size q) hp))]; exact n
  there:=fun b u q _=>⟨u,k b u q⟩
  tups:=fun b xs q=>by rw [upd_ne (ne_of_none q hn)]; exact q
  frzs:=fun b u xs q=>by rw [upd_ne (ne_of_none q hn)]; exact q
  tbls:=fun b ps q=>⟨#[],by rw [upd_ne (ne_of_none q hn),q]; simp⟩
theorem Un.write (mu:Mut (H x)) (he:e=x∨H e=some (.own x)) (k:∀ b u,b≠e→h.get? b=some u→h'.get? b=some u) (heo:∃ u,h'.get? e=some u):Un fs ex H (upd H x o) h h':=by
  have hx:∀ b,H b=none→b≠x:=fun b n z=>by subst z; rw [n] at mu; exact mu
  have hb:∀ b,H b=none→b≠e:=fun b n z=>by
    subst z
    rcases he with r | r
    · exact hx b n r
    · rw [n] at r; cases r
  have hm:∀ b u,H b=some u→¬ Mut (some u)→b≠x:=fun b u q nm z=>by subst z; rw [q] at mu; exact nm mu
  refine ⟨fun b u q n _ _=>k b u (hb b n) q,fun b u q n _ _=>⟨u.slots,k b u (hb b n) q⟩,fun b u q n _=>by rw [upd_ne (hx b n)]; exact n,fun b u q _=>?_,
    fun b xs q=>by rw [upd_ne (hm b _ q fun z=>z)]; exact q,fun b u xs q=>by rw [upd_ne (hm b _ q fun z=>z)]; exact q,fun b ps q=>⟨#[],by rw [upd_ne (hm b _ q fun z=>z),q]; simp⟩⟩
  by_cases hbe:b=e
  · subst hbe; exact heo
  · exact ⟨u,k b u hbe q⟩
theorem Un.mono (u:Un fs ex H H1 h h1) (hs:∀ b∈fs,b∈fs') (hx:∀ b∈ex,b∈ex'):Un fs' ex' H H1 h h1 :=
  ⟨fun b ob q n hb he=>u.keep b ob q n (fun z=>hb (hs b z)) fun z=>he (hx b z),fun _ _ q n _ he=>u.any q n fun z=>he (hx _ z),fun b ob q n he=>u.free b ob q n fun z=>he (hx b z),fun b ob q he=>u.there b ob q fun z=>he (hx b z),u.tups,u.frzs,u.tbls⟩
end
def trk (h:Heap) (H:Hp):List Addr:=(List.range h.objs.size).filter fun a=>(H a).isSome
def hidT (h:Heap) (H:Hp):Heap:=PySem.W.hideAll h (trk h H)
theorem hidT_size (h:Heap) (H:Hp):(hidT h H).objs.size=h.objs.size:=PySem.W.hideAll_size _ _
theorem hidT_get {h:Heap} {H:Hp} {b:Addr} {o:Obj} (e:h.get? b=some o) (n:H b=none):(hidT h H).get? b=some o :=
  PySem.W.hideAll_get _ e fun hm=>by
    have q:(H b).isSome=true:=(List.mem_filter.mp hm).2
    rw [n] at q; simp at q
theorem of_hidT {h:Heap} {H:Hp} {b:Addr} {o:Obj} (e:(hidT h H).get? b=some o):h.get? b=some o∧H b=none:=by
  have e':h.get? b=some o:=PySem.W.of_hideAll (trk h H) e
  refine ⟨e',?_⟩
  cases q:H b with
  | none=>rfl
  | some x =>
    have hm:b∈trk h H:=List.mem_filter.mpr ⟨List.mem_range.mpr (Heap.lt_size e'),by simp [q]⟩
    have z:(hidT h H).get? b=none:=PySem.W.hideAll_none (trk h H) hm
    rw [z] at e; cases e
def allNews (g h:Heap) (L:Addr):List (Addr × Obj):=(List.range h.objs.size).filterMap fun a=>if a=L∨(g.get? a).isSome=true then none else (h.get? a).map fun o=>(a,o)
def rest (g h:Heap) (L d:Addr):List (Addr × Obj):=(allNews g h L).filter fun p=>decide (p.1≠d)
end L2
namespace L2
open PySem PySem.Spec PyProof.Rows
structure Mod (K:PySem.W.Frag) (mg:Str→Option Value) (base:Heap):Prop where
  kin:K.In base
  glob:base.Ns mainGlobals mg
  blt:∃ mb,base.Ns builtinsNs mb∧∀ x:Str,x ≠ "__name__"→mb x=bootBuiltins x
  nolimit:base.NoLimit
structure Cx where
  prog:Program
  w:World
  K:PySem.W.Frag
  mg:Str→Option Value
  base:Heap
  A:Around
  N:List Str
  s₀:Shared
  H₀:Hp
  env:Env
  outer:List Env
  stack:List Env
  ex:List Addr
  fn:Str→Bool
  calm:Bool
  pn:List (Addr × Obj)
  xe:Value→Shared→Prop
def frs (l:List Env):List Addr:=l.filterMap (·.frame)
abbrev Cx.fs (X:Cx):List Addr:=frs X.outer
def Vis (sc:Scope) (x:Str):Prop:=sc.names.lookup x=some .local∨sc.names.lookup x=some .cell∨sc.names.lookup x=some .free
def Loc (sc:Scope) (x:Str):Prop:=sc.names.lookup x=some .local∨sc.names.lookup x=some .cell
def Look (env:Env) (h:Heap) (m:Str→Option Value) (x:Str) (u:Value):Prop :=
  (env.kindOf x=some .local∧m x=some u)∨((env.kindOf x=some .cell∨env.kindOf x=some .free)∧∃ c,env.cells.lookup x=some c∧h.IsCell c (some u))
structure Cx.Ok (X:Cx):Prop where
  mod:Mod X.K X.mg X.base
  kind:X.env.scope.kind=.function
  glob:X.env.globals=mainGlobals
  blt:X.env.builtins=builtinsNs
  above:X.s₀.heap.objs.size≤X.env.locals
  inj:∀ x y c,X.env.cells.lookup x=some c→X.env.cells.lookup y=some c→x=y
  has:∀ x,(X.env.kindOf x=some .cell∨X.env.kindOf x=some .free)→∃ c,X.env.cells.lookup x=some c
  cab:∀ x c,X.fn x=true→X.env.cells.lookup x=some c→X.s₀.heap.objs.size≤c
  hd:X.calm=true→X.A.handled=none
  frames:X.A.frames=some X.stack
  stk:X.stack=X.outer∨(X.stack=X.env :: X.outer∧X.env.frame=some X.env.locals)
  exf:∀ b∈X.ex,b≠X.env.locals∧∀ x c,X.env.cells.lookup x=some c→c≠b
  bs:∀ b o,X.base.get? b=some o→X.s₀.heap.get? b=some o∧X.H₀ b=none
  bsz:X.base.objs.size≤X.s₀.heap.objs.size
  noex:∀ b o,X.base.get? b=some o→b ∉ X.ex
  exfs:∀ b∈X.ex,b ∉ X.fs
  funs:X.s₀.heap.FunFrames X.base X.outer
  frf:∀ b∈X.fs,X.H₀ b=none
structure Inv (X:Cx) (pins:List (Addr × Obj)) (σ:List (Option V)) (H:Hp) (s:Shared):Prop where
  ok:X.Ok
  os:s.os=X.s₀.os
  bare:AllBare s.gens
  base:Un X.fs X.ex X.H₀ H X.s₀.heap s.heap
  loc:∃ m,s.heap.Ns X.env.locals m∧∀ (i:Nat) (x:Str) (v:V),X.N[i]?=some x→σ[i]?=some (some v)→Vis X.env.scope x→∃ u,RelV v u∧Look X.env s.heap m x u
  cell:∀ x c,X.env.cells.lookup x=some c→∃ v,s.heap.IsCell c v
  free:H X.env.locals=none
  freeC:∀ x c,X.env.cells.lookup x=some c→H c=none
  pin:∀ p∈X.pn++pins,s.heap.get? p.1=some p.2∧H p.1=none∧p.1≠X.env.locals∧p.1 ∉ X.fs∧∀ v,p.2.data≠.cell v
  hok:HOk X.prog X.w H s.heap
  len:σ.length=X.N.length
section
variable {X:Cx} {pins:List (Addr × Obj)} {σ:List (Option V)} {H H':Hp} {s:Shared} {h':Heap}
theorem Cx.Ok.nofr (ok:X.Ok) {b:Addr} {o:Obj} (e:X.base.get? b=some o):b ∉ X.fs:=fun hb=>by
  have:=(ok.funs.mem hb).1
  rw [e] at this; cases this
theorem Inv.bs (I:Inv X pins σ H s):∀ b o,X.base.get? b=some o→s.heap.get? b=some o∧H b=none:=fun b o e =>
  ⟨I.base.keep b o (I.ok.bs b o e).1 (I.ok.bs b o e).2 (I.ok.nofr e) (I.ok.noex b o e),I.base.free b o (I.ok.bs b o e).1 (I.ok.bs b o e).2 (I.ok.noex b o e)⟩
theorem Inv.bk (I:Inv X pins σ H s):∀ b o,X.base.get? b=some o→s.heap.get? b=some o:=fun b o e=>(I.bs b o e).1
theorem Inv.mod (I:Inv X pins σ H s):Mod X.K X.mg X.base:=I.ok.mod
theorem Inv.kIn (I:Inv X pins σ H s):X.K.In s.heap:=I.ok.mod.kin.keeps I.bk
theorem Inv.nolimit (I:Inv X pins σ H s):s.heap.NoLimit:=I.ok.mod.nolimit.keeps I.bk
theorem Inv.fr (I:Inv X pins σ H s):∃ m,Fr X.base X.env.locals s.heap m :=
  let ⟨m,hn,_⟩:=I.loc
  ⟨m,hn,I.bk,Nat.le_trans I.ok.bsz I.ok.above⟩
theorem Inv.lt (I:Inv X pins σ H s):X.env.locals < s.heap.objs.size:=let ⟨_,hn,_⟩:=I.loc; hn.lt
theorem Inv.sz (I:Inv X pins σ H s):X.s₀.heap.objs.size≤s.heap.objs.size:=Nat.le_trans I.ok.above (Nat.le_of_lt I.lt)
theorem Inv.nofs (I:Inv X pins σ H s) {a:Addr} (h:s.heap.objs.size≤a):a ∉ X.fs:=fun hb=>by
  obtain ⟨_,o,ho,_⟩:=I.ok.funs.mem hb
  exact absurd (Nat.lt_of_lt_of_le (Heap.lt_size ho) (Nat.le_trans I.sz h)) (Nat.lt_irrefl _)
theorem Inv.cne (I:Inv X pins σ H s):∀ x c,X.env.cells.lookup x=some c→c≠X.env.locals:=fun x c e z=>by
  obtain ⟨v,o,ho,hd⟩:=I.cell x c e
  obtain ⟨m,⟨o',es,ep,ho',hd',_⟩,_⟩:=I.loc
  rw [z,ho'] at ho; cases ho; rw [hd'] at hd; cases hd
theorem Inv.funs (I:Inv X pins σ H s):s.heap.FunFrames X.base X.outer:=by
  have all:∀ (l:List Env),(∀ b∈frs l,b∈X.fs)→X.s₀.heap.FunFrames X.base l→s.heap.FunFrames X.base l:=by
    intro l
    induction l with
    | nil=>intro _ _; trivial
    | cons env r ih =>
      intro hs hl
      obtain ⟨hk,⟨L,o,hf,hn,ho,hd⟩,hr⟩:=hl
      have hL:L∈X.fs:=hs L (by unfold frs; rw [List.filterMap_cons,hf]; exact List.mem_cons_self)
      obtain ⟨sl,e⟩:=I.base.slot L o ho (I.ok.frf L hL) hL fun z=>I.ok.exfs L z hL
      exact ⟨hk,⟨L,_,hf,hn,e,hd⟩,ih (fun b hb=>hs b (by unfold frs; rw [List.filterMap_cons,hf]; exact List.mem_cons_of_mem _ hb)) hr⟩
  exact all X.outer (fun _ hb=>hb) I.ok.funs
theorem Inv.stack (I:Inv X pins σ H s):s.heap.FunFrames X.base X.stack:=by
  rcases I.ok.stk with e | ⟨e,hf⟩
  · rw [e]; exact I.funs
  · rw [e]
    obtain ⟨m,hn,_⟩:=I.loc
    refine .cons (by rw [I.ok.kind]; decide) hf hn ?_ I.funs
    exact Heap.get?_none_of_le (Nat.le_trans I.ok.bsz I.ok.above)
theorem Inv.stkSub (I:Inv X pins σ H s):∀ b∈frs X.stack,b∈X.env.locals :: X.fs:=fun b hb=>by
  rcases I.ok.stk with e | ⟨e,hf⟩
  · rw [e] at hb; exact List.mem_cons_of_mem _ hb
  · rw [e] at hb
    unfold frs at hb
    rw [List.filterMap_cons,hf] at hb
    exact hb
theorem Inv.stkFree (I:Inv X pins σ H s):∀ b∈frs X.stack,H b=none:=fun b hb=>by
  rcases List.mem_cons.mp (I.stkSub b hb) with e | hb
  · rw [e]; exact I.free
  · obtain ⟨_,o,ho,_⟩:=I.ok.funs.mem hb
    exact I.base.free b o ho (I.ok.frf b hb) fun z=>I.ok.exfs b z hb
theorem Inv.step {g':Array GenState} {t':Nat} {d':Drawn} {ch:List Addr} (I:Inv X pins σ H s)
    (hch:∀ b∈ch,(b∈X.ex∨X.s₀.heap.objs.size≤b)∧b≠X.env.locals∧(∀ x c,X.env.cells.lookup x=some c→c≠b)∧∀ p∈X.pn++pins,p.1≠b)
    (keep:∀ b o,b≠X.env.locals→b ∉ X.fs→b ∉ ch→s.heap.get? b=some o→H b=none→h'.get? b=some o)
    (slot:∀ b o,b≠X.env.locals→b∈X.fs→b ∉ ch→s.heap.get? b=some o→H b=none→∃ sl,h'.get? b=some { o with slots:=sl }) (free:∀ b o,b ∉ ch→s.heap.get? b=some o→H b=none→H' b=none)
    (there:∀ b o,b ∉ ch→s.heap.get? b=some o→∃ o',h'.get? b=some o')
    (tups:∀ b xs,H b=some (.tup xs)→H' b=some (.tup xs)) (frzs:∀ b o u,H b=some (.frz o u)→H' b=some (.frz o u)) (tbls:∀ b ps,H b=some (.tbl ps)→∃ more,H' b=some (.tbl (ps++more)))
    (ns:∀ m,s.heap.Ns X.env.locals m→h'.Ns X.env.locals m) (hok:HOk X.prog X.w H' h') (hg:AllBare g') :
    Inv X pins σ H' { s with heap:=h',gens:=g',drawn:=d',toks:=t' }:=by
  have neL:∀ b o,X.s₀.heap.get? b=some o→b≠X.env.locals:=fun b o e=>Nat.ne_of_lt (Nat.lt_of_lt_of_le (Heap.lt_size e) I.ok.above)
  have neC:∀ b o,X.s₀.heap.get? b=some o→b ∉ X.ex→b ∉ ch:=fun b o e hx hb=>by
    rcases (hch b hb).1 with z | z
    · exact hx z
    · exact absurd (Nat.lt_of_lt_of_le (Heap.lt_size e) z) (Nat.lt_irrefl _)
  have cellK:∀ x c,X.env.cells.lookup x=some c→∀ v,s.heap.IsCell c v→h'.IsCell c v:=fun x c e v ⟨o,ho,hd⟩=>by
    have nch:c ∉ ch:=fun z=>(hch c z).2.2.1 x c e rfl
    by_cases hc:c∈X.fs
    · obtain ⟨sl,q⟩:=slot c o (I.cne x c e) hc nch ho (I.freeC x c e)
      exact ⟨_,q,hd⟩
    · exact ⟨o,keep c o (I.cne x c e) hc nch ho (I.freeC x c e),hd⟩
  refine ⟨I.ok,I.os,hg,⟨fun b o e n hb hx=>?_,fun b o e n hb hx=>?_,fun b o e n hx=>?_,fun b o e hx=>?_,fun b xs e=>tups b xs (I.base.tups b xs e),fun b o xs e=>frzs b o xs (I.base.frzs b o xs e),fun b ps e=>?_⟩,?_,fun x c e=>?_,?_,fun x c e=>?_,fun p hp=>?_,hok,I.len⟩
  · exact keep b o (neL b o e) hb (neC b o e hx) (I.base.keep b o e n hb hx) (I.base.free b o e n hx)
  · obtain ⟨sl,e1⟩:=I.base.slot b o e n hb hx
    obtain ⟨sl',e2⟩:=slot b _ (neL b o e) hb (neC b o e hx) e1 (I.base.free b o e n hx)
    exact ⟨sl',e2⟩
  · obtain ⟨o',e1⟩:=I.base.there b o e hx
    exact free b o' (neC b o e hx) e1 (I.base.free b o e n hx)
  · obtain ⟨o',e1⟩:=I.base.there b o e hx
    exact there b o' (neC b o e hx) e1
  · obtain ⟨m1,e1⟩:=I.base.tbls b ps e
    obtain ⟨m2,e2⟩:=tbls b _ e1
    exact ⟨m1++m2,by rw [e2,Array.append_assoc]⟩
  · obtain ⟨m,hn,hl⟩:=I.loc
    refine ⟨m,ns m hn,fun i x v e1 e2 e3=>?_⟩
    obtain ⟨u,r,l⟩:=hl i x v e1 e2 e3
    refine ⟨u,r,?_⟩
    rcases l with l | ⟨k,c,e,z⟩
    · exact .inl l
    · exact .inr ⟨k,c,e,cellK x c e _ z⟩
  · obtain ⟨v,z⟩:=I.cell x c e
    exact ⟨v,cellK x c e v z⟩
  · obtain ⟨m,⟨o,_,_,ho,_⟩,_⟩:=I.loc
    exact free _ o (fun z=>(hch _ z).2.1 rfl) ho I.free
  · obtain ⟨v,o,ho,hd⟩:=I.cell x c e
    exact free c o (fun z=>(hch c z).2.2.1 x c e rfl) ho (I.freeC x c e)
  · obtain ⟨e,n,ne,nf,d⟩:=I.pin p hp
    have nch:p.1 ∉ ch:=fun z=>(hch p.1 z).2.2.2 p hp rfl
    exact ⟨keep p.1 p.2 ne nf nch e n,free p.1 p.2 nch e n,ne,nf,d⟩
theorem Inv.un {t':Nat} (I:Inv X pins σ H s) (u:Un X.fs [] H H' s.heap h') (hok:HOk X.prog X.w H' h'):Inv X pins σ H' { s with heap:=h',toks:=t' }:=by
  obtain ⟨m,⟨o,es,ep,ho,r⟩,_⟩:=id I.loc
  obtain ⟨sl,hL⟩:=u.any ho I.free (by simp)
  exact I.step (g':=s.gens) (d':=s.drawn) (ch:=[]) (fun _ z=>nomatch z) (fun b o _ hb _ e n=>u.keep b o e n hb (by simp)) (fun b o _ hb _ e n=>u.slot b o e n hb (by simp)) (fun b o _ e n=>u.free b o e n (by simp)) (fun b o _ e=>u.there b o e (by simp)) u.tups u.frzs u.tbls (fun m' hm=>by
    obtain ⟨o',es',ep',ho',r'⟩:=hm
    rw [ho] at ho'; cases ho'
    exact ⟨_,es',ep',hL,r'⟩) hok I.bare
theorem Inv.call {g':Array GenState} {t':Nat} {d':Drawn} {ch:List Addr} (I:Inv X pins σ H s) (u:Un (frs X.stack) ch H H' s.heap h') (hok:HOk X.prog X.w H' h') (hg:AllBare g')
    (hch:∀ b∈ch,(b∈X.ex∨X.s₀.heap.objs.size≤b)∧b≠X.env.locals∧(∀ x c,X.env.cells.lookup x=some c→c≠b)∧∀ p∈X.pn++pins,p.1≠b) :
    Inv X pins σ H' { s with heap:=h',gens:=g',drawn:=d',toks:=t' }:=by
  obtain ⟨m,⟨o,es,ep,ho,r⟩,_⟩:=id I.loc
  obtain ⟨sl,hL⟩:=u.any ho I.free fun z=>(hch _ z).2.1 rfl
  exact I.step (ch:=ch) hch (fun b o hL hb hc e n=>u.keep b o e n (fun z=>(List.mem_cons.mp (I.stkSub b z)).elim hL hb) hc) (fun b o _ _ hc e n=>u.any e n hc) (fun b o hc e n=>u.free b o e n hc) (fun b o hc e=>u.there b o e hc) u.tups u.frzs u.tbls (fun m' hm=>by
    obtain ⟨o',es',ep',ho',r'⟩:=hm
    rw [ho] at ho'; cases ho'
    exact ⟨_,es',ep',hL,r'⟩) hok hg
theorem Inv.turned {t':Nat} {it:Addr} (I:Inv X pins σ H s) (k:∀ b o,b≠it→s.heap.get? b=some o→h'.get? b=some o) (hn:H it=none) (hL:it≠X.env.locals)
    (h1:it∈X.ex∨X.s₀.heap.objs.size≤it) (h2:∀ x c,X.env.cells.lookup x=some c→c≠it) (h3:∀ p∈X.pn++pins,p.1≠it):Inv X pins σ H { s with heap:=h',toks:=t' }:=by
  have nit:∀ b u,H b=some u→b≠it:=fun b u e z=>by rw [z,hn] at e; cases e
  refine I.step (g':=s.gens) (d':=s.drawn) (ch:=[it]) (fun b hb=>?_) (fun b o _ _ hc e _=>k b o (fun z=>hc (by simp [z])) e) (fun b o _ _ hc e _=>⟨o.slots,k b o (fun z=>hc (by simp [z])) e⟩) (fun _ _ _ _ n=>n)
    (fun b o hc e=>⟨o,k b o (fun z=>hc (by simp [z])) e⟩) (fun _ _ e=>e) (fun _ _ _ e=>e) (fun b ps e=>⟨#[],by rw [e]; simp⟩) (fun m hm=>?_) (fun b u e=>?_) I.bare
  · have e:b=it:=by simpa using hb
    subst e
    exact ⟨h1,hL,h2,h3⟩
  · obtain ⟨o,es,ep,ho,r⟩:=hm
    exact ⟨o,es,ep,k _ o (Ne.symm hL) ho,r⟩
  · refine (I.hok b u e).stay (fun c v hc q=>k c v ?_ q) (fun _ q=>q) fun _ _ q=>q
    rcases hc with z | z
    · rw [z]; exact nit b u e
    · exact nit c _ z
theorem Inv.tok (I:Inv X pins σ H s) (t:Nat):Inv X pins σ H { s with toks:=t }:=I.un (h':=s.heap) (t':=t) Un.refl I.hok
theorem Inv.kept {t':Nat} (I:Inv X pins σ H s) (k:∀ b u,s.heap.get? b=some u→h'.get? b=some u):Inv X pins σ H { s with heap:=h',toks:=t' }:=I.un (Un.kept k) (I.hok.kept k)
theorem Inv.laid {a:Addr} {o:HO} {t':Nat} (I:Inv X pins σ H s) (k:∀ b u,s.heap.get? b=some u→h'.get? b=some u) (hp:s.heap.objs.size≤a) (new:ObjOk X.prog X.w (upd H a o) h' a o) :
    Inv X pins σ (upd H a o) { s with heap:=h',toks:=t' }:=I.un (Un.laid k hp (I.hok.fresh hp)) (I.hok.laid k hp new)
theorem Inv.write {x e:Addr} {o:HO} {t':Nat} (I:Inv X pins σ H s) (mu:Mut (H x)) (he:e=x∨H e=some (.own x)) (k:∀ b u,b≠e→s.heap.get? b=some u→h'.get? b=some u) (heo:∃ u,h'.get? e=some u)
    (new:ObjOk X.prog X.w (upd H x o) h' x o):Inv X pins σ (upd H x o) { s with heap:=h',toks:=t' }:=I.un (Un.write mu he k heo) (I.hok.write mu he k heo new)
theorem Inv.pins_of {pins':List (Addr × Obj)} (I:Inv X pins σ H s) (h:∀ p∈pins',s.heap.get? p.1=some p.2∧H p.1=none∧p.1≠X.env.locals∧p.1 ∉ X.fs∧∀ v,p.2.data≠.cell v):Inv X pins' σ H s :=
  ⟨I.ok,I.os,I.bare,I.base,I.loc,I.cell,I.free,I.freeC,fun p hp=>(List.mem_append.mp hp).elim (fun z=>I.pin p (List.mem_append_left _ z)) (h p),I.hok,I.len⟩
theorem nodup_ix {N:List Str} (hN:N.Nodup) {i j:Nat} {x:Str} (a:N[i]?=some x) (b:N[j]?=some x):i=j:=by
  obtain ⟨h1,e1⟩:=List.getElem?_eq_some_iff.mp a
  obtain ⟨h2,e2⟩:=List.getElem?_eq_some_iff.mp b
  exact (List.getElem_inj hN).mp (e1.trans e2.symm)
theorem store_ok2 {M:Model} {A:Around} {E:Value→Shared→Prop} {i:Nat} {x:Str} {v:V} {u:Value} {Q:Unit→Shared→Prop} (I:Inv X pins σ H s) (hN:X.N.Nodup) (hi:X.N[i]?=some x) (hx:Loc X.env.scope x) (r:RelV v u)
    (h:∀ s',Inv X pins (σ.set i (some v)) H s'→(∃ a,Heap.SameBut a s.heap s'.heap∧(a=X.env.locals∨X.env.cells.lookup x=some a))→Q () s') (hf:X.fn x=true∨X.env.scope.names.lookup x=some .local:=by first | exact .inl rfl | exact .inr rfl | assumption):wpAny M A (storeName X.env x u) Q E s:=by
  obtain ⟨m,hn,hl⟩:=id I.loc
  have hcls:(X.env.scope.kind == .class || (X.env.scope.kind == .module && X.env.locals != X.env.globals))=false:=by rw [I.ok.kind]; rfl
  have hiσ:i < σ.length:=by rw [I.len]; exact (List.getElem?_eq_some_iff.mp hi).1
  have cne:=I.cne
  have tracked:∀ {a:Addr} {h':Heap},(∃ o,s.heap.get? a=some o∧H a=none)→Heap.SameBut a s.heap h'→HOk X.prog X.w H h':=fun {a h'} ha hs b ob e=>by
    obtain ⟨_,_,hfree⟩:=ha
    refine (I.hok b ob e).stay (fun c w' hc q=>(hs.2 c ?_).trans q) (fun _ q=>q) fun _ _ q=>q
    rintro rfl
    rcases hc with rfl | hc
    · rw [hfree] at e; cases e
    · rw [hfree] at hc; cases hc
  rcases hx with hk | hk
  · refine wpAny_storeName_local hk hn (fun h' hn' hs=>?_) hcls
    obtain ⟨oL,_,_,hoL,_⟩:=id hn
    refine h _ ⟨I.ok,I.os,I.bare,⟨fun b o e n hb hx=>?_,fun b o e n hb hx=>?_,I.base.free,fun b o e hx=>?_,I.base.tups,I.base.frzs,I.base.tbls⟩,⟨_,hn',fun j y v' e1 e2 e3=>?_⟩,fun y c e=>?_,I.free,I.freeC,fun p hp=>?_,tracked ⟨oL,hoL,I.free⟩ hs,by simpa using I.len⟩ ⟨_,hs,.inl rfl⟩
    · exact (hs.2 b (Nat.ne_of_lt (Nat.lt_of_lt_of_le (Heap.lt_size e) I.ok.above))).trans (I.base.keep b o e n hb hx)
    · obtain ⟨sl,e1⟩:=I.base.slot b o e n hb hx
      exact ⟨sl,(hs.2 b (Nat.ne_of_lt (Nat.lt_of_lt_of_le (Heap.lt_size e) I.ok.above))).trans e1⟩
    · obtain ⟨o',e1⟩:=I.base.there b o e hx
      exact ⟨o',(hs.2 b (Nat.ne_of_lt (Nat.lt_of_lt_of_le (Heap.lt_size e) I.ok.above))).trans e1⟩
    · by_cases hj:j=i
      · subst hj
        rw [hi] at e1; cases e1
        rw [List.getElem?_set_self hiσ] at e2
        cases e2
        exact ⟨u,r,.inl ⟨hk,by simp⟩⟩
      · rw [List.getElem?_set_ne (Ne.symm hj)] at e2
        obtain ⟨u',r',q⟩:=hl j y v' e1 e2 e3
        refine ⟨u',r',?_⟩
        rcases q with ⟨k,e⟩ | ⟨k,c,e,z⟩
        · refine .inl ⟨k,?_⟩
          have:y≠x:=fun e=>hj (nodup_ix hN e1 (e ▸ hi))
          simp [this,e]
        · exact .inr ⟨k,c,e,z.sameBut hs (cne y c e)⟩
    · obtain ⟨w',z⟩:=I.cell y c e
      exact ⟨w',z.sameBut hs (cne y c e)⟩
    · obtain ⟨e,n,ne,nf,d⟩:=I.pin p hp
      exact ⟨(hs.2 p.1 ne).trans e,n,ne,nf,d⟩
  · have hfn:X.fn x=true:=by
      rcases hf with z | z
      · exact z
      · rw [z] at hk; cases hk
    obtain ⟨c,hc⟩:=I.ok.has x (.inl hk)
    obtain ⟨w',z⟩:=I.cell x c hc
    refine wpAny_storeName_cell I.ok.kind hk hc z (fun h' hc' hs=>?_)
    obtain ⟨oc,hoc,hocd⟩:=id z
    refine h { s with heap:=h' } ⟨I.ok,I.os,I.bare,⟨fun b o e n hb hx=>?_,fun b o e n hb hx=>?_,I.base.free,fun b o e hx=>?_,I.base.tups,I.base.frzs,I.base.tbls⟩,⟨m,hn.sameBut hs (Ne.symm (cne x c hc)),fun j y v' e1 e2 e3=>?_⟩,fun y c' e=>?_,I.free,I.freeC,fun p hp=>?_,tracked ⟨oc,hoc,I.freeC x c hc⟩ hs,by simpa using I.len⟩ ⟨c,hs,.inr hc⟩
    · exact (hs.2 b (Nat.ne_of_lt (Nat.lt_of_lt_of_le (Heap.lt_size e) (I.ok.cab x c hfn hc)))).trans (I.base.keep b o e n hb hx)
    · obtain ⟨sl,e1⟩:=I.base.slot b o e n hb hx
      exact ⟨sl,(hs.2 b (Nat.ne_of_lt (Nat.lt_of_lt_of_le (Heap.lt_size e) (I.ok.cab x c hfn hc)))).trans e1⟩
    · obtain ⟨o',e1⟩:=I.base.there b o e hx
      exact ⟨o',(hs.2 b (Nat.ne_of_lt (Nat.lt_of_lt_of_le (Heap.lt_size e) (I.ok.cab x c hfn hc)))).trans e1⟩
    · by_cases hj:j=i
      · subst hj
        rw [hi] at e1; cases e1
        rw [List.getElem?_set_self hiσ] at e2
        cases e2
        exact ⟨u,r,.inr ⟨.inl hk,c,hc,hc'⟩⟩
      · rw [List.getElem?_set_ne (Ne.symm hj)] at e2
        obtain ⟨u',r',q⟩:=hl j y v' e1 e2 e3
        refine ⟨u',r',?_⟩
        rcases q with q | ⟨k,c',e,z'⟩
        · exact .inl q
        · refine .inr ⟨k,c',e,z'.sameBut hs ?_⟩
          rintro rfl
          exact hj (nodup_ix hN e1 (I.ok.inj _ _ _ e hc ▸ hi))
    · by_cases hcc:c'=c
      · subst hcc; exact ⟨_,hc'⟩
      · obtain ⟨w2,z2⟩:=I.cell y c' e
        exact ⟨w2,z2.sameBut hs hcc⟩
    · obtain ⟨e,n,ne,nf,d⟩:=I.pin p hp
      refine ⟨(hs.2 p.1 ?_).trans e,n,ne,nf,d⟩
      intro q
      rw [q,hoc] at e
      have q':oc=p.2:=Option.some.inj e
      exact d w' (by rw [← q']; exact hocd)
theorem store_ok {M:Model} {A:Around} {E:Value→Shared→Prop} {i:Nat} {x:Str} {v:V} {u:Value} {Q:Unit→Shared→Prop} (I:Inv X pins σ H s) (hN:X.N.Nodup) (hi:X.N[i]?=some x) (hx:Loc X.env.scope x) (r:RelV v u)
    (h:∀ s',Inv X pins (σ.set i (some v)) H s'→Q () s') (hf:X.fn x=true∨X.env.scope.names.lookup x=some .local:=by first | exact .inl rfl | exact .inr rfl | assumption):wpAny M A (storeName X.env x u) Q E s :=
  store_ok2 I hN hi hx r (fun s' I' _=>h s' I') hf
theorem Inv.call' {s':Shared} {ch:List Addr} (I:Inv X pins σ H s) (ho:s'.os=s.os) (u:Un (frs X.stack) ch H H' s.heap s'.heap) (hok:HOk X.prog X.w H' s'.heap) (hg:AllBare s'.gens)
    (hch:∀ b∈ch,(b∈X.ex∨X.s₀.heap.objs.size≤b)∧b≠X.env.locals∧(∀ x c,X.env.cells.lookup x=some c→c≠b)∧∀ p∈X.pn++pins,p.1≠b):Inv X pins σ H' s':=by
  obtain ⟨h',g',d',t',o'⟩:=s'
  have e:o'=s.os:=ho
  subst e
  exact I.call (g':=g') (t':=t') (d':=d') u hok hg hch
end
abbrev XK:=Value→Option Addr→Hp→Prop
abbrev St:=List (Option V)
abbrev VK:=V→Hp→Prop
abbrev TE:=St→Hp→VK→Prop
abbrev TT:=St→Hp→(Bool→Hp→Prop)→Prop
abbrev TA:=St→Hp→(List V→Hp→Prop)→Prop
structure Ends where
  nx:St→Hp→Prop
  rt:VK
  bk:St→Hp→Prop:=fun _ _=>False
  ct:St→Hp→Prop:=fun _ _=>False
abbrev TS:=Ends→St→Hp→Prop
def EP (X:Cx) (pins:List (Addr × Obj)) (σ:St) (Q:VK) (u:Value) (s':Shared):Prop:=∃ v H',Inv X pins σ H' s'∧RelV v u∧Q v H'
def TP (X:Cx) (pins:List (Addr × Obj)) (σ:St) (Q:Bool→Hp→Prop) (b:Bool) (s':Shared):Prop:=∃ H',Inv X pins σ H' s'∧Q b H'
def AP (X:Cx) (pins:List (Addr × Obj)) (σ:St) (Q:List V→Hp→Prop) (us:List Value) (s':Shared):Prop:=∃ vs H',Inv X pins σ H' s'∧Vals vs us∧Q vs H'
def SP (X:Cx) (pins:List (Addr × Obj)) (D:Ends) (f:Flow) (s':Shared):Prop :=
  match f with
  | .next=>∃ σ' H',Inv X pins σ' H' s'∧D.nx σ' H'
  | .brk=>∃ σ' H',Inv X pins σ' H' s'∧D.bk σ' H'
  | .cont=>∃ σ' H',Inv X pins σ' H' s'∧D.ct σ' H'
  | .ret u=>∃ v σ' H',Inv X pins σ' H' s'∧RelV v u∧D.rt v H'
def PE (X:Cx) (e:Expr) (t:TE):Prop :=
  ∀ (pins:List (Addr × Obj)) (s:Shared) (σ:St) (H:Hp) (Q:VK),Inv X pins σ H s→t σ H Q→wpAny (model X.prog X.w) X.A (eval e X.env) (EP X pins σ Q) X.xe s
def PT (X:Cx) (e:Expr) (t:TT):Prop :=
  ∀ (pins:List (Addr × Obj)) (s:Shared) (σ:St) (H:Hp) (Q:Bool→Hp→Prop),Inv X pins σ H s→t σ H Q→wpAny (model X.prog X.w) X.A (isTrue e X.env (eval e X.env)) (TP X pins σ Q) X.xe s
def PW (X:Cx) (e:Expr) (t:TT):Prop :=
  ∀ (whole:Sem Value) (pins:List (Addr × Obj)) (s:Shared) (σ:St) (H:Hp) (Q:Bool→Hp→Prop),Inv X pins σ H s→t σ H Q→wpAny (model X.prog X.w) X.A (isTrue e X.env whole) (TP X pins σ Q) X.xe s
theorem PW.pt {X:Cx} {e:Expr} {t:TT} (h:PW X e t):PT X e t:=h _
def PA (X:Cx) (es:List Expr) (t:TA):Prop :=
  ∀ (pos:Pos) (pins:List (Addr × Obj)) (s:Shared) (σ:St) (H:Hp) (Q:List V→Hp→Prop),Inv X pins σ H s→t σ H Q→wpAny (model X.prog X.w) X.A (spliced (backTo pos (starEach es X.env))) (AP X pins σ Q) X.xe s
def PS (X:Cx) (st:Stmt) (t:TS):Prop :=
  ∀ (pins:List (Addr × Obj)) (s:Shared) (σ:St) (H:Hp) (D:Ends),Inv X pins σ H s→t D σ H→wpAny (model X.prog X.w) X.A (exec st X.env) (SP X pins D) X.xe s
def PSs (X:Cx) (st:List Stmt) (t:TS):Prop :=
  ∀ (pins:List (Addr × Obj)) (s:Shared) (σ:St) (H:Hp) (D:Ends),Inv X pins σ H s→t D σ H→wpAny (model X.prog X.w) X.A (execs st X.env) (SP X pins D) X.xe s
theorem thn {α:Type} {t:Sem α} {Q Q':α→Shared→Prop} {M:Model} {A:Around} {E:Value→Shared→Prop} {s:Shared} (h:wpAny M A t Q E s) (hQ:∀ a s,Q a s→Q' a s):wpAny M A t Q' E s:=wpAny_mono h hQ fun _ _ x=>x
end L2
namespace L2
open PySem PySem.Spec PyProof.Rows
section
variable {X:Cx}
theorem bin {a b:Expr} {ta tb:TE} (ha:PE X a ta) (hb:PE X b tb) {pins:List (Addr × Obj)} {s:Shared} {σ:St} {H:Hp} {R:V→V→Hp→Prop} (I:Inv X pins σ H s) (h:ta σ H fun x H1=>tb σ H1 fun y H2=>R x y H2)
    {α:Type} {Q:α→Shared→Prop} {f:Value→Value→Sem α}
    (hf:∀ v u s2 x y H2,Inv X pins σ H2 s2→RelV x v→RelV y u→R x y H2→wpAny (model X.prog X.w) X.A (f v u) Q X.xe s2) :
    wpAny (model X.prog X.w) X.A (eval a X.env) (fun v s₁=>wpAny (model X.prog X.w) X.A (eval b X.env) (fun u s₂=>wpAny (model X.prog X.w) X.A (f v u) Q X.xe s₂) X.xe s₁) X.xe s:=by
  refine thn (ha pins s σ H _ I h) fun v s1 ⟨x,H1,I1,r1,q1⟩=>?_
  refine thn (hb pins s1 σ H1 _ I1 q1) fun u s2 ⟨y,H2,I2,r2,q2⟩=>?_
  exact hf v u s2 x y H2 I2 r1 r2 q2
def tVar (i:Nat):TE:=fun σ H Q=>∃ v,σ[i]?=some (some v)∧Q v H
def tC (v:V):TE:=fun _ H Q=>Q v H
theorem pe_var {i:Nat} {x:Str} {pos:Pos} (hN:X.N[i]?=some x) (hv:Vis X.env.scope x) (hd:(x == ("__debug__" : Str))=false:=by decide) (hcd:(x == ("__classdict__" : Str))=false:=by decide):PE X (.Name x pos) (tVar i):=by
  intro pins s σ H Q I h
  obtain ⟨v,e,h⟩:=h
  obtain ⟨m,hn,hl⟩:=I.loc
  obtain ⟨u,r,l⟩:=hl i x v hN e hv
  have fin:EP X pins σ Q u s:=⟨v,H,I,r,h⟩
  rcases l with ⟨hk,hm⟩ | ⟨hk,c,hc,hcell⟩
  · exact wpAny_Name (wpAny_loadName_local I.ok.kind hk hn hm fin) hd
  · rcases hk with hk | hk
    · exact wpAny_Name (wpAny_loadName_cell I.ok.kind hk hc hcell fin) hd
    · exact wpAny_Name (wpAny_loadName_free I.ok.kind hk hc hcell fin hcd) hd
theorem pe_int {i j pos}:PE X (.Constant (.int i) j pos) (tC (.int i)):=fun _ _ _ H _ I h=>wpAny_Constant_int ⟨.int i,H,I.tok _,⟨_,rfl⟩,h⟩
theorem pe_bl {b j pos}:PE X (.Constant (.bool b) j pos) (tC (.bl b)):=fun _ _ _ H _ I h=>Constant_bool ⟨.bl b,H,I,rfl,h⟩
theorem pe_str {x j pos}:PE X (.Constant (.str x) j pos) (tC (.str x)):=fun _ _ _ H _ I h=>Calls.Constant_str ⟨.str x,H,I.tok _,⟨_,rfl⟩,h⟩
def Gl (X:Cx) (x:Str):Prop:=X.env.kindOf x=some .globalImplicit
theorem ld_glob {E:Value→Shared→Prop} {pins:List (Addr × Obj)} {s:Shared} {σ:St} {H:Hp} {x:Str} {u:Value} {pos:Pos} {Q:Value→Shared→Prop} (I:Inv X pins σ H s) (hg:Gl X x) (hm:X.mg x=some u) (h:Q u s)
    (hd:(x == ("__debug__" : Str))=false:=by decide):wpAny (model X.prog X.w) X.A (eval (.Name x pos) X.env) Q E s :=
  Calls.Name_function_global I.ok.kind hg (Calls.loadGlobal_global (by rw [I.ok.glob]; exact I.mod.glob.keeps I.bk) hm h) hd
theorem ld_blt {E:Value→Shared→Prop} {pins:List (Addr × Obj)} {s:Shared} {σ:St} {H:Hp} {x:Str} {u:Value} {pos:Pos} {Q:Value→Shared→Prop} (I:Inv X pins σ H s) (hg:Gl X x) (hm:X.mg x=none) (hv:bootBuiltins x=some u) (h:Q u s)
    (hn:x ≠ "__name__":=by decide) (hd:(x == ("__debug__" : Str))=false:=by decide):wpAny (model X.prog X.w) X.A (eval (.Name x pos) X.env) Q E s:=by
  obtain ⟨mb,h1,h2⟩:=I.mod.blt
  exact Calls.Name_function_global I.ok.kind hg (Calls.loadGlobal_builtin (by rw [I.ok.glob]; exact I.mod.glob.keeps I.bk) hm (by rw [I.ok.blt]; exact h1.keeps I.bk) ((h2 x hn).trans hv) h) hd
theorem pe_bltn {x:Str} {v:V} {u:Value} {pos:Pos} (hg:Gl X x) (hm:X.mg x=none) (hv:bootBuiltins x=some u) (r:RelV v u) (hn:x ≠ "__name__":=by decide) (hd:(x == ("__debug__" : Str))=false:=by decide):PE X (.Name x pos) (tC v) :=
  fun _ _ _ H _ I h=>ld_blt I hg hm hv ⟨v,H,I,r,h⟩ hn hd
variable {a b:Expr} {ta tb:TE} {pos:Pos}
def tB (t:TE):TT:=fun σ H Q=>t σ H fun x H1=>∃ c,x=.bl c∧Q c H1
theorem pt_val {e:Expr} {t:TE} (h:PE X e t) (he:∀ whole,isTrue e X.env whole=(do let v ← whole; standAt e.pos; holding [v] (truthy v)):=by intro _; rfl):PT X e (tB t):=by
  intro pins s σ H Q I hw
  refine isTrue_plain (thn (h pins s σ H _ I hw) fun v s1 ⟨x,H1,I1,r1,q1⟩=>?_) (he _)
  obtain ⟨d,rfl,q⟩:=q1
  cases r1
  exact wpAny_truthy_bool ⟨H1,I1,q⟩
variable {tA tB':TT} {rest:List Expr}
def tAnd (t u:TT):TT:=fun σ H Q=>t σ H fun c H1=>if c=true then u σ H1 Q else Q false H1
def tOr (t u:TT):TT:=fun σ H Q=>t σ H fun c H1=>if c=true then Q true H1 else u σ H1 Q
def tNot (t:TT):TT:=fun σ H Q=>t σ H fun c H1=>Q (!c) H1
theorem pw_and1 (ha:PT X a tA):PW X (.BoolOp .And [a] pos) tA:=by
  intro wh pins s σ H Q I h
  refine isTrue_and (thn (ha pins s σ H Q I h) fun c s1 e=>?_)
  cases c with
  | true=>exact isTrue_and_nil e
  | false=>exact e
theorem pw_or1 (ha:PT X a tA):PW X (.BoolOp .Or [a] pos) tA:=by
  intro wh pins s σ H Q I h
  refine isTrue_or (thn (ha pins s σ H Q I h) fun c s1 e=>?_)
  cases c with
  | false=>exact isTrue_or_nil e
  | true=>exact e
theorem pw_and (ha:PT X a tA) (hb:PW X (.BoolOp .And (b :: rest) pos) tB'):PW X (.BoolOp .And (a :: b :: rest) pos) (tAnd tA tB'):=by
  intro wh pins s σ H Q I h
  refine isTrue_and (thn (ha pins s σ H _ I h) fun c s1 ⟨H1,I1,q1⟩=>?_)
  cases c with
  | true=>exact hb wh pins s1 σ H1 Q I1 q1
  | false=>exact ⟨H1,I1,q1⟩
theorem pw_or (ha:PT X a tA) (hb:PW X (.BoolOp .Or (b :: rest) pos) tB'):PW X (.BoolOp .Or (a :: b :: rest) pos) (tOr tA tB'):=by
  intro wh pins s σ H Q I h
  refine isTrue_or (thn (ha pins s σ H _ I h) fun c s1 ⟨H1,I1,q1⟩=>?_)
  cases c with
  | true=>exact ⟨H1,I1,q1⟩
  | false=>exact hb wh pins s1 σ H1 Q I1 q1
theorem pt_not (ha:PT X a tA):PT X (.UnaryOp .Not a pos) (tNot tA):=by
  intro pins s σ H Q I h
  exact isTrue_not (ha pins s σ H (fun c H1=>Q (!c) H1) I h)
def tOrV (ta tb:TE):TE:=fun σ H Q=>ta σ H fun x H1=>∃ c,x=.bl c∧if c=true then Q (.bl true) H1 else tb σ H1 Q
theorem pe_one {op} {t:TE} (h:PE X a t):PE X (.BoolOp op [a] pos) t:=fun pins s σ H Q I hw=>BoolOp_one (h pins s σ H Q I hw)
theorem pe_or (ha:PE X a ta) (hb:PE X (.BoolOp .Or (b :: rest) pos) tb):PE X (.BoolOp .Or (a :: b :: rest) pos) (tOrV ta tb):=by
  intro pins s σ H Q I h
  refine BoolOp_or (thn (ha pins s σ H _ I h) fun v s1 ⟨x,H1,I1,r1,q1⟩=>?_)
  obtain ⟨c,rfl,q1⟩:=q1
  cases r1
  refine wpAny_truthy_bool ?_
  cases c with
  | false=>exact hb pins s1 σ H1 Q I1 q1
  | true=>exact ⟨.bl true,H1,I1,rfl,q1⟩
def tIf (t:TT) (ta tb:TE):TE:=fun σ H Q=>t σ H fun c H1=>if c=true then ta σ H1 Q else tb σ H1 Q
theorem pe_ifExp {c:Expr} (hc:PT X c tA) (ha:PE X a ta) (hb:PE X b tb):PE X (.IfExp c a b pos) (tIf tA ta tb):=by
  intro pins s σ H Q I h
  refine wpAny_IfExp (thn (hc pins s σ H _ I h) fun d s1 ⟨H1,I1,q1⟩=>?_)
  cases d with
  | true=>exact ha pins s1 σ H1 Q I1 q1
  | false=>exact hb pins s1 σ H1 Q I1 q1
end
end L2
namespace L2
open PySem PySem.Spec PyProof.Rows
def SqL (K:PySem.W.Frag) (H:Hp) (a:Addr) (xs:List V):Prop :=
  Rd H a (.lst xs) ∨
    ∃ (o:Obj) (its:Array Value) (n:Nat),K.lookup a=some o∧o.cls=.type "list"∧o.dict=none∧o.data=.seq its n∧its.size≤sizeLine∧Vals xs its.toList
def SqT (K:PySem.W.Frag) (H:Hp) (a:Addr) (xs:List V):Prop :=
  Rd H a (.tup xs) ∨
    ∃ (o:Obj) (its:Array Value) (n:Nat),K.lookup a=some o∧o.cls=.type "tuple"∧o.data=.seq its n∧its.size≤sizeLine∧Vals xs its.toList
def absV:Value→Option V
  | .none=>some .non
  | .bool b=>some (.bl b)
  | .int i _=>some (.int i)
  | .str x _=>some (.str x)
  | .bytes b _=>some (.byt b)
  | .float b _=>some (.flt b)
  | .ref a=>some (.ref a)
  | .type n=>some (.ty n)
  | _=>none
theorem RelV.abs {x:V} {u:Value} (r:RelV x u):absV u=some x:=by
  cases x with
  | non=>cases r; rfl
  | bl _=>cases r; rfl
  | int _=>obtain ⟨t,rfl⟩:=r; rfl
  | str _=>obtain ⟨t,rfl⟩:=r; rfl
  | byt _=>obtain ⟨t,rfl⟩:=r; rfl
  | flt _=>obtain ⟨t,rfl⟩:=r; rfl
  | ref _=>cases r; rfl
  | ty _=>cases r; rfl
theorem RelV.inj {x y:V} {u:Value} (r:RelV x u) (q:RelV y u):x=y:=Option.some.inj (r.abs.symm.trans q.abs)
theorem Vals.inj:∀ {xs ys:List V} {us:List Value},Vals xs us→Vals ys us→xs=ys
  | _,_,_,.nil,.nil=>rfl
  | _,_,_,.cons r t,.cons r' t'=>by rw [r.inj r',Vals.inj t t']
section
variable {X:Cx} {pins:List (Addr × Obj)} {σ:St} {H:Hp} {s:Shared} {a:Addr} {xs ys:List V}
theorem SqL.of {K:PySem.W.Frag} (h:H a=some (.lst xs)):SqL K H a xs:=.inl (.inl h)
theorem SqT.of {K:PySem.W.Frag} (h:H a=some (.tup xs)):SqT K H a xs:=.inl (.inl h)
theorem Inv.list (I:Inv X pins σ H s) (h:SqL X.K H a xs):∃ its:List Value,Vals xs its∧PlainL s.heap a its.toArray∧xs.length≤sizeLine:=by
  rcases h with h | ⟨o,its,n,hk,hc,hd,hs,hz,r⟩
  · obtain ⟨z,its,n,r,e⟩:=h.ok I.hok
    exact ⟨its,r,⟨_,n,e,rfl,rfl,rfl⟩,z⟩
  · refine ⟨its.toList,r,⟨o,n,I.kIn a o hk,hc,hd,by simpa using hs⟩,?_⟩
    have e:=r.length
    simp only [Array.length_toList] at e
    omega
theorem Inv.tuple (I:Inv X pins σ H s) (h:SqT X.K H a xs):∃ its:List Value,Vals xs its∧IsTup s.heap a its.toArray∧xs.length≤sizeLine:=by
  rcases h with h | ⟨o,its,n,hk,hc,hs,hz,r⟩
  · obtain ⟨z,its,r,p⟩:=h.ok I.hok
    exact ⟨its,r,p,z⟩
  · refine ⟨its.toList,r,⟨o,I.kIn a o hk,hc,n,by simpa using hs⟩,?_⟩
    have e:=r.length
    simp only [Array.length_toList] at e
    omega
theorem Inv.list_inj (I:Inv X pins σ H s) (h:SqL X.K H a xs) (h':SqL X.K H a ys):xs=ys:=by
  obtain ⟨its,r,⟨o,n,e,_,_,d⟩,_⟩:=I.list h
  obtain ⟨its',r',⟨o',n',e',_,_,d'⟩,_⟩:=I.list h'
  rw [e] at e'; cases e'
  rw [d] at d'
  injection d' with d1 _
  have:its=its':=by simpa using congrArg Array.toList d1
  subst this
  exact r.inj r'
theorem Inv.tuple_inj (I:Inv X pins σ H s) (h:SqT X.K H a xs) (h':SqT X.K H a ys):xs=ys:=by
  obtain ⟨its,r,⟨o,e,_,n,d⟩,_⟩:=I.tuple h
  obtain ⟨its',r',⟨o',e',_,n',d'⟩,_⟩:=I.tuple h'
  rw [e] at e'; cases e'
  rw [d] at d'
  injection d' with d1 _
  have:its=its':=by simpa using congrArg Array.toList d1
  subst this
  exact r.inj r'
end
abbrev Cx.wish (X:Cx) (E:Value→Shared→Prop):Cx:={ X with xe:=E }
abbrev Cx.nox (X:Cx):Cx:=X.wish fun _ _=>False
theorem Cx.Ok.wish {X:Cx} (ok:X.Ok) (E:Value→Shared→Prop):(X.wish E).Ok :=
  ⟨ok.mod,ok.kind,ok.glob,ok.blt,ok.above,ok.inj,ok.has,ok.cab,ok.hd,ok.frames,ok.stk,ok.exf,ok.bs,ok.bsz,ok.noex,ok.exfs,ok.funs,ok.frf⟩
theorem Cx.Ok.unwish {X:Cx} {E:Value→Shared→Prop} (ok:(X.wish E).Ok):X.Ok :=
  ⟨ok.mod,ok.kind,ok.glob,ok.blt,ok.above,ok.inj,ok.has,ok.cab,ok.hd,ok.frames,ok.stk,ok.exf,ok.bs,ok.bsz,ok.noex,ok.exfs,ok.funs,ok.frf⟩
section
variable {X:Cx} {pins:List (Addr × Obj)} {σ:St} {H:Hp} {s:Shared} {E:Value→Shared→Prop}
theorem Inv.wish (I:Inv X pins σ H s) (E:Value→Shared→Prop):Inv (X.wish E) pins σ H s:=⟨I.ok.wish E,I.os,I.bare,I.base,I.loc,I.cell,I.free,I.freeC,I.pin,I.hok,I.len⟩
theorem Inv.unwish (I:Inv (X.wish E) pins σ H s):Inv X pins σ H s:=⟨I.ok.unwish,I.os,I.bare,I.base,I.loc,I.cell,I.free,I.freeC,I.pin,I.hok,I.len⟩
theorem SP.unwish {D:Ends} {f:Flow} {s':Shared} (h:SP (X.wish E) pins D f s'):SP X pins D f s':=by
  cases f with
  | next=>obtain ⟨σ',H',I,q⟩:=h; exact ⟨σ',H',I.unwish,q⟩
  | brk=>obtain ⟨σ',H',I,q⟩:=h; exact ⟨σ',H',I.unwish,q⟩
  | cont=>obtain ⟨σ',H',I,q⟩:=h; exact ⟨σ',H',I.unwish,q⟩
  | ret u=>obtain ⟨v,σ',H',I,r,q⟩:=h; exact ⟨v,σ',H',I.unwish,r,q⟩
theorem PE.nox {e:Expr} {t:TE} (h:PE X.nox e t):PE X e t:=fun pins s σ H Q I hw =>
  wpAny_mono (h pins s σ H Q (I.wish _) hw) (fun _ _ ⟨v,H',I',r,q⟩=>⟨v,H',I'.unwish,r,q⟩) fun _ _ z=>False.elim z
theorem PT.nox {e:Expr} {t:TT} (h:PT X.nox e t):PT X e t:=fun pins s σ H Q I hw =>
  wpAny_mono (h pins s σ H Q (I.wish _) hw) (fun _ _ ⟨H',I',q⟩=>⟨H',I'.unwish,q⟩) fun _ _ z=>False.elim z
theorem PSs.nox {st:List Stmt} {t:TS} (h:PSs X.nox st t):PSs X st t:=fun pins s σ H D I hw =>
  wpAny_mono (h pins s σ H D (I.wish _) hw) (fun _ _ q=>q.unwish) fun _ _ z=>False.elim z
end
section
variable {X:Cx} {st:Stmt} {rest:List Stmt} {t u:TS} {e:Expr} {te:TE} {pos:Pos}
def tNext:TS:=fun D σ H=>D.nx σ H
def tSeq (t u:TS):TS:=fun D σ H=>t { D with nx:=u D } σ H
theorem pss_nil:PSs X [] tNext:=fun _ _ σ H _ I h=>wpAny_execs_nil ⟨σ,H,I,h⟩
theorem pss_cons (h1:PS X st t) (h2:PSs X rest u):PSs X (st :: rest) (tSeq t u):=by
  intro pins s σ H D I h
  refine wpAny_execs_cons (thn (h1 pins s σ H { D with nx:=u D } I h) fun f s1 q=>?_)
  cases f with
  | next =>
    obtain ⟨σ',H',I',q⟩:=q
    exact h2 pins s1 σ' H' D I' q
  | ret v=>exact q
  | brk=>exact q
  | cont=>exact q
theorem pss_one (h1:PS X st t):PSs X [st] t:=by
  intro pins s σ H D I h
  refine wpAny_execs_cons (thn (h1 pins s σ H D I h) fun f s1 q=>?_)
  cases f with
  | next=>exact wpAny_execs_nil q
  | ret v=>exact q
  | brk=>exact q
  | cont=>exact q
theorem Inv.quiet {pins:List (Addr × Obj)} {σ:St} {H:Hp} {s:Shared} (I:Inv X pins σ H s):interactive X.env=false:=by simp [interactive,I.ok.kind]
def tDrop (te:TE):TS:=fun D σ H=>te σ H fun _ H1=>D.nx σ H1
theorem ps_expr (he:PE X e te) (hs:swapsWith e none pos.line X.env=pure false:=by rfl):PS X (.Expr e pos) (tDrop te):=by
  intro pins s σ H D I h
  exact wpAny_Expr_any (thn (he pins s σ H _ I h) fun v s1 ⟨x,H1,I1,r1,q1⟩=>⟨σ,H1,I1,q1⟩) I.quiet hs
def tRet (te:TE):TS:=fun D σ H=>te σ H D.rt
theorem ps_ret (he:PE X e te):PS X (.Return (some e) pos) (tRet te):=by
  intro pins s σ H D I h
  exact wpAny_Return_some (thn (he pins s σ H _ I h) fun v s1 ⟨x,H1,I1,r1,q1⟩=>⟨x,σ,H1,I1,r1,q1⟩)
def tIfS (c:TT) (t u:TS):TS:=fun D σ H=>c σ H fun b H1=>if b=true then t D σ H1 else u D σ H1
theorem ps_if {c:Expr} {a b:List Stmt} {tc:TT} (hc:PT X c tc) (ha:PSs X a t) (hb:PSs X b u):PS X (.If c a b pos) (tIfS tc t u):=by
  intro pins s σ H D I h
  refine wpAny_If (thn (hc pins s σ H _ I h) fun d s1 ⟨H1,I1,q1⟩=>?_)
  cases d with
  | true=>exact ha pins s1 σ H1 D I1 q1
  | false=>exact hb pins s1 σ H1 D I1 q1
end
abbrev TG:=V→St→Hp→(St→Hp→Prop)→Prop
abbrev TGs:=List V→St→Hp→(St→Hp→Prop)→Prop
def PG (X:Cx) (target:Expr) (t:TG):Prop :=
  ∀ (pins:List (Addr × Obj)) (s:Shared) (σ:St) (H:Hp) (v:V) (u:Value) (Q:St→Hp→Prop),Inv X pins σ H s→RelV v u→t v σ H Q →
    wpAny (model X.prog X.w) X.A (assign target X.env u) (fun _ s'=>∃ σ' H',Inv X pins σ' H' s'∧Q σ' H') X.xe s
def PGs (X:Cx) (ts:List Expr) (t:TGs):Prop :=
  ∀ (pins:List (Addr × Obj)) (s:Shared) (σ:St) (H:Hp) (vs:List V) (us:List Value) (Q:St→Hp→Prop),Inv X pins σ H s→Vals vs us→t vs σ H Q →
    wpAny (model X.prog X.w) X.A (assignInOrder ((assignEach ts X.env).map (·.2)) us) (fun _ s'=>∃ σ' H',Inv X pins σ' H' s'∧Q σ' H') X.xe s
abbrev TSet:=V→V→V→Hp→(Hp→Prop)→Prop
def PSet (X:Cx) (t:TSet):Prop :=
  ∀ (pins:List (Addr × Obj)) (s:Shared) (σ:St) (H:Hp) (o i v:V) (ov iv u:Value) (Q:Hp→Prop),Inv X pins σ H s→RelV o ov→RelV i iv→RelV v u→t o i v H Q →
    wpAny (model X.prog X.w) X.A (setItem ov iv u) (fun _ s'=>∃ H',Inv X pins σ H' s'∧Q H') X.xe s
abbrev TIp:=V→V→Hp→VK→Prop
def PIp (X:Cx) (op:Operator) (t:TIp):Prop :=
  ∀ (pins:List (Addr × Obj)) (s:Shared) (σ:St) (H:Hp) (x y:V) (v u:Value) (Q:VK),Inv X pins σ H s→RelV x v→RelV y u→t x y H Q →
    wpAny (model X.prog X.w) X.A (inplaceOp op v u) (EP X pins σ Q) X.xe s
section
variable {X:Cx} {pos:Pos}
def gName (i:Nat):TG:=fun v σ H Q=>Q (σ.set i (some v)) H
theorem pg_name {i:Nat} {x:Str} (hN:X.N.Nodup) (hi:X.N[i]?=some x) (hx:Loc X.env.scope x) (hf:X.fn x=true∨X.env.scope.names.lookup x=some .local:=by first | exact .inl rfl | exact .inr rfl | assumption):PG X (.Name x pos) (gName i):=by
  intro pins s σ H v u Q I r h
  exact wpAny_assign_Name (store_ok I hN hi hx r (fun s' I'=>⟨_,H,I',h⟩) hf)
def gNil:TGs:=fun vs σ H Q=>vs=[]∧Q σ H
def gCons (t:TG) (u:TGs):TGs:=fun vs σ H Q=>∃ v r,vs=v :: r∧t v σ H fun σ' H'=>u r σ' H' Q
theorem pgs_nil:PGs X [] gNil:=by
  intro pins s σ H vs us Q I r h
  obtain ⟨e,h⟩:=h
  subst e
  cases r
  exact assignInOrder_nil ⟨σ,H,I,h⟩
theorem pgs_cons {e:Expr} {es:List Expr} {t:TG} {u:TGs} (h1:PG X e t) (h2:PGs X es u)
    (hs:(assignEach (e :: es) X.env).map (·.2)=assign e X.env :: (assignEach es X.env).map (·.2):=by rfl):PGs X (e :: es) (gCons t u):=by
  intro pins s σ H vs us Q I r h
  obtain ⟨v,vr,e1,h⟩:=h
  subst e1
  cases r with
  | cons r rr =>
    rw [hs]
    refine assignInOrder_cons (thn (h1 pins s σ H _ _ _ I r h) fun _ s1 ⟨σ1,H1,I1,q1⟩=>?_)
    exact h2 pins s1 σ1 H1 _ _ Q I1 rr q1
def gTup (K:PySem.W.Frag) (n:Nat) (t:TGs):TG:=fun v σ H Q=>∃ a xs,v=.ref a∧SqT K H a xs∧xs.length=n∧t xs σ H Q
theorem pg_tup {es:List Expr} {k:Nat} {t:TGs} {n:Nat} (hc:X.calm=true) (h:PGs X es t)
    (hn:(assignEach es X.env).length=n:=by rfl) (hst:(assignEach es X.env).findIdx? (·.1)=none:=by rfl):PG X (.Tuple es k pos) (gTup X.K n t):=by
  intro pins s σ H v u Q I r hw
  obtain ⟨a,xs,e1,hq,hl,hw⟩:=hw
  subst e1
  cases r
  obtain ⟨its,rv,ht,hz⟩:=I.tuple hq
  refine assign_Tuple_tuple (I.ok.hd hc) ht (by simp [hn,← hl,rv.length]) hst fun h' hx=>?_
  have I1:Inv X pins σ H { s with heap:=h' }:=I.kept (t':=s.toks) fun b o e=>hx b o (Nat.ne_of_lt (Heap.lt_size e)) e
  exact h pins _ σ H xs _ Q I1 (by simpa using rv) hw
def gSub (to ti:TE) (t:TSet):TG:=fun v σ H Q=>to σ H fun o H1=>ti σ H1 fun i H2=>t o i v H2 fun H3=>Q σ H3
theorem pg_sub {o i:Expr} {to ti:TE} {t:TSet} (ho:PE X o to) (hi:PE X i ti) (hs:PSet X t)
    (ha:∀ v,assign (.Subscript o i pos) X.env v=(do
      let ov ← holding [v] (eval o X.env)
      let iv ← holding [v,ov] (eval i X.env)
      standAt pos
      holding [v,ov,iv] (setItem ov iv v)
      release [v,ov,iv] []):=by intro _; rfl):PG X (.Subscript o i pos) (gSub to ti t):=by
  intro pins s σ H v u Q I r h
  rw [ha]
  refine wpAny_bind (wpAny_holding (thn (ho pins s σ H _ I h) fun ov s1 ⟨x,H1,I1,r1,q1⟩=>?_))
  refine wpAny_bind (wpAny_holding (thn (hi pins s1 σ H1 _ I1 q1) fun iv s2 ⟨y,H2,I2,r2,q2⟩=>?_))
  refine wpAny_bind (wpAny_standAt (wpAny_bind (wpAny_holding (thn (hs pins s2 σ H2 x y v ov iv u _ I2 r1 r2 r q2) fun _ s3 ⟨H3,I3,q3⟩=>?_))))
  exact wpAny_release ⟨σ,H3,I3,q3⟩
def tAsg (te:TE) (g:TG):TS:=fun D σ H=>te σ H fun x H1=>g x σ H1 D.nx
theorem ps_asg {tg e:Expr} {te:TE} {g:TG} (he:PE X e te) (hg:PG X tg g) (hs:swapsWithSole [tg] e pos.line X.env=pure false:=by rfl) (hw:swappedStores [tg] e X.env=pure none:=by rfl)
    (h1:(assignEach [tg] X.env).map (·.2)=[assign tg X.env]:=by rfl):PS X (.Assign [tg] e pos) (tAsg te g):=by
  intro pins s σ H D I h
  refine wpAny_Assign_stores (thn (he pins s σ H _ I h) fun v s1 ⟨x,H1,I1,r1,q1⟩=>?_) hs hw
  rw [h1]
  exact thn (hg pins s1 σ H1 x v _ I1 r1 q1) fun _ s2 q=>q
theorem ps_set {i:Nat} {x:Str} {e:Expr} {te:TE} {pos':Pos} (hN:X.N.Nodup) (hi:X.N[i]?=some x) (hx:Loc X.env.scope x) (he:PE X e te) (hs:swapsWith e (some (.Name x pos')) pos.line X.env=pure false:=by rfl) (hf:X.fn x=true∨X.env.scope.names.lookup x=some .local:=by first | exact .inl rfl | exact .inr rfl | assumption) :
    PS X (.Assign [.Name x pos'] e pos) (tAsg te (gName i)):=by
  intro pins s σ H D I h
  refine wpAny_Assign_Name (thn (he pins s σ H _ I h) fun v s1 ⟨y,H1,I1,r1,q1⟩=>?_) hs
  exact store_ok I1 hN hi hx r1 (fun s2 I2=>⟨_,H1,I2,q1⟩) hf
def tAug (i:Nat) (te:TE) (ti:TIp):TS:=fun D σ H=>∃ x,σ[i]?=some (some x)∧te σ H fun y H1=>ti x y H1 fun z H2=>D.nx (σ.set i (some z)) H2
theorem ps_aug {i:Nat} {x:Str} {e:Expr} {te:TE} {op:Operator} {ti:TIp} {pos':Pos} (hN:X.N.Nodup) (hi:X.N[i]?=some x) (hx:Loc X.env.scope x) (he:PE X e te) (ho:PIp X op ti) (hf:X.fn x=true∨X.env.scope.names.lookup x=some .local:=by first | exact .inl rfl | exact .inr rfl | assumption) :
    PS X (.AugAssign (.Name x pos') op e pos) (tAug i te ti):=by
  intro pins s σ H D I h
  obtain ⟨v,e1,h⟩:=h
  obtain ⟨m,hn,hl⟩:=I.loc
  have vis:Vis X.env.scope x:=by rcases hx with k | k; exact .inl k; exact .inr (.inl k)
  obtain ⟨u,r,l⟩:=hl i x v hi e1 vis
  refine wpAny_AugAssign_Name ?_
  have go:wpAny (model X.prog X.w) X.A (eval e X.env) (fun w s₂=>wpAny (model X.prog X.w) X.A (inplaceOp op u w) (fun r s₃=>wpAny (model X.prog X.w) X.A (storeName X.env x r) (fun _=>SP X pins D .next) X.xe s₃) X.xe s₂) X.xe s:=by
    refine thn (he pins s σ H _ I h) fun w s1 ⟨y,H1,I1,r1,q1⟩=>?_
    refine thn (ho pins s1 σ H1 v y u w _ I1 r r1 q1) fun z s2 ⟨zv,H2,I2,r2,q2⟩=>?_
    exact store_ok I2 hN hi hx r2 (fun s3 I3=>⟨_,H2,I3,q2⟩) hf
  rcases l with ⟨hk,hm⟩ | ⟨hk,c,hc,hcell⟩
  · exact wpAny_loadName_local I.ok.kind hk hn hm go
  · rcases hk with hk | hk
    · exact wpAny_loadName_cell I.ok.kind hk hc hcell go
    · rcases hx with k | k
      · have:X.env.scope.names.lookup x=some .free:=hk
        rw [k] at this; cases this
      · have:X.env.scope.names.lookup x=some .free:=hk
        rw [k] at this; cases this
end
section
variable {X:Cx} {pos:Pos}
def tWhile (c:TT) (tb:TS):TS:=fun D σ H=>∃ W:Nat→St→Hp→Prop,(∃ m,W m σ H)∧∀ m σ H,W m σ H →
  c σ H fun b H1=>if b=true then ∃ N:St→Hp→Prop,(∀ σ' H',N σ' H'→∃ m',m' < m∧W m' σ' H')∧tb { D with nx:=N,ct:=N,bk:=D.nx } σ H1 else D.nx σ H1
theorem ps_while {c:Expr} {body:List Stmt} {tc:TT} {tb:TS} (hp:PassesOwn (model X.prog X.w) X.A X.env X.xe) (hc:PT X c tc) (hb:PSs X body tb):PS X (.While c body [] pos) (tWhile tc tb):=by
  intro pins s σ H D I h
  obtain ⟨W,⟨m0,w0⟩,turn⟩:=h
  refine wpAny_While (codeAny_whileLoop (fun n s'=>∃ σ' H',Inv X pins σ' H' s'∧W n σ' H') ?_ m0 ⟨σ,H,I,w0⟩)
  rintro n s1 ⟨σ1,H1,I1,w1⟩
  refine wpAny_passesOwn hp (thn (hc pins s1 σ1 H1 _ I1 (turn n σ1 H1 w1)) fun b s2 ⟨H2,I2,q2⟩=>?_)
  cases b with
  | true =>
    obtain ⟨N,hN,q2⟩:=q2
    rw [if_pos rfl]
    refine wpAny_passesOwn hp (thn (hb pins s2 σ1 H2 _ I2 q2) fun f s3 q3=>?_)
    cases f with
    | next =>
      obtain ⟨σ3,H3,I3,n3⟩:=q3
      obtain ⟨m',hm,w3⟩:=hN σ3 H3 n3
      exact ⟨m',hm,σ3,H3,I3,w3⟩
    | cont =>
      obtain ⟨σ3,H3,I3,n3⟩:=q3
      obtain ⟨m',hm,w3⟩:=hN σ3 H3 n3
      exact ⟨m',hm,σ3,H3,I3,w3⟩
    | brk=>exact q3
    | ret v=>exact q3
  | false =>
    rw [if_neg Bool.false_ne_true]
    exact wpAny_execs_nil ⟨σ1,H2,I2,q2⟩
end
structure It where
  go:Nat→Hp→Prop
  yld:Nat→Hp→V→Hp→Prop
  stop:Nat→Hp→Prop
def FpOk (X:Cx) (pins:List (Addr × Obj)) (H:Hp) (b:Addr):Prop :=
  H b=none∧b≠X.env.locals∧b ∉ X.fs∧(b∈X.ex∨X.s₀.heap.objs.size≤b)∧(∀ x c,X.env.cells.lookup x=some c→c≠b)∧∀ p∈X.pn++pins,p.1≠b
theorem Inv.fpOk {X:Cx} {pins:List (Addr × Obj)} {σ:St} {H H':Hp} {s:Shared} {b:Addr} (I:Inv X pins σ H s) (hb:s.heap.objs.size≤b) (hn:H' b=none):FpOk X pins H' b:=by
  refine ⟨hn,Nat.ne_of_gt (Nat.lt_of_lt_of_le I.lt hb),I.nofs hb,.inr (Nat.le_trans I.sz hb),fun x c e z=>?_,fun p hp z=>?_⟩
  · obtain ⟨v,q⟩:=I.cell x c e
    exact absurd (Nat.lt_of_lt_of_le q.lt (by rw [z]; exact hb)) (Nat.lt_irrefl _)
  · exact absurd (Nat.lt_of_lt_of_le (Heap.lt_size (I.pin p hp).1) (by rw [z]; exact hb)) (Nat.lt_irrefl _)
structure Turn (P:Program) (w:World) (K:PySem.W.Frag) (tg:Expr) (J:It) (fp:List Addr) (it:Addr) (tn:Nat→Heap→Prop):Prop where
  mem:it∈fp
  obj:∀ i h,tn i h→∀ b∈fp,∃ o,h.get? b=some o∧∀ v,o.data≠.cell v
  keep:∀ i h h',tn i h→(∀ b∈fp,∀ o,h.get? b=some o→h'.get? b=some o)→tn i h'
  item:∀ (X:Cx),X.prog=P→X.w=w→X.K=K→X.calm=true→∀ (i:Nat) (pins:List (Addr × Obj)) (s:Shared) (σ:St) (H:Hp) (E:Value→Shared→Prop),Inv X pins σ H s→(∀ b∈fp,FpOk X pins H b)→tn i s.heap→J.go i H →
    wpAny (model P w) X.A (pyNext (.ref it)) (fun r s1=>∃ u,r=some u ∧
      wpAny (model P w) X.A (letOwnedTupleGo tg (.ref it) u) (fun _ s2=>∃ x H',Inv X pins σ H' s2∧RelV x u∧J.yld i H x H'∧tn (i+1) s2.heap∧∀ b∈fp,H' b=none) E s1) E s
  done:∀ (X:Cx),X.prog=P→X.w=w→X.K=K→X.calm=true→∀ (i:Nat) (pins:List (Addr × Obj)) (s:Shared) (σ:St) (H:Hp) (E:Value→Shared→Prop),Inv X pins σ H s→(∀ b∈fp,FpOk X pins H b)→tn i s.heap→J.stop i H →
    wpAny (model P w) X.A (pyNext (.ref it)) (fun r s1=>r=none∧Inv X pins σ H s1) E s
  self:∀ (A:Around) (i:Nat) (s:Shared) (Q:Value→Shared→Prop) (E:Value→Shared→Prop),tn i s.heap→Q (.ref it) s→wpAny (model P w) A (pyIter (.ref it)) Q E s
abbrev TI:=St→Hp→(It→Hp→Prop)→Prop
def PIE (X:Cx) (pins:List (Addr × Obj)) (σ:St) (tg:Expr) (R:It→Hp→Prop) (itv:Value) (s2:Shared):Prop :=
  ∃ (it:Addr) (fp:List Addr) (tn:Nat→Heap→Prop) (J:It) (H':Hp),itv=.ref it∧Inv X pins σ H' s2∧Turn X.prog X.w X.K tg J fp it tn∧tn 0 s2.heap∧(∀ b∈fp,FpOk X pins H' b)∧R J H'
def PI (X:Cx) (tg iter:Expr) (wi:TI):Prop :=
  ∀ (pins:List (Addr × Obj)) (s:Shared) (σ:St) (H:Hp) (R:It→Hp→Prop),Inv X pins σ H s→wi σ H R →
    wpAny (model X.prog X.w) X.A (eval iter X.env) (fun v s1=>wpAny (model X.prog X.w) X.A (pyIter v) (PIE X pins σ tg R) X.xe s1) X.xe s
theorem go_of {M:Model} {A:Around} {E:Value→Shared→Prop} {s:Shared} {tg:Expr} {it:Addr} {u:Value} {o:Obj} {n:String} {vs:Array Value} {Q:Unit→Shared→Prop} (ho:s.heap.get? it=some o) (hc:o.cls=.type n) (hd:o.data=.fields vs)
    (hn:["enumerate", "zip", "dict_itemiterator", "dict_reverseitemiterator", "odict_iterator", "itertools.zip_longest", "itertools.pairwise"].contains n=false) (hQ:Q () s):wpAny M A (letOwnedTupleGo tg (.ref it) u) Q E s:=by
  unfold letOwnedTupleGo
  cases tg <;> first
    | exact wpAny_pure hQ
    | (cases u <;> first
        | exact wpAny_pure hQ
        | (refine wpAny_bind (wpAny_load ho ?_)
           rw [hc,hd]
           show wpAny M A (if (["enumerate", "zip", "dict_itemiterator", "dict_reverseitemiterator", "odict_iterator", "itertools.zip_longest", "itertools.pairwise"].contains n && vs[0]? == some (rawInt _))=true then _ else _) Q E s
           rw [if_neg (by intro h; rw [hn,Bool.false_and] at h; cases h)]
           exact wpAny_pure hQ))
def Itl (K:PySem.W.Frag) (a:Addr):It :=
  ⟨fun i H=>∃ xs x,SqL K H a xs∧xs[i]?=some x,fun i H x H'=>H'=H∧∀ xs,SqL K H a xs→xs[i]?=some x,fun i H=>∃ xs,SqL K H a xs∧xs.length≤i⟩
def Itt (K:PySem.W.Frag) (a:Addr):It :=
  ⟨fun i H=>∃ xs x,SqT K H a xs∧xs[i]?=some x,fun i H x H'=>H'=H∧∀ xs,SqT K H a xs→xs[i]?=some x,fun i H=>∃ xs,SqT K H a xs∧xs.length≤i⟩
def Itr (lo:Int) (n:Nat):It:=⟨fun i _=>i < n,fun i H x H'=>H'=H∧x=.int (lo+i),fun i _=>n≤i⟩
theorem turn_list {P:Program} {w:World} {K:PySem.W.Frag} {tg:Expr} (a it:Addr):Turn P w K tg (Itl K a) [it] it (fun i h=>h.IsListIter it a i) where
  mem:=by simp
  obj:=fun i h st b hb=>by
    have e:b=it:=by simpa using hb
    subst e
    obtain ⟨o,e,c,d⟩:=st
    exact ⟨o,e,fun v z=>by rw [d] at z; cases z⟩
  keep:=fun i h h' st k=>st.at fun o e=>k it (by simp) o e
  item:=by
    intro X hP hw hK hc i pins s σ H E I hf st hg
    subst hP hw hK
    obtain ⟨xs,x,hq,hx⟩:=hg
    obtain ⟨its,rv,p,hz⟩:=I.list hq
    obtain ⟨u,hu,ru⟩:=rv.get hx
    obtain ⟨f0,f1,f2,f3,f4,f5⟩:=hf it (by simp)
    refine wpAny_pyNext_list_item st p.isList (x:=u) (by simpa using hu) fun h' st' sb=>?_
    have I1:Inv X pins σ H { s with heap:=h' }:=I.turned (t':=s.toks) (fun b o hb e=>(sb.2 b hb).trans e) f0 f1 f3 f4 f5
    obtain ⟨o,e,c,d⟩:=id st'
    exact ⟨u,rfl,go_of (s:={ s with heap:=h' }) e c d (by decide) ⟨x,H,I1,ru,⟨rfl,fun ys hy=>by rw [I.list_inj hy hq]; exact hx⟩,st',fun b hb=>(hf b hb).1⟩⟩
  done:=by
    intro X hP hw hK hc i pins s σ H E I hf st hg
    subst hP hw hK
    obtain ⟨xs,hq,hx⟩:=hg
    obtain ⟨its,rv,p,hz⟩:=I.list hq
    obtain ⟨f0,f1,f2,f3,f4,f5⟩:=hf it (by simp)
    have hl:=rv.length
    exact wpAny_pyNext_list_end (I.ok.hd hc) st p.isList (by simp; omega) fun h' eb=>⟨rfl,I.turned (t':=s.toks) (fun b o hb e=>eb b o hb e) f0 f1 f3 f4 f5⟩
  self:=fun _ _ _ _ _ st h=>wpAny_pyIter_listiter st h
theorem turn_tuple {P:Program} {w:World} {K:PySem.W.Frag} {tg:Expr} (a it:Addr):Turn P w K tg (Itt K a) [it] it (fun i h=>h.IsTupleIter it a i) where
  mem:=by simp
  obj:=fun i h st b hb=>by
    have e:b=it:=by simpa using hb
    subst e
    obtain ⟨o,e,c,d⟩:=st
    exact ⟨o,e,fun v z=>by rw [d] at z; cases z⟩
  keep:=fun i h h' st k=>st.at fun o e=>k it (by simp) o e
  item:=by
    intro X hP hw hK hc i pins s σ H E I hf st hg
    subst hP hw hK
    obtain ⟨xs,x,hq,hx⟩:=hg
    obtain ⟨its,rv,p,hz⟩:=I.tuple hq
    obtain ⟨u,hu,ru⟩:=rv.get hx
    obtain ⟨f0,f1,f2,f3,f4,f5⟩:=hf it (by simp)
    refine wpAny_pyNext_tuple_item st (show s.heap.IsTuple a its.toArray from p) (x:=u) (by simpa using hu) fun h' st' sb=>?_
    have I1:Inv X pins σ H { s with heap:=h' }:=I.turned (t':=s.toks) (fun b o hb e=>(sb.2 b hb).trans e) f0 f1 f3 f4 f5
    obtain ⟨o,e,c,d⟩:=id st'
    exact ⟨u,rfl,go_of (s:={ s with heap:=h' }) e c d (by decide) ⟨x,H,I1,ru,⟨rfl,fun ys hy=>by rw [I.tuple_inj hy hq]; exact hx⟩,st',fun b hb=>(hf b hb).1⟩⟩
  done:=by
    intro X hP hw hK hc i pins s σ H E I hf st hg
    subst hP hw hK
    obtain ⟨xs,hq,hx⟩:=hg
    obtain ⟨its,rv,p,hz⟩:=I.tuple hq
    obtain ⟨f0,f1,f2,f3,f4,f5⟩:=hf it (by simp)
    have hl:=rv.length
    exact wpAny_pyNext_tuple_end (I.ok.hd hc) st (show s.heap.IsTuple a its.toArray from p) (by simp; omega) fun h' eb=>⟨rfl,I.turned (t':=s.toks) (fun b o hb e=>eb b o hb e) f0 f1 f3 f4 f5⟩
  self:=fun _ _ _ _ _ st h=>wpAny_pyIter_tupleiter st h
theorem turn_range {P:Program} {w:World} {K:PySem.W.Frag} {tg:Expr} (it:Addr) (lo:Int) (n:Nat):Turn P w K tg (Itr lo n) [it] it (fun i h=>IsRangeIter h it (lo+(i:Nat) * 1) ((n:Int) - (i:Nat)) 1) where
  mem:=by simp
  obj:=fun i h st b hb=>by
    have e:b=it:=by simpa using hb
    subst e
    exact ⟨_,st,fun v z=>by
      have z':Data.fields _=Data.cell v:=z
      cases z'⟩
  keep:=fun i h h' st k=>k it (by simp) _ st
  item:=by
    intro X hP hw hK hc i pins s σ H E I hf st hg
    subst hP hw hK
    obtain ⟨f0,f1,f2,f3,f4,f5⟩:=hf it (by simp)
    have W:=Walks.range (prog:=X.prog) (w:=X.w) (I.ok.hd hc) it lo 1 n
    refine W.item i s _ _ hg st fun v h' tk hv st' kk=>?_
    obtain ⟨t,rfl⟩:=hv
    have I1:Inv X pins σ H { s with heap:=h',toks:=tk }:=I.turned (fun b o hb e=>kk b o (by simpa using hb) e) f0 f1 f3 f4 f5
    refine ⟨_,rfl,go_of (s:={ s with heap:=h',toks:=tk }) (n:="range_iterator") st' rfl rfl (by decide) ⟨.int (lo+i),H,I1,⟨t,?_⟩,⟨rfl,rfl⟩,st',fun b hb=>(hf b hb).1⟩⟩
    rw [Int.mul_one]
  done:=by
    intro X hP hw hK hc i pins s σ H E I hf st hg
    subst hP hw hK
    obtain ⟨f0,f1,f2,f3,f4,f5⟩:=hf it (by simp)
    exact wpAny_pyNext_range_end (I.ok.hd hc) st (by have:n≤i:=hg; omega) fun h' eb=>⟨rfl,I.turned (t':=s.toks) (fun b o hb e=>eb b o hb e) f0 f1 f3 f4 f5⟩
  self:=fun _ _ _ _ _ st h=>wpAny_pyIter_rangeiter st h
end L2
namespace L2
open PySem PySem.Spec PyProof.Rows
section
variable {X:Cx} {tg:Expr}
def iList (K:PySem.W.Frag) (tl:TE):TI:=fun σ H R=>tl σ H fun x H1=>∃ a,x=.ref a∧(∃ xs,SqL K H1 a xs)∧R (Itl K a) H1
def iTup (K:PySem.W.Frag) (tl:TE):TI:=fun σ H R=>tl σ H fun x H1=>∃ a,x=.ref a∧(∃ xs,SqT K H1 a xs)∧R (Itt K a) H1
theorem pi_list {l:Expr} {tl:TE} (hl:PE X l tl):PI X tg l (iList X.K tl):=by
  intro pins s σ H R I h
  refine thn (hl pins s σ H _ I h) fun v s1 ⟨x,H1,I1,r1,q1⟩=>?_
  obtain ⟨a,e,⟨xs,hq⟩,q⟩:=q1
  subst e
  cases r1
  obtain ⟨its,rv,p,hz⟩:=I1.list hq
  refine wpAny_pyIter_list p.isList ?_
  refine ⟨s1.heap.objs.size,[s1.heap.objs.size],_,_,H1,rfl,I1.kept (t':=s1.toks) fun b o e=>Heap.get?_push_of_some _ e,turn_list a _,⟨_,Heap.get?_push_size _ rfl,rfl,rfl⟩,fun b hb=>?_,q⟩
  have e:b=s1.heap.objs.size:=by simpa using hb
  subst e
  exact I1.fpOk (Nat.le_refl _) (I1.hok.fresh (Nat.le_refl _))
theorem pi_tup {l:Expr} {tl:TE} (hl:PE X l tl):PI X tg l (iTup X.K tl):=by
  intro pins s σ H R I h
  refine thn (hl pins s σ H _ I h) fun v s1 ⟨x,H1,I1,r1,q1⟩=>?_
  obtain ⟨a,e,⟨xs,hq⟩,q⟩:=q1
  subst e
  cases r1
  obtain ⟨its,rv,p,hz⟩:=I1.tuple hq
  refine wpAny_pyIter_tuple (show s1.heap.IsTuple a its.toArray from p) ?_
  refine ⟨s1.heap.objs.size,[s1.heap.objs.size],_,_,H1,rfl,I1.kept (t':=s1.toks) fun b o e=>Heap.get?_push_of_some _ e,turn_tuple a _,⟨_,Heap.get?_push_size _ rfl,rfl,rfl⟩,fun b hb=>?_,q⟩
  have e:b=s1.heap.objs.size:=by simpa using hb
  subst e
  exact I1.fpOk (Nat.le_refl _) (I1.hok.fresh (Nat.le_refl _))
theorem range_it {pins:List (Addr × Obj)} {σ:St} {H:Hp} {s:Shared} {R:It→Hp→Prop} {E:Value→Shared→Prop} {lo hi:Int} {t u v:Tok} {tk:Nat} (I:Inv X pins σ H s) (h1:-(2 ^ 62)≤lo) (h2:lo < 2 ^ 62) (h3:-(2 ^ 62)≤hi) (h4:hi < 2 ^ 62)
    (q:R (Itr lo (hi - lo).toNat) H):wpAny (model X.prog X.w) X.A (pyIter (.ref s.heap.objs.size)) (PIE X pins σ tg R) E { s with heap:=s.heap.push { cls:=.type "range",data:=.fields #[.int lo t,.int hi u,.int 1 v] },toks:=tk }:=by
  refine wpAny_pyIter_range (IsRange.new ..) (small_one h1 h2 h3 h4) ?_
  have I1:Inv X pins σ H { s with heap:=s.heap.push { cls:=.type "range",data:=.fields #[.int lo t,.int hi u,.int 1 v] },toks:=tk }:=I.kept fun b o e=>Heap.get?_push_of_some _ e
  refine ⟨(s.heap.push { cls:=.type "range",data:=.fields #[.int lo t,.int hi u,.int 1 v] }).objs.size,[(s.heap.push { cls:=.type "range",data:=.fields #[.int lo t,.int hi u,.int 1 v] }).objs.size],_,_,H,rfl,
    I1.kept (t':=tk) fun b o e=>Heap.get?_push_of_some _ e,turn_range _ lo (hi - lo).toNat,?_,fun b hb=>?_,q⟩
  · have e1:lo+((0:Nat):Int) * 1=lo:=by simp
    have e2:(((hi - lo).toNat:Nat):Int) - ((0:Nat):Int)=Builtin.Range.rangeSize lo hi 1:=by rw [rangeSize_one]; split <;> omega
    show IsRangeIter _ _ (lo+((0:Nat):Int) * 1) ((((hi - lo).toNat:Nat):Int) - ((0:Nat):Int)) 1
    rw [e1,e2]
    exact Heap.get?_push_size _ rfl
  · have e:b=(s.heap.push { cls:=.type "range",data:=.fields #[.int lo t,.int hi u,.int 1 v] }).objs.size:=by simpa using hb
    subst e
    exact I1.fpOk (Nat.le_refl _) (I1.hok.fresh (Nat.le_refl _))
def iRng1 (ta:TA):TI:=fun σ H R=>ta σ H fun vs H1=>∃ j:Int,vs=[.int j]∧-(2 ^ 62)≤j∧j < 2 ^ 62∧R (Itr 0 j.toNat) H1
theorem pi_range1 {a:Expr} {ta:TA} {p pos:Pos} (hg:Gl X "range") (hm:X.mg "range" = none) (ha:PA X [a] ta) (hs:starEach [a] X.env=[(false,eval a X.env)]:=by rfl):PI X tg (.Call (.Name "range" p) [a] [] pos) (iRng1 ta):=by
  intro pins s σ H R I h
  refine Call_ (ld_blt I hg hm boot_range (PyProof.Rows.callWith_type1 (thn (ha pos pins s σ H _ I h) fun us s1 ⟨vs,H1,I1,r1,q1⟩=>?_) hs rfl))
  obtain ⟨j,e,q1,q2,q⟩:=q1
  subst e
  cases r1 with
  | cons r rr =>
    cases rr
    obtain ⟨t,rfl⟩:=r
    exact call_range_1 (range_it I1 (by omega) (by omega) q1 q2 (by simpa using q))
def tFor (wi:TI) (g:TG) (tb:TS):TS:=fun D σ H=>wi σ H fun J H1=>∃ W:Nat→Nat→St→Hp→Prop,(∃ m,W 0 m σ H1)∧∀ i m σ H,W i m σ H →
  (J.stop i H∧D.nx σ H)∨(J.go i H∧∃ N:St→Hp→Prop,(∀ σ' H',N σ' H'→∃ m',m' < m∧W (i+1) m' σ' H')∧∀ x H',J.yld i H x H'→g x σ H' fun σ2 H2=>tb { D with nx:=N,ct:=N,bk:=D.nx } σ2 H2)
def pinsAt (fp:List Addr) (h:Heap):List (Addr × Obj):=fp.filterMap fun b=>(h.get? b).map fun o=>(b,o)
theorem mem_pinsAt {fp:List Addr} {h:Heap} {b:Addr} {o:Obj} (hb:b∈fp) (e:h.get? b=some o):(b,o)∈pinsAt fp h:=List.mem_filterMap.mpr ⟨b,hb,by rw [e]; rfl⟩
theorem of_pinsAt {fp:List Addr} {h:Heap} {p:Addr × Obj} (hp:p∈pinsAt fp h):p.1∈fp∧h.get? p.1=some p.2:=by
  obtain ⟨b,hb,e⟩:=List.mem_filterMap.mp hp
  cases q:h.get? b with
  | none=>rw [q] at e; cases e
  | some o =>
    rw [q] at e
    have e':(b,o)=p:=Option.some.inj e
    subst e'
    exact ⟨hb,q⟩
theorem Inv.pinned {pins:List (Addr × Obj)} {σ:St} {H:Hp} {s:Shared} {fp:List Addr} (I:Inv X pins σ H s) (hf:∀ b∈fp,FpOk X pins H b) (ho:∀ b∈fp,∃ o,s.heap.get? b=some o∧∀ v,o.data≠.cell v):Inv X (pins++pinsAt fp s.heap) σ H s :=
  I.pins_of fun p hp=>(List.mem_append.mp hp).elim (fun z=>I.pin p (List.mem_append_right _ z)) fun z=>by
    obtain ⟨hb,e⟩:=of_pinsAt z
    obtain ⟨f0,f1,f2,_⟩:=hf p.1 hb
    obtain ⟨o,e',d⟩:=ho p.1 hb
    rw [e] at e'; cases e'
    exact ⟨e,f0,f1,f2,d⟩
theorem Inv.unpinned {pins pl:List (Addr × Obj)} {σ:St} {H:Hp} {s:Shared} (I:Inv X (pins++pl) σ H s):Inv X pins σ H s:=I.pins_of fun p hp=>I.pin p (List.mem_append_right _ (List.mem_append_left _ hp))
theorem ps_for {iter:Expr} {body:List Stmt} {wi:TI} {g:TG} {tb:TS} {pos:Pos} (hp:PassesOwn (model X.prog X.w) X.A X.env X.xe) (hc:X.calm=true) (hi:PI X tg iter wi) (hg:PG X tg g) (hb:PSs X body tb)
    (hs:∀ x,foldedSetIterable iter X.env x=pure x:=by intro _; rfl):PS X (.For tg iter body [] pos) (tFor wi g tb):=by
  intro pins s σ H D I h
  refine wpAny_For (thn (hi pins s σ H _ I h) fun v s1 h1=>thn h1 fun itv s2 h2=>?_) hs
  obtain ⟨it,fp,tn,J,H2,e,I2,T,st2,f2,W,⟨m0,w0⟩,turn⟩:=h2
  subst e
  have stat:∀ {H':Hp},(∀ b∈fp,H' b=none)→∀ b∈fp,FpOk X pins H' b:=fun hn b hb=>⟨hn b hb,(f2 b hb).2⟩
  refine codeAny_forLoop_any (fun n s'=>∃ i σ' H',Inv X pins σ' H' s'∧tn i s'.heap∧(∀ b∈fp,H' b=none)∧W i n σ' H') ?_ m0 ⟨0,σ,H2,I2,st2,fun b hb=>(f2 b hb).1,w0⟩
  rintro n s3 ⟨i,σ3,H3,I3,st3,fr3,w3⟩
  rcases turn i n σ3 H3 w3 with ⟨stop,qn⟩ | ⟨go,N,hN,step⟩
  · refine wpAny_passesOwn hp (thn (T.done X rfl rfl rfl hc i pins s3 σ3 H3 X.xe I3 (stat fr3) st3 stop) fun r s4 ⟨hr,I4⟩=>?_)
    subst hr
    exact wpAny_execs_nil ⟨σ3,H3,I4,qn⟩
  · refine wpAny_passesOwn hp (thn (T.item X rfl rfl rfl hc i pins s3 σ3 H3 X.xe I3 (stat fr3) st3 go) fun r s4 ⟨u,hr,h4⟩=>?_)
    subst hr
    refine wpAny_passesOwn hp (thn h4 fun _ s5 ⟨x,H5,I5,r5,y5,st5,fr5⟩=>?_)
    have I5':=I5.pinned (stat fr5) (T.obj _ _ st5)
    refine wpAny_passesOwn hp (thn (hg _ s5 σ3 H5 x u _ I5' r5 (step x H5 y5)) fun _ s6 ⟨σ6,H6,I6,q6⟩=>?_)
    refine wpAny_passesOwn hp (thn (hb _ s6 σ6 H6 _ I6 q6) fun f s7 q7=>?_)
    have again:∀ {σ7:St} {H7:Hp},Inv X (pins++pinsAt fp s5.heap) σ7 H7 s7→N σ7 H7→∃ m,m < n∧∃ i σ' H',Inv X pins σ' H' s7∧tn i s7.heap∧(∀ b∈fp,H' b=none)∧W i m σ' H':=fun {σ7 H7} I7 n7=>by
      obtain ⟨m',hm,w7⟩:=hN σ7 H7 n7
      refine ⟨m',hm,i+1,σ7,H7,I7.unpinned,T.keep _ _ _ st5 fun b hb o e=>(I7.pin (b,o) (List.mem_append_right _ (List.mem_append_right _ (mem_pinsAt hb e)))).1,fun b hb=>?_,w7⟩
      obtain ⟨o,e,d⟩:=T.obj _ _ st5 b hb
      exact (I7.pin (b,o) (List.mem_append_right _ (List.mem_append_right _ (mem_pinsAt hb e)))).2.1
    cases f with
    | next=>obtain ⟨σ7,H7,I7,n7⟩:=q7; exact again I7 n7
    | cont=>obtain ⟨σ7,H7,I7,n7⟩:=q7; exact again I7 n7
    | brk=>obtain ⟨σ7,H7,I7,q7⟩:=q7; exact ⟨σ7,H7,I7.unpinned,q7⟩
    | ret v=>obtain ⟨x7,σ7,H7,I7,r7,q7⟩:=q7; exact ⟨x7,σ7,H7,I7.unpinned,r7,q7⟩
end
theorem for_list {K:PySem.W.Frag} {a:Addr} {xs:List V} {g:TG} {tb:TS} {D:Ends} {σ:St} {H:Hp} (Pv:Nat→St→Hp→Prop) (h0:Pv 0 σ H) (hl:∀ i σ H,i≤xs.length→Pv i σ H→SqL K H a xs)
    (hs:∀ i x σ H,xs[i]?=some x→Pv i σ H→g x σ H fun σ2 H2=>tb { D with nx:=Pv (i+1),ct:=Pv (i+1),bk:=D.nx } σ2 H2) (hd:∀ σ H,Pv xs.length σ H→D.nx σ H) :
    ∃ W:Nat→Nat→St→Hp→Prop,(∃ m,W 0 m σ H)∧∀ i m σ H,W i m σ H →
      ((Itl K a).stop i H∧D.nx σ H)∨((Itl K a).go i H∧∃ N:St→Hp→Prop,(∀ σ' H',N σ' H'→∃ m',m' < m∧W (i+1) m' σ' H')∧∀ x H',(Itl K a).yld i H x H'→g x σ H' fun σ2 H2=>tb { D with nx:=N,ct:=N,bk:=D.nx } σ2 H2):=by
  refine ⟨fun i m σ H=>m=xs.length - i∧i≤xs.length∧Pv i σ H,⟨xs.length,by simp,Nat.zero_le _,h0⟩,?_⟩
  rintro i m σ H ⟨rfl,hi,p⟩
  have q:=hl i σ H hi p
  by_cases hlt:i < xs.length
  · refine .inr ⟨⟨xs,xs[i],q,by simp [hlt]⟩,Pv (i+1),fun σ' H' p'=>⟨xs.length - (i+1),by omega,rfl,hlt,p'⟩,fun x H' y=>?_⟩
    obtain ⟨e,y⟩:=y
    subst e
    exact hs i x σ _ (y xs q) p
  · have e:i=xs.length:=by omega
    subst e
    exact .inl ⟨⟨xs,q,Nat.le_refl _⟩,hd σ H p⟩
theorem for_range {lo:Int} {n:Nat} {g:TG} {tb:TS} {D:Ends} {σ:St} {H:Hp} (Pv:Nat→St→Hp→Prop) (h0:Pv 0 σ H)
    (hs:∀ i σ H,i < n→Pv i σ H→g (.int (lo+i)) σ H fun σ2 H2=>tb { D with nx:=Pv (i+1),ct:=Pv (i+1),bk:=D.nx } σ2 H2) (hd:∀ σ H,Pv n σ H→D.nx σ H) :
    ∃ W:Nat→Nat→St→Hp→Prop,(∃ m,W 0 m σ H)∧∀ i m σ H,W i m σ H →
      ((Itr lo n).stop i H∧D.nx σ H)∨((Itr lo n).go i H∧∃ N:St→Hp→Prop,(∀ σ' H',N σ' H'→∃ m',m' < m∧W (i+1) m' σ' H')∧∀ x H',(Itr lo n).yld i H x H'→g x σ H' fun σ2 H2=>tb { D with nx:=N,ct:=N,bk:=D.nx } σ2 H2):=by
  refine ⟨fun i m σ H=>m=n - i∧i≤n∧Pv i σ H,⟨n,by simp,Nat.zero_le _,h0⟩,?_⟩
  rintro i m σ H ⟨rfl,hi,p⟩
  by_cases hlt:i < n
  · refine .inr ⟨hlt,Pv (i+1),fun σ' H' p'=>⟨n - (i+1),by omega,rfl,hlt,p'⟩,fun x H' y=>?_⟩
    obtain ⟨e,y⟩:=y
    subst e y
    exact hs i σ _ hlt p
  · have e:i=n:=by omega
    subst e
    exact .inl ⟨Nat.le_refl _,hd σ H p⟩
end L2
namespace L2
open PySem PySem.Spec PyProof.Rows
abbrev R2:=V→V→Hp→VK→Prop
def OpR (X:Cx) (f:Value→Value→Sem Value) (r:R2):Prop :=
  ∀ (pins:List (Addr × Obj)) (s:Shared) (σ:St) (H:Hp) (x y:V) (v u:Value) (Q:VK),Inv X pins σ H s→RelV x v→RelV y u→r x y H Q →
    wpAny (model X.prog X.w) X.A (f v u) (EP X pins σ Q) X.xe s
def CallR (X:Cx) (f:Value) (r:List V→Hp→VK→Prop):Prop :=
  ∀ (pins:List (Addr × Obj)) (s:Shared) (σ:St) (H:Hp) (xs:List V) (us:List Value) (Q:VK),Inv X pins σ H s→Vals xs us→r xs H Q →
    wpAny (model X.prog X.w) X.A (call f us) (EP X pins σ Q) X.xe s
def TruR (X:Cx) (r:V→Hp→(Bool→Hp→Prop)→Prop):Prop :=
  ∀ (pins:List (Addr × Obj)) (s:Shared) (σ:St) (H:Hp) (x:V) (v:Value) (Q:Bool→Hp→Prop),Inv X pins σ H s→RelV x v→r x H Q →
    wpAny (model X.prog X.w) X.A (truthy v) (TP X pins σ Q) X.xe s
def tOp (r:R2) (ta tb:TE):TE:=fun σ H Q=>ta σ H fun x H1=>tb σ H1 fun y H2=>r x y H2 Q
def rI (C:Int→Int→Prop) (g:Int→Int→V):R2:=fun x y H Q=>∃ i j,x=.int i∧y=.int j∧C i j∧Q (g i j) H
def rI0 (g:Int→Int→V):R2:=fun x y H Q=>∃ i j,x=.int i∧y=.int j∧Q (g i j) H
section
variable {X:Cx} {a b c:Expr} {ta tb tc:TE} {pos:Pos}
theorem binT (ha:PE X a ta) (hb:PE X b tb) {pins:List (Addr × Obj)} {s:Shared} {σ:St} {H:Hp} {R:V→V→Hp→Prop} (I:Inv X pins σ H s)
    (h:ta σ H fun x H1=>tb σ H1 fun y H2=>R x y H2) {Q:Value→Shared→Prop} {f:Value→Value→Sem Value}
    (hf:∀ v u s2 x y H2,Inv X pins σ H2 s2→RelV x v→RelV y u→R x y H2→wpAny (model X.prog X.w) X.A (f v u) Q X.xe s2) :
    wpAny (model X.prog X.w) X.A (eval a X.env) (fun v s₁=>wpAny (model X.prog X.w) X.A (eval b X.env) (fun u s₂=>wpAny (model X.prog X.w) X.A (f v u) Q X.xe s₂) X.xe s₁) X.xe s:=by
  refine thn (ha pins s σ H _ I h) fun v s1 ⟨x,H1,I1,r1,q1⟩=>?_
  refine thn (hb pins s1 σ H1 _ I1 q1) fun u s2 ⟨y,H2,I2,r2,q2⟩=>?_
  exact hf v u s2 x y H2 I2 r1 r2 q2
theorem pe_op {op:Operator} {r:R2} (ho:OpR X (binaryOp op) r) (ha:PE X a ta) (hb:PE X b tb):PE X (.BinOp a op b pos) (tOp r ta tb):=by
  intro pins s σ H Q I h
  exact wpAny_BinOp (binT ha hb I h fun v u s2 x y H2 I2 rx ry q=>ho pins s2 σ H2 x y v u Q I2 rx ry q)
theorem opI {f:Value→Value→Sem Value} {C:Int→Int→Prop} {g:Int→Int→Int}
    (rule:∀ (i j:Int) (t u:Tok) (s:Shared) (Q:Value→Shared→Prop) (E:Value→Shared→Prop),C i j→Q (.int (g i j) s.toks) { s with toks:=s.toks+1 }→wpAny (model X.prog X.w) X.A (f (.int i t) (.int j u)) Q E s) :
    OpR X f (rI C fun i j=>.int (g i j)):=by
  intro pins s σ H x y v u Q I rx ry h
  obtain ⟨i,j,rfl,rfl,hc,q⟩:=h
  obtain ⟨t,rfl⟩:=rx
  obtain ⟨t',rfl⟩:=ry
  exact rule i j t t' s _ _ hc ⟨.int (g i j),H,I.tok _,⟨_,rfl⟩,q⟩
theorem opI0 {f:Value→Value→Sem Value} {g:Int→Int→Int}
    (rule:∀ (i j:Int) (t u:Tok) (s:Shared) (Q:Value→Shared→Prop) (E:Value→Shared→Prop),Q (.int (g i j) s.toks) { s with toks:=s.toks+1 }→wpAny (model X.prog X.w) X.A (f (.int i t) (.int j u)) Q E s) :
    OpR X f (rI0 fun i j=>.int (g i j)):=by
  intro pins s σ H x y v u Q I rx ry h
  obtain ⟨i,j,rfl,rfl,q⟩:=h
  obtain ⟨t,rfl⟩:=rx
  obtain ⟨t',rfl⟩:=ry
  exact rule i j t t' s _ _ ⟨.int (g i j),H,I.tok _,⟨_,rfl⟩,q⟩
theorem opB0 {f:Value→Value→Sem Value} {g:Int→Int→Bool}
    (rule:∀ (i j:Int) (t u:Tok) (s:Shared) (Q:Value→Shared→Prop) (E:Value→Shared→Prop),Q (.bool (g i j)) s→wpAny (model X.prog X.w) X.A (f (.int i t) (.int j u)) Q E s) :
    OpR X f (rI0 fun i j=>.bl (g i j)):=by
  intro pins s σ H x y v u Q I rx ry h
  obtain ⟨i,j,rfl,rfl,q⟩:=h
  obtain ⟨t,rfl⟩:=rx
  obtain ⟨t',rfl⟩:=ry
  exact rule i j t t' s _ _ ⟨.bl (g i j),H,I,rfl,q⟩
def CPow (i j:Int):Prop:=0≤j∧j≤1000000∧i.natAbs < 2 ^ 64
def CMul (i j:Int):Prop:=(-(2 ^ 64) < i∧i < 2 ^ 64)∨(-(2 ^ 64) < j∧j < 2 ^ 64)
theorem CMul.ok {i j:Int} (h:CMul i j):IntMulOk i j:=by
  rcases h with ⟨h1,h2⟩ | ⟨h1,h2⟩
  · exact .of_left (intBits_le_64 h1 h2)
  · exact .of_right (intBits_le_64 h1 h2)
theorem op_add:OpR X (binaryOp .Add) (rI0 fun i j=>.int (i+j)):=opI0 fun _ _ _ _ _ _ _ q=>add_int q
theorem op_sub:OpR X (binaryOp .Sub) (rI0 fun i j=>.int (i - j)):=opI0 fun _ _ _ _ _ _ _ q=>sub_int q
theorem op_mul:OpR X (binaryOp .Mult) (rI CMul fun i j=>.int (i * j)):=opI fun _ _ _ _ _ _ _ hc q=>mul_int q hc.ok
theorem op_mod:OpR X (binaryOp .Mod) (rI (fun _ j=>0 < j) fun i j=>.int (i % j)):=opI fun i j _ _ _ _ _ hc q=>by
  have h1:(0:Int) < j:=hc
  exact mod_int' (by omega) (by rw [Int.fmod_eq_emod_of_nonneg i (by omega)]; exact q)
theorem op_pow:OpR X (binaryOp .Pow) (rI CPow fun i j=>.int (i ^ j.toNat)):=opI fun _ _ _ _ _ _ _ hc q=>pow_int_small hc.1 hc.2.1 hc.2.2 q
theorem iop_add:OpR X (inplaceOp .Add) (rI0 fun i j=>.int (i+j)):=opI0 fun _ _ _ _ _ _ _ q=>iadd_int q
end
def scal:V→V→Bool
  | .non,.non=>true | .non,.int _=>true | .int _,.non=>true | .non,.bl _=>true | .bl _,.non=>true | .non,.str _=>true | .str _,.non=>true
  | .int _,.int _=>true | .bl _,.bl _=>true | .str _,.str _=>true | .byt _,.byt _=>true
  | .int _,.str _=>true | .str _,.int _=>true | .bl _,.str _=>true | .str _,.bl _=>true
  | _,_=>false
def rEq:R2:=fun x y H Q=>scal x y=true∧Q (.bl (decide (x=y))) H
def rNe:R2:=fun x y H Q=>scal x y=true∧Q (.bl (!decide (x=y))) H
theorem dec_int {i j:Int}:decide (V.int i=V.int j)=(i == j):=by
  rw [Bool.eq_iff_iff]
  simp
theorem dec_bl {i j:Bool}:decide (V.bl i=V.bl j)=(i == j):=by
  rw [Bool.eq_iff_iff]
  simp
theorem dec_str {i j:Str}:decide (V.str i=V.str j)=(i == j):=by
  rw [Bool.eq_iff_iff]
  simp
theorem dec_byt {i j:Array UInt8}:decide (V.byt i=V.byt j)=(i.toList == j.toList):=by
  rw [Bool.eq_iff_iff]
  cases i
  cases j
  simp
section
variable {X:Cx} {a b c:Expr} {ta tb tc:TE} {pos:Pos}
theorem fin_bl {pins:List (Addr × Obj)} {σ:St} {H:Hp} {s:Shared} {Q:VK} {k k':Bool} (I:Inv X pins σ H s) (q:Q (.bl k) H) (e:k=k'):EP X pins σ Q (.bool k') s:=by
  subst e
  exact ⟨.bl k,H,I,rfl,q⟩
theorem op_eq:OpR X (compareOp .Eq) rEq:=by
  intro pins s σ H x y v u Q I rx ry h
  obtain ⟨hs,q⟩:=h
  cases x with
  | non =>
    cases rx
    cases y with
    | non=>cases ry; exact PySem.EqNone.eq_none_none (fin_bl I q (by simp))
    | bl j=>cases ry; exact PySem.EqNone.eq_none_bool (fin_bl I q (by simp))
    | int j=>obtain ⟨t',rfl⟩:=ry; exact PySem.EqNone.eq_none_int (fin_bl I q (by simp))
    | str j=>obtain ⟨t',rfl⟩:=ry; exact PySem.EqNone.eq_none_str (fin_bl I q (by simp))
    | _=>exact absurd (show false=true from hs) Bool.false_ne_true
  | bl i =>
    cases rx
    cases y with
    | non=>cases ry; exact PySem.EqNone.eq_bool_none (fin_bl I q (by simp))
    | bl j=>cases ry; exact eq_bool (fin_bl I q dec_bl)
    | str j=>obtain ⟨t',rfl⟩:=ry; exact PySem.EqMixed.eq_bool_str (fin_bl I q (by simp))
    | _=>exact absurd (show false=true from hs) Bool.false_ne_true
  | int i =>
    obtain ⟨t,rfl⟩:=rx
    cases y with
    | non=>cases ry; exact PySem.EqNone.eq_int_none (fin_bl I q (by simp))
    | int j=>obtain ⟨t',rfl⟩:=ry; exact eq_int (fin_bl I q dec_int)
    | str j=>obtain ⟨t',rfl⟩:=ry; exact PySem.EqMixed.eq_int_str (fin_bl I q (by simp))
    | _=>exact absurd (show false=true from hs) Bool.false_ne_true
  | str i =>
    obtain ⟨t,rfl⟩:=rx
    cases y with
    | non=>cases ry; exact PySem.EqNone.eq_str_none (fin_bl I q (by simp))
    | bl j=>cases ry; exact PySem.EqMixed.eq_str_bool (fin_bl I q (by simp))
    | int j=>obtain ⟨t',rfl⟩:=ry; exact PySem.EqMixed.eq_str_int (fin_bl I q (by simp))
    | str j=>obtain ⟨t',rfl⟩:=ry; exact eq_str (fin_bl I q dec_str)
    | _=>exact absurd (show false=true from hs) Bool.false_ne_true
  | byt i =>
    obtain ⟨t,rfl⟩:=rx
    cases y with
    | byt j=>obtain ⟨t',rfl⟩:=ry; exact PySem.W.eq_bytes (fin_bl I q dec_byt)
    | _=>exact absurd (show false=true from hs) Bool.false_ne_true
  | _=>cases y <;> exact absurd (show false=true from hs) Bool.false_ne_true
theorem op_ne:OpR X (compareOp .NotEq) rNe:=by
  intro pins s σ H x y v u Q I rx ry h
  obtain ⟨hs,q⟩:=h
  cases x with
  | non =>
    cases rx
    cases y with
    | non=>cases ry; exact PySem.EqNone.ne_none_none (fin_bl I q (by simp))
    | bl j=>cases ry; exact PySem.EqNone.ne_none_bool (fin_bl I q (by simp))
    | int j=>obtain ⟨t',rfl⟩:=ry; exact PySem.EqNone.ne_none_int (fin_bl I q (by simp))
    | str j=>obtain ⟨t',rfl⟩:=ry; exact PySem.EqNone.ne_none_str (fin_bl I q (by simp))
    | _=>exact absurd (show false=true from hs) Bool.false_ne_true
  | bl i =>
    cases rx
    cases y with
    | non=>cases ry; exact PySem.EqNone.ne_bool_none (fin_bl I q (by simp))
    | bl j=>cases ry; exact ne_bool (fin_bl I q (congrArg not dec_bl))
    | str j=>obtain ⟨t',rfl⟩:=ry; exact PySem.EqMixed.ne_bool_str (fin_bl I q (by simp))
    | _=>exact absurd (show false=true from hs) Bool.false_ne_true
  | int i =>
    obtain ⟨t,rfl⟩:=rx
    cases y with
    | non=>cases ry; exact PySem.EqNone.ne_int_none (fin_bl I q (by simp))
    | int j=>obtain ⟨t',rfl⟩:=ry; exact ne_int (fin_bl I q (congrArg not dec_int))
    | str j=>obtain ⟨t',rfl⟩:=ry; exact PySem.EqMixed.ne_int_str (fin_bl I q (by simp))
    | _=>exact absurd (show false=true from hs) Bool.false_ne_true
  | str i =>
    obtain ⟨t,rfl⟩:=rx
    cases y with
    | non=>cases ry; exact PySem.EqNone.ne_str_none (fin_bl I q (by simp))
    | bl j=>cases ry; exact PySem.EqMixed.ne_str_bool (fin_bl I q (by simp))
    | int j=>obtain ⟨t',rfl⟩:=ry; exact PySem.EqMixed.ne_str_int (fin_bl I q (by simp))
    | str j=>obtain ⟨t',rfl⟩:=ry; exact ne_str (fin_bl I q (congrArg not dec_str))
    | _=>exact absurd (show false=true from hs) Bool.false_ne_true
  | byt i =>
    obtain ⟨t,rfl⟩:=rx
    cases y with
    | byt j=>obtain ⟨t',rfl⟩:=ry; exact PySem.W.ne_bytes (fin_bl I q (congrArg not dec_byt))
    | _=>exact absurd (show false=true from hs) Bool.false_ne_true
  | _=>cases y <;> exact absurd (show false=true from hs) Bool.false_ne_true
theorem op_lt:OpR X (compareOp .Lt) (rI0 fun i j=>.bl (decide (i < j))):=opB0 fun _ _ _ _ _ _ _ q=>lt_int q
theorem op_gt:OpR X (compareOp .Gt) (rI0 fun i j=>.bl (decide (j < i))):=opB0 fun _ _ _ _ _ _ _ q=>gt_int q
theorem op_ge:OpR X (compareOp .GtE) (rI0 fun i j=>.bl (decide (j≤i))):=opB0 fun _ _ _ _ _ _ _ q=>ge_int q
theorem OpR.or {f:Value→Value→Sem Value} {r r':R2} (h:OpR X f r) (h':OpR X f r'):OpR X f (fun x y H Q=>r x y H Q∨r' x y H Q):=by
  intro pins s σ H x y v u Q I rx ry q
  rcases q with q | q
  · exact h pins s σ H x y v u Q I rx ry q
  · exact h' pins s σ H x y v u Q I rx ry q
theorem nomark (b:Expr) {op:CmpOp} (h:op≠.In:=by decide) (h2:op≠.NotIn:=by decide):behindInMarks op b=false:=by
  have e1:(op == CmpOp.In)=false:=by cases op <;> first | rfl | exact absurd rfl h
  have e2:(op == CmpOp.NotIn)=false:=by cases op <;> first | rfl | exact absurd rfl h2
  cases b <;> simp [behindInMarks,e1,e2]
theorem pe_cmpR {op:CmpOp} {r:R2} (ho:OpR X (compareOp op) r) (ha:PE X a ta) (hb:PE X b tb) (hm:behindInMarks op b=false):PE X (.Compare a [op] [b] pos) (tOp r ta tb):=by
  intro pins s σ H Q I h
  exact wpAny_Compare1 (binT ha hb I h fun v u s2 x y H2 I2 rx ry q=>ho pins s2 σ H2 x y v u Q I2 rx ry q) hm
def tTest (t:TE):TT:=fun σ H Q=>t σ H fun x H'=>∃ k,x=.bl k∧Q k H'
theorem pt_cmpR {op:CmpOp} {r:R2} (ho:OpR X (compareOp op) r) (ha:PE X a ta) (hb:PE X b tb) (hm:behindInMarks op b=false):PT X (.Compare a [op] [b] pos) (tTest (tOp r ta tb)):=by
  intro pins s σ H Q I h
  refine wpAny_isTrue_Compare1 (thn (ha pins s σ H _ I h) fun v s1 ⟨x,H1,I1,r1,q1⟩=>thn (hb pins s1 σ H1 _ I1 q1) fun u s2 ⟨y,H2,I2,r2,q2⟩ =>
    thn (ho pins s2 σ H2 x y v u _ I2 r1 r2 q2) fun c s3 ⟨z,H3,I3,r3,k,e,q3⟩=>?_) hm
  subst e
  cases r3
  exact wpAny_truthy_bool ⟨H3,I3,q3⟩
def TruV (K:PySem.W.Frag) (x:V) (H:Hp) (k:Bool):Prop :=
  match x with
  | .non=>k=false
  | .bl b=>k=b
  | .int i=>k=(i != 0)
  | .str y=>y.length≤sizeLine∧k=((y.length:Int) != 0)
  | .byt y=>y.size≤sizeLine∧k=((y.size:Int) != 0)
  | .ref p=>(∃ xs,SqL K H p xs∧k=!xs.isEmpty)∨(∃ xs,SqT K H p xs∧k=!xs.isEmpty)∨∃ kvs,H p=some (.dK kvs)∧k=!kvs.isEmpty
  | _=>False
theorem isEmpty_kv {κ:Type} {kvs:List (κ × V)} {vs:List (κ × Value)} (r:KV kvs vs):(!vs.isEmpty)=!kvs.isEmpty:=by
  cases r <;> rfl
theorem isEmpty_of {xs:List V} {its:List Value} (r:Vals xs its):(!its.toArray.isEmpty)=!xs.isEmpty:=by
  cases r <;> simp
theorem line63:(sizeLine:Nat) < 2 ^ 63:=by rw [sizeLine_eq]; decide
theorem tru_ok:TruR X (fun x H Q=>∃ k,TruV X.K x H k∧Q k H):=by
  intro pins s σ H x v Q I rx h
  obtain ⟨k,e,q⟩:=h
  have hl:=line63
  have hs:sizeLine=16777216:=sizeLine_eq
  cases x with
  | non =>
    cases rx
    have e':k=false:=e
    subst e'
    exact truthy_none ⟨H,I,q⟩
  | bl b =>
    cases rx
    have e':k=b:=e
    subst e'
    exact wpAny_truthy_bool ⟨H,I,q⟩
  | int i =>
    obtain ⟨t,rfl⟩:=rx
    have e':k=(i != 0):=e
    subst e'
    exact PySem.P.truthy_int ⟨H,I,q⟩
  | str y =>
    obtain ⟨t,rfl⟩:=rx
    obtain ⟨hy,e'⟩:y.length≤sizeLine∧k=((y.length:Int) != 0):=e
    subst e'
    exact PySem.P.truthy_str (by omega) ⟨H,I.tok _,q⟩
  | byt y =>
    obtain ⟨t,rfl⟩:=rx
    obtain ⟨hy,e'⟩:y.size≤sizeLine∧k=((y.size:Int) != 0):=e
    subst e'
    exact PySem.W.truthy_bytes (by omega) ⟨H,I.tok _,q⟩
  | ref p =>
    cases rx
    have e':(∃ xs,SqL X.K H p xs∧k=!xs.isEmpty)∨(∃ xs,SqT X.K H p xs∧k=!xs.isEmpty)∨∃ kvs,H p=some (.dK kvs)∧k=!kvs.isEmpty:=e
    rcases e' with ⟨xs,hx,e'⟩ | ⟨xs,hx,e'⟩ | ⟨kvs,hx,e'⟩
    · subst e'
      obtain ⟨its,r,pl,hz⟩:=I.list hx
      have hlen:=r.length
      exact wpAny_truthy_list pl.isList (by simp only [List.size_toArray]; omega) ⟨H,I.tok _,by rw [isEmpty_of r]; exact q⟩
    · subst e'
      obtain ⟨its,r,pl,hz⟩:=I.tuple hx
      have hlen:=r.length
      exact truthy_tuple pl (by simp only [List.size_toArray]; omega) ⟨H,I.tok _,by rw [isEmpty_of r]; exact q⟩
    · subst e'
      obtain ⟨hz,hS,vs,r,m⟩:kvs.length≤sizeLine∧(p == sysModules)=false∧∃ vs,KV kvs vs∧s.heap.DictOf (mixKind X.prog X.w) p vs:=I.hok p _ hx
      have hlen:kvs.length=vs.length:=Paired.length r
      exact wpAny_truthy_dict hS m (by omega) ⟨H,I.tok _,by rw [isEmpty_kv r]; exact q⟩
  | _=>exact (show False from e).elim
theorem pt_truth (ha:PE X a ta) (he:∀ whole,isTrue a X.env whole=(do let v ← whole; standAt a.pos; holding [v] (truthy v))) :
    PT X a (fun σ H Q=>ta σ H fun x H'=>∃ k,TruV X.K x H' k∧Q k H'):=by
  intro pins s σ H Q I h
  exact isTrue_plain (thn (ha pins s σ H _ I h) fun v s1 ⟨x,H1,I1,r1,q1⟩=>tru_ok pins s1 σ H1 x v Q I1 r1 q1) (he _)
theorem op_add_str:OpR X (binaryOp .Add) (fun x y H Q=>∃ i j,x=.str i∧y=.str j∧i.length+j.length≤sizeLine∧Q (.str (i++j)) H):=by
  intro pins s σ H x y v u Q I rx ry h
  obtain ⟨i,j,rfl,rfl,hz,q⟩:=h
  obtain ⟨t,rfl⟩:=rx
  obtain ⟨t',rfl⟩:=ry
  exact add_str (fun t' tk=>⟨.str (i++j),H,I.tok _,⟨_,rfl⟩,q⟩) hz
theorem vals1 {x:V} {us:List Value} (r:Vals [x] us):∃ u,us=[u]∧RelV x u:=by
  cases r with
  | cons r1 r2=>cases r2; exact ⟨_,rfl,r1⟩
theorem vals2 {x y:V} {us:List Value} (r:Vals [x,y] us):∃ u w',us=[u,w']∧RelV x u∧RelV y w':=by
  cases r with
  | cons r1 r2 =>
    cases r2 with
    | cons r3 r4=>cases r4; exact ⟨_,_,rfl,r1,r3⟩
theorem call_abs:CallR X (.builtin "abs") (fun xs H Q=>∃ i,xs=[.int i]∧Q (.int (if i < 0 then -i else i)) H):=by
  intro pins s σ H xs us Q I r h
  obtain ⟨i,rfl,q⟩:=h
  obtain ⟨u,rfl,t,rfl⟩:=vals1 r
  exact call_abs_int fun u tk=>⟨.int (if i < 0 then -i else i),H,I.tok _,⟨_,rfl⟩,q⟩
theorem call_max2 (hc:X.calm=true):CallR X (.builtin "max") (fun xs H Q=>∃ i j,xs=[.int i,.int j]∧Q (.int (if j > i then j else i)) H):=by
  intro pins s σ H xs us Q I r h
  obtain ⟨i,j,rfl,q⟩:=h
  obtain ⟨u,w',rfl,⟨t,rfl⟩,⟨t',rfl⟩⟩:=vals2 r
  refine max_two_ints (I.ok.hd hc) fun h' tk k=>⟨_,H,I.kept k,?_,q⟩
  by_cases hj:j > i
  · rw [if_pos hj,if_pos hj]; exact ⟨_,rfl⟩
  · rw [if_neg hj,if_neg hj]; exact ⟨_,rfl⟩
theorem call_int1:CallR X (.type "int") (fun xs H Q=>(∃ i,xs=[.int i]∧Q (.int i) H)∨∃ k,xs=[.bl k]∧Q (.int (if k then 1 else 0)) H):=by
  intro pins s σ H xs us Q I r h
  rcases h with ⟨i,rfl,q⟩ | ⟨k,rfl,q⟩
  · obtain ⟨u,rfl,t,rfl⟩:=vals1 r
    exact call_int_int ⟨.int i,H,I,⟨_,rfl⟩,q⟩
  · obtain ⟨u,rfl,r1⟩:=vals1 r
    cases r1
    exact call_int_bool ⟨.int (if k then 1 else 0),H,I.tok _,⟨_,rfl⟩,q⟩
end
end L2
namespace L2
open PySem PySem.Spec PyProof.Rows
structure ObjM (h:Heap) (x dx C:Addr) (mA:Str→Option Value):Prop where
  obj:h.get? x=some (PySem.W.instObj C dx)
  ns:h.Ns1 dx mA
  ne:dx≠x
theorem lookIn_ns {h:Heap} {dx:Addr} {mA:Str→Option Value} (n:h.Ns1 dx mA):∃ od,h.get? dx=some od∧∀ name,PySem.W.lookIn name od=some (mA name):=by
  obtain ⟨o,es,ep,ho,hd,hk,_,hm⟩:=n
  refine ⟨o,ho,fun name=>?_⟩
  have e:=hm name
  unfold nsFind findBy at e
  rw [← Array.find?_toList] at e
  unfold PySem.W.lookIn
  rw [hd]
  dsimp only
  split
  · rename_i y q
    rw [q] at e
    exact congrArg some e
  · rename_i q
    rw [q] at e
    have a:es.toList.any (·.refKey)=false:=by
      rw [List.any_eq_false]
      intro y hy
      obtain ⟨z,t,hkey⟩:=hk y (Array.mem_toList_iff.mp hy)
      simp [DictEntry.refKey,hkey]
    have a':¬ es.toList.any (·.refKey)=true:=by rw [a]; exact Bool.false_ne_true
    rw [if_neg a']
    exact congrArg some e
theorem ObjM.look {h:Heap} {x dx C:Addr} {mA:Str→Option Value} (I:ObjM h x dx C mA):∃ od,PySem.W.InstAt h x (PySem.W.instObj C dx) C (some od)∧∀ name,PySem.W.lookIn name od=some (mA name) :=
  let ⟨od,ho,hl⟩:=lookIn_ns I.ns
  ⟨od,⟨I.obj,rfl,rfl,ho⟩,hl⟩
section
variable {prog:Program} {w:World} {A:Around} {E:Value→Shared→Prop} {s:Shared} {K:PySem.W.Frag} {x dx C f:Addr} {mA:Str→Option Value} {name:Str} {v:Value}
end
section
variable {P:Program} {w:World} {H H':Hp} {h h':Heap} {a C dx:Addr} {fs fs':List (Str × V)}
theorem ins_get (hok:HOk P w H h) (e:H a=some (.ins C dx fs)):∃ mA,ObjM h a dx C mA∧(∀ f,RelO (fs.lookup f) (mA f))∧PySem.Within mA (fs.map (·.1))∧fs.length≤1000∧H dx=some (.own a):=by
  obtain ⟨d,z,ne,ob,mA,n,r,q⟩:=(show ObjOk P w H h a (.ins C dx fs) from hok a _ e)
  exact ⟨mA,⟨ob,n,ne⟩,r,q,z,d⟩
end
structure Cls (K:PySem.W.Frag) (C:Addr):Prop where
  pg:PySem.W.plainGet K C Str.empty=true
  hd:PySem.W.hasDictIn K C=true
  po:PySem.W.plainOver K C=true
  sa:PySem.W.findIn K (.ref C) "__setattr__" = some (some (.builtin "object.__setattr__"))
theorem Cls.get {K:PySem.W.Frag} {C:Addr} (c:Cls K C) (f:Str):PySem.W.plainGet K C f=true:=c.pg
structure Con (K:PySem.W.Frag) (C:Addr) (f:Str) (v:V) (u:Value):Prop where
  at_:PySem.W.findIn K (.ref C) f=some (some u)
  rel:RelV v u
  get:PySem.W.specialIn K u "__get__" = some none
  cp:PySem.W.copiedNames.contains f=false
structure Meth (K:PySem.W.Frag) (C:Addr) (m:Str) (f:Addr):Prop where
  at_:PySem.W.findIn K (.ref C) m=some (some (.ref f))
  fn:PySem.W.isFn K (.ref f)=true
  kp:PySem.W.keepIn K (.ref f)=true
section
variable {X:Cx} {pins:List (Addr × Obj)} {σ:St} {H:Hp} {s:Shared} {a C dx:Addr} {fs:List (Str × V)} {f:Str} {v:V} {A:Around} {E:Value→Shared→Prop}
theorem Inv.made (I:Inv X pins σ H s):Inv X pins σ (upd (upd H s.heap.objs.size (.own (s.heap.objs.size+1))) (s.heap.objs.size+1) (.ins C s.heap.objs.size []))
    { s with heap:=(s.heap.push PySem.W.emptyDict).push (PySem.W.instObj C s.heap.objs.size) }:=by
  have e1:(s.heap.push PySem.W.emptyDict).get? s.heap.objs.size=some PySem.W.emptyDict:=Heap.get?_push_size s.heap rfl
  have e2:((s.heap.push PySem.W.emptyDict).push (PySem.W.instObj C s.heap.objs.size)).get? (s.heap.objs.size+1)=some (PySem.W.instObj C s.heap.objs.size):=by
    have:=Heap.get?_push_size (s.heap.push PySem.W.emptyDict) (o:=PySem.W.instObj C s.heap.objs.size) rfl
    rwa [Heap.size_push] at this
  have e3:(s.heap.push PySem.W.emptyDict).Ns s.heap.objs.size (fun _=>none):=⟨PySem.W.emptyDict,#[],_,e1,rfl,(fun e he=>absurd he (by simp)),fun _=>rfl⟩
  have I1:=I.laid (a:=s.heap.objs.size) (o:=.own (s.heap.objs.size+1)) (h':=s.heap.push PySem.W.emptyDict) (t':=s.toks) (fun b u q=>Heap.get?_push_of_some _ q) (Nat.le_refl _) ⟨_,e1⟩
  refine I1.laid (a:=s.heap.objs.size+1) (o:=.ins C s.heap.objs.size []) (t':=s.toks) (fun b u q=>Heap.get?_push_of_some _ q) (Nat.le_of_eq (Heap.size_push _ _)) ?_
  have ne:s.heap.objs.size≠s.heap.objs.size+1:=Nat.ne_of_lt (Nat.lt_succ_self _)
  refine ⟨by rw [upd_ne ne,upd_same],Nat.zero_le _,ne,e2,fun _=>none,(Heap.Ns1.of_empty e3).at fun o q=>Heap.get?_push_of_some _ q,fun _=>True.intro,fun y hy=>absurd rfl hy⟩
end
section
variable {X:Cx} {o e value:Expr} {f:Str} {pos pos' tpos:Pos} {ta tv:TE}
end
section
variable {X:Cx} {pins:List (Addr × Obj)} {σ:St} {H:Hp} {s:Shared} {A:Around} {E:Value→Shared→Prop} {Q:Value→Shared→Prop} {c:Value} {b:Bool}
inductive TyOf (K:PySem.W.Frag) (H:Hp):V→Value→Prop where
  | non:TyOf K H .non (.type "NoneType")
  | bl (x:Bool):TyOf K H (.bl x) (.type "bool")
  | int (i:Int):TyOf K H (.int i) (.type "int")
  | str (x:Str):TyOf K H (.str x) (.type "str")
  | flt (x:UInt64):TyOf K H (.flt x) (.type "float")
  | lst {a:Addr} {xs:List V} (e:H a=some (.lst xs)):TyOf K H (.ref a) (.type "list")
  | frz {a:Addr} {o:Obj} {xs:List V} (e:H a=some (.frz o (.lst xs))):TyOf K H (.ref a) (.type "list")
  | tup {a:Addr} {xs:List V} (e:H a=some (.tup xs)):TyOf K H (.ref a) (.type "tuple")
  | dK {a:Addr} {kvs:List (Key × V)} (e:H a=some (.dK kvs)):TyOf K H (.ref a) (.type "dict")
  | dT {a:Addr} {kvs:List (List Key × V)} (e:H a=some (.dT kvs)):TyOf K H (.ref a) (.type "dict")
  | ins {a C dx:Addr} {fs:List (Str × V)} (e:H a=some (.ins C dx fs)) (cl:Cls K C) (ha:PySem.W.findIn K (.ref C) "__class__" = some (some (.builtin "object.__class__")))
      (hn:PySem.W.specialIn K (.builtin "object.__class__") "__get__" = some (some (.builtin "getset_descriptor.__get__"))) (htk:PySem.W.takesIn K (.builtin "object.__class__")=some true)
      (hm:PySem.W.mroIn K C (.type "object")=some true):TyOf K H (.ref a) (.ref C)
theorem isinst_ok {x:V} {u t:Value} (I:Inv X pins σ H s) (rx:RelV x u) (ty:TyOf X.K H x t) (e:PySem.W.kitOne X.K t c=some b) (h:∀ tk,Q (.bool b) { s with toks:=tk }) :
    wpAny (model X.prog X.w) A (call (.builtin "isinstance") [u,c]) Q E s:=by
  cases ty with
  | non=>cases (show u=Value.none from rx); exact PySem.W.kia_one PySem.W.kitx_none I.kIn True.intro e (fun z=>nomatch z) h
  | bl y=>cases (show u=Value.bool y from rx); exact PySem.W.kia_one PySem.W.kitx_bool I.kIn True.intro e (fun z=>nomatch z) h
  | int i=>obtain ⟨t,q⟩:=(show ∃ t,u=Value.int i t from rx); cases q; exact PySem.W.kia_one PySem.W.kitx_int I.kIn True.intro e (fun z=>nomatch z) h
  | str y=>obtain ⟨t,q⟩:=(show ∃ t,u=Value.str y t from rx); cases q; exact PySem.W.kia_one PySem.W.kitx_str I.kIn True.intro e (fun z=>nomatch z) h
  | flt y=>obtain ⟨t,q⟩:=(show ∃ t,u=Value.float y t from rx); cases q; exact PySem.W.kia_one PySem.W.kitx_float I.kIn True.intro e (fun z=>nomatch z) h
  | @lst a xs ea =>
    cases (show u=Value.ref a from rx)
    obtain ⟨_,_,n,_,h1⟩:=(show ObjOk X.prog X.w H s.heap a (.lst xs) from I.hok a _ ea)
    exact PySem.W.kia_one PySem.W.kitx_list I.kIn ⟨_,h1,rfl⟩ e (fun z=>nomatch z) h
  | @frz a ob xs ea =>
    cases (show u=Value.ref a from rx)
    obtain ⟨_,_,_,n,_,h1⟩:=(show ObjOk X.prog X.w H s.heap a (.frz ob (.lst xs)) from I.hok a _ ea)
    exact PySem.W.kia_one PySem.W.kitx_list I.kIn ⟨_,h1,rfl⟩ e (fun z=>nomatch z) h
  | @tup a xs ea =>
    cases (show u=Value.ref a from rx)
    obtain ⟨_,_,_,p⟩:=(show ObjOk X.prog X.w H s.heap a (.tup xs) from I.hok a _ ea)
    obtain ⟨o,h1,h2,_⟩:=p
    exact PySem.W.kia_one PySem.W.kitx_tuple I.kIn ⟨o,h1,h2⟩ e (fun z=>nomatch z) h
  | @dK a kvs ea =>
    cases (show u=Value.ref a from rx)
    obtain ⟨_,_,vs,_,p⟩:=(show ObjOk X.prog X.w H s.heap a (.dK kvs) from I.hok a _ ea)
    obtain ⟨o,es,ep,h1,h2,_⟩:=p
    exact PySem.W.kia_one PySem.W.kitx_dict I.kIn ⟨o,h1,h2.1⟩ e (fun z=>nomatch z) h
  | @dT a kvs ea =>
    cases (show u=Value.ref a from rx)
    obtain ⟨_,_,xs,_,o,es,ep,h1,h2,_⟩:=(show ObjOk X.prog X.w H s.heap a (.dT kvs) from I.hok a _ ea)
    exact PySem.W.kia_one PySem.W.kitx_dict I.kIn ⟨o,h1,h2.1⟩ e (fun z=>nomatch z) h
  | @ins a C dx fs ea cl ha hn htk hm =>
    cases (show u=Value.ref a from rx)
    obtain ⟨mA,O,_⟩:=ins_get I.hok ea
    obtain ⟨od,J,_⟩:=O.look
    exact PySem.W.kia_one (PySem.W.kitx_own (cl.get _) cl.hd ha hn htk hm) I.kIn J e (fun z=>nomatch z) h
end
end L2
namespace L2
open PySem PySem.Spec PyProof.Rows
structure Room (k:Nat) (A:Around):Prop where
  hd:A.handled=none
  dp:A.depth+3 * k+5 < recursionLimit
  un:A.units+16 * k+200 < cLine
theorem Room.mono {j k:Nat} {A:Around} (r:Room k A) (h:j≤k):Room j A:=⟨r.hd,by have:=r.dp; omega,by have:=r.un; omega⟩
theorem Room.deeper {k:Nat} {A:Around} (r:Room (k+1) A) (env:Env):Room k (A.deeper env) :=
  ⟨r.hd,by have:=r.dp; show A.depth+1+3 * k+5 < _; omega,by have:=r.un; show A.units+3+16 * k+200 < _; omega⟩
theorem Room.in1 {k:Nat} {A:Around} (r:Room (k+1) A):Room k A.in1 :=
  ⟨r.hd,by have:=r.dp; show A.depth+3 * k+5 < _; omega,by have:=r.un; show A.units+1+16 * k+200 < _; omega⟩
theorem Room.depth {k:Nat} {A:Around} (r:Room k A):A.depth < recursionLimit:=by have:=r.dp; omega
theorem Room.units {k:Nat} {A:Around} (r:Room k A):A.units+64 < cLine:=by have:=r.un; omega
theorem Room.units0 {k:Nat} {A:Around} (r:Room k A):A.units < cLine:=by have:=r.un; omega
def tNil:TA:=fun _ H Q=>Q [] H
def tCons (ta:TE) (tr:TA):TA:=fun σ H Q=>ta σ H fun x H1=>tr σ H1 fun xs H2=>Q (x :: xs) H2
section
variable {X:Cx} {e:Expr} {es:List Expr} {te:TE} {t:TA} {pos:Pos}
theorem pa_nil:PA X [] tNil:=fun _ _ _ _ H Q I h=>Calls.spliced_nil ⟨[],H,I,.nil,h⟩
theorem pa_cons (ha:PE X e te) (hr:PA X es t) (hs:starEach (e :: es) X.env=(false,eval e X.env) :: starEach es X.env:=by rfl):PA X (e :: es) (tCons te t):=by
  intro pos pins s σ H Q I h
  rw [hs]
  show wpAny _ _ (spliced ((false,eval e X.env) :: backTo pos (starEach es X.env))) _ _ s
  refine Calls.spliced_cons (thn (ha pins s σ H _ I h) fun u s1 ⟨x,H1,I1,r1,q1⟩=>?_)
  exact thn (hr pos pins s1 σ H1 _ I1 q1) fun us s2 ⟨xs,H2,I2,r2,q2⟩=>⟨x :: xs,H2,I2,.cons r1 r2,q2⟩
def tTup (t:TA):TE:=fun σ H Q=>t σ H fun xs H1=>xs.length≤sizeLine∧∀ p,H1 p=none→Q (.ref p) (upd H1 p (.tup xs))
def tLst (t:TA):TE:=fun σ H Q=>t σ H fun xs H1=>xs.length≤sizeLine∧∀ p,H1 p=none→Q (.ref p) (upd H1 p (.lst xs))
theorem pe_tup {x1} (h:PA X es t):PE X (.Tuple es x1 pos) (tTup t):=by
  intro pins s σ H Q I hq
  refine wpAny_Tuple_spliced (thn (h pos pins s σ H _ I hq) fun us s1 ⟨xs,H1,I1,r,z,q⟩=>⟨by rw [← r.length]; exact z,?_⟩)
  have hf:H1 s1.heap.objs.size=none:=I1.hok.fresh (Nat.le_refl _)
  refine ⟨.ref s1.heap.objs.size,upd H1 s1.heap.objs.size (.tup xs),I1.laid (t':=s1.toks) (fun b u e=>Heap.get?_push_of_some _ e) (Nat.le_refl _) ?_,rfl,q _ hf⟩
  exact ⟨z,us,r,⟨_,Heap.get?_push_size _ rfl,rfl,_,rfl⟩⟩
theorem pe_lst (h:PA X es t):PE X (.List es pos) (tLst t):=by
  intro pins s σ H Q I hq
  refine wpAny_List_spliced (thn (h pos pins s σ H _ I hq) fun us s1 ⟨xs,H1,I1,r,z,q⟩=>⟨by rw [← r.length]; exact z,?_⟩)
  have hf:H1 s1.heap.objs.size=none:=I1.hok.fresh (Nat.le_refl _)
  refine ⟨.ref s1.heap.objs.size,upd H1 s1.heap.objs.size (.lst xs),I1.laid (t':=s1.toks) (fun b u e=>Heap.get?_push_of_some _ e) (Nat.le_refl _) ?_,rfl,q _ hf⟩
  exact ⟨z,us,0,r,Heap.get?_push_size _ rfl⟩
end
abbrev Sp:=List V→Hp→VK→XK→Prop
abbrev CXT:=List Env→Hp→Shared→XK→Value→Shared→Prop
structure Env0 (P:Program) (w:World) (K:PySem.W.Frag) (mg:Str→Option Value) (base:Heap) (A:Around) (outer:List Env) (s:Shared) (H:Hp):Prop where
  frames:A.frames=some outer
  mod:Mod K mg base
  bs:∀ b o,base.get? b=some o→s.heap.get? b=some o∧H b=none
  bsz:base.objs.size≤s.heap.objs.size
  funs:s.heap.FunFrames base outer
  frf:∀ b∈frs outer,H b=none
  hok:HOk P w H s.heap
  bare:AllBare s.gens
def CE (outer:List Env) (P:Program) (w:World) (H:Hp) (s:Shared) (Q:VK) (u:Value) (s':Shared):Prop :=
  ∃ v H',s'.os=s.os∧AllBare s'.gens∧Un (frs outer) [] H H' s.heap s'.heap∧HOk P w H' s'.heap∧RelV v u∧Q v H'
def CR (CX:CXT) (outer:List Env) (P:Program) (w:World) (H:Hp) (s:Shared) (Q:VK) (E:XK) (r:Result) (s':Shared):Prop :=
  match r with
  | .ok (.ret u)=>CE outer P w H s Q u s'
  | .ok _=>False
  | .error e=>CX outer H s E e s'
structure FnOk (P:Program) (w:World) (K:PySem.W.Frag) (mg:Str→Option Value) (base:Heap) (CX:CXT) (k:Nat) (f:Addr) (fd:FuncData) (ps:List Str) (sp:Sp):Prop where
  len:∀ vs H Q E,sp vs H Q E→vs.length=ps.length
  run:∀ (A:Around) (outer:List Env) (s:Shared) (H:Hp) (args:Args) (us:List Value) (vs:List V) (Q:VK) (E:XK),Room k A→Env0 P w K mg base A outer s H→BindsTo s fd args (ps.zip us)→Vals vs us→sp vs H Q E →
    codeAny (model P w) A (.call (.ref f) args) (CR CX outer P w H s Q E) s
theorem FnOk.mono {P:Program} {w:World} {K:PySem.W.Frag} {mg:Str→Option Value} {base:Heap} {CX:CXT} {j k:Nat} {f:Addr} {fd:FuncData} {ps:List Str} {sp:Sp} (F:FnOk P w K mg base CX j f fd ps sp) (h:j≤k) :
    FnOk P w K mg base CX k f fd ps sp:=⟨F.len,fun A outer s H args us vs Q E hr=>F.run A outer s H args us vs Q E (hr.mono h)⟩
theorem FnOk.imp {P:Program} {w:World} {K:PySem.W.Frag} {mg:Str→Option Value} {base:Heap} {CX:CXT} {k:Nat} {f:Addr} {fd:FuncData} {ps:List Str} {sp sp':Sp} (F:FnOk P w K mg base CX k f fd ps sp)
    (h:∀ vs H Q E,sp' vs H Q E→sp vs H Q E):FnOk P w K mg base CX k f fd ps sp' :=
  ⟨fun vs H Q E q=>F.len vs H Q E (h _ _ _ _ q),fun A outer s H args us vs Q E hr he hb hv hs=>F.run A outer s H args us vs Q E hr he hb hv (h _ _ _ _ hs)⟩
theorem Env0.in1 {P:Program} {w:World} {K:PySem.W.Frag} {mg:Str→Option Value} {base:Heap} {A:Around} {outer:List Env} {s:Shared} {H:Hp} (e:Env0 P w K mg base A outer s H) :
    Env0 P w K mg base A.in1 outer s H:=⟨e.frames,e.mod,e.bs,e.bsz,e.funs,e.frf,e.hok,e.bare⟩
section
variable {X:Cx} {pins:List (Addr × Obj)} {σ:St} {H:Hp} {s s':Shared}
theorem Inv.env0 (I:Inv X pins σ H s):Env0 X.prog X.w X.K X.mg X.base X.A X.stack s H :=
  ⟨I.ok.frames,I.ok.mod,I.bs,Nat.le_trans I.ok.bsz I.sz,I.stack,I.stkFree,I.hok,I.bare⟩
theorem Inv.after {Q:VK} {u:Value} (I:Inv X pins σ H s) (h:CE X.stack X.prog X.w H s Q u s'):EP X pins σ Q u s':=by
  obtain ⟨v,H',os,bare,un,hok,r,q⟩:=h
  obtain ⟨hh,g,d,t,os'⟩:=s'
  obtain rfl:os'=s.os:=os
  exact ⟨v,H',I.call (h':=hh) (g':=g) (d':=d) (t':=t) (ch:=[]) un hok bare (fun b z=>absurd z (by simp)),r,q⟩
end
def tCall (sp:Sp) (dvs:List V) (E:XK) (t:TA):TE:=fun σ H Q=>t σ H fun vs H1=>sp (vs++dvs) H1 Q E
def Binds (K:PySem.W.Frag) (fd:FuncData) (ps:List Str) (ds:List Value):Prop :=
  ∀ (s:Shared) (us:List Value),K.In s.heap→(us++ds).length=ps.length→BindsTo s fd ⟨us,[]⟩ (ps.zip (us++ds))
theorem Binds.all {K:PySem.W.Frag} {fd:FuncData} {ps:List Str} (h:∀ us:List Value,us.length=ps.length→bindArgs fd ⟨us,[]⟩=pure (ps.zip us)):Binds K fd ps []:=fun s us _ hl=>by
  rw [List.append_nil] at hl ⊢
  exact .of_eq (h us hl)
def Passes (CX:CXT) (X:Cx) (E:XK):Prop:=∀ (pins:List (Addr × Obj)) (σ:St) (H:Hp) (s:Shared) (e:Value) (s':Shared),Inv X pins σ H s→CX X.stack H s E e s'→X.xe e s'
section
variable {X:Cx} {CX:CXT} {k:Nat} {f C:Addr} {fd:FuncData} {ps:List Str} {sp:Sp} {dvs:List V} {ds:List Value} {E:XK} {x m:Str} {p pos apos:Pos} {e o:Expr} {es:List Expr} {ta:TE} {t:TA}
theorem run_fn {pins:List (Addr × Obj)} {σ:St} {H:Hp} {s:Shared} {Q:VK} {us:List Value} {vs:List V} (F:FnOk X.prog X.w X.K X.mg X.base CX k f fd ps sp) (hr:Room k X.A) (hb:Binds X.K fd ps ds) (hd:Vals dvs ds) (hx:Passes CX X E)
    (I:Inv X pins σ H s) (r:Vals vs us) (h:sp (vs++dvs) H Q E):wpAny (model X.prog X.w) X.A (call (.ref f) us) (EP X pins σ Q) X.xe s:=by
  have r2:Vals (vs++dvs) (us++ds):=r.append hd
  have hl:(us++ds).length=ps.length:=by rw [← r2.length]; exact F.len _ _ _ _ h
  refine wpAny_call (codeAny_mono (F.run X.A X.stack s H ⟨us,[]⟩ (us++ds) (vs++dvs) Q E hr I.env0 (hb s us I.kIn hl) r2 h) fun r s' hq=>?_)
  cases r with
  | error e=>exact hx pins σ H s e s' I hq
  | ok fl =>
    cases fl with
    | ret u=>exact I.after hq
    | next=>exact False.elim hq
    | brk=>exact False.elim hq
    | cont=>exact False.elim hq
theorem pe_call (F:FnOk X.prog X.w X.K X.mg X.base CX k f fd ps sp) (hr:Room k X.A) (hg:Gl X x) (hm:X.mg x=some (.ref f)) (hk:PySem.W.keepIn X.K (.ref f)=true) (hb:Binds X.K fd ps ds) (hd:Vals dvs ds) (hx:Passes CX X E)
    (ha:PA X (e :: es) t) (hdb:(x == ("__debug__" : Str))=false:=by decide) (he:starEach (e :: es) X.env=(false,eval e X.env) :: starEach es X.env:=by rfl) (hpl:(backTo pos (starEach es X.env)).any (·.1)=false:=by rfl) :
    PE X (.Call (.Name x p) (e :: es) [] pos) (tCall sp dvs E t):=by
  intro pins s σ H Q I h
  refine wpAny_Call_Name_kw (ld_glob I hg hm ?_ hdb)
  refine PySem.W.callWith_K (h₀:=X.base) I.ok.mod.kin hk (thn (ha pos pins s σ H _ I h) fun us s1 ⟨vs,H1,I1,r,q⟩=>⟨I1.kIn,?_⟩) he hpl
  exact run_fn F hr hb hd hx I1 r q
structure Mk (K:PySem.W.Frag) (C f:Addr):Prop where
  makes:PySem.W.makesIn K C=true
  init:PySem.W.findIn K (.ref C) "__init__" = some (some (.ref f))
  fn:PySem.W.isFn K (.ref f)=true
  kp:PySem.W.keepIn K (.ref C)=true
end
def PK (X:Cx) (kws:List Keyword) (t:TA):Prop :=
  ∀ (pos:Pos) (pins:List (Addr × Obj)) (s:Shared) (σ:St) (H:Hp) (Q:List V→Hp→Prop),Inv X pins σ H s→t σ H Q→wpAny (model X.prog X.w) X.A (evalAll ((backToKw pos (keywordEach kws X.env)).map (·.2))) (AP X pins σ Q) X.xe s
section
variable {X:Cx} {CX:CXT} {k:Nat} {f C:Addr} {fd:FuncData} {ps ks:List Str} {sp:Sp} {E:XK} {x m:Str} {p pos apos kpos:Pos} {e o:Expr} {es:List Expr} {kws:List Keyword} {te ta:TE} {t tk:TA} {nm:Option Str}
theorem pk_nil:PK X [] tNil:=fun _ _ _ _ H Q I h=>wpAny_evalAll_nil ⟨[],H,I,.nil,h⟩
theorem pk_cons (ha:PE X e te) (hr:PK X kws t):PK X (⟨nm,e,kpos⟩ :: kws) (tCons te t):=by
  intro pos pins s σ H Q I h
  show wpAny _ _ (evalAll ((do let v ← eval e X.env; standAt pos; pure v) :: (backToKw pos (keywordEach kws X.env)).map (·.2))) _ _ s
  refine wpAny_evalAll_cons (wpAny_bind (thn (ha pins s σ H _ I h) fun u s1 ⟨x,H1,I1,r1,q1⟩=>wpAny_bind (wpAny_standAt (wpAny_pure ?_))))
  exact thn (hr pos pins s1 σ H1 _ I1 q1) fun us s2 ⟨xs,H2,I2,r2,q2⟩=>⟨x :: xs,H2,I2,.cons r1 r2,q2⟩
structure KBinds (K:PySem.W.Frag) (fd:FuncData) (ps ks:List Str) (g:List Value→List Value→List Value) (gV:List V→List V→List V):Prop where
  to:∀ (s:Shared) (us ws:List Value),K.In s.heap→(g us ws).length=ps.length→BindsTo s fd ⟨us,ks.zip ws⟩ (ps.zip (g us ws))
  rel:∀ {vs:List V} {us:List Value} {zs:List V} {ws:List Value},Vals vs us→Vals zs ws→Vals (gV vs zs) (g us ws)
variable {g:List Value→List Value→List Value} {gV:List V→List V→List V}
end
structure FnScope (N P:List Str) (sc:Scope):Prop where
  kind:sc.kind=.function
  co:sc.isCoroutine=false
  gen:sc.isGenerator=false
  nd:N.Nodup
  pre:N.take P.length=P
  par:∀ x∈P,sc.names.lookup x=some .local∨sc.names.lookup x=some .cell
  nofree:∀ y∈sc.names,y.2≠.free
theorem bindL_out {kindOf:Str→Option NameKind} {x:Str}:∀ {binds:List (Str × Value)} {m:Str→Option Value},(∀ v,(x,v) ∉ binds)→bindL kindOf binds m x=m x
  | [],_,_=>rfl
  | (n,v) :: r,m,h=>by
    unfold bindL
    rw [bindL_out fun w hw=>h w (List.mem_cons_of_mem _ hw)]
    split
    · have:x≠n:=by rintro rfl; exact h v List.mem_cons_self
      simp [this]
    · rfl
theorem bindC_out {kindOf:Str→Option NameKind} {x:Str}:∀ {binds:List (Str × Value)} {m:Str→Option Value},(∀ v,(x,v) ∉ binds)→bindC kindOf binds m x=m x
  | [],_,_=>rfl
  | (n,v) :: r,m,h=>by
    unfold bindC
    rw [bindC_out fun w hw=>h w (List.mem_cons_of_mem _ hw)]
    split
    · rfl
    · have:x≠n:=by rintro rfl; exact h v List.mem_cons_self
      simp [this]
theorem bindL_get {kindOf:Str→Option NameKind} {x:Str} {v:Value}:∀ {P:List Str} {vs:List Value} {i:Nat} {m:Str→Option Value},P.Nodup→P[i]?=some x→vs[i]?=some v→kindOf x=some .local →
    bindL kindOf (P.zip vs) m x=some v
  | [],_,_,_,_,h,_,_=>by simp at h
  | _ :: _,[],_,_,_,_,h,_=>by simp at h
  | p :: P,w :: vs,0,m,nd,h1,h2,hk=>by
    simp at h1 h2; subst h1; subst h2
    show bindL kindOf ((p,w) :: P.zip vs) m p=_
    unfold bindL
    rw [bindL_out fun v hv=>(List.nodup_cons.mp nd).1 (List.of_mem_zip hv).1,if_pos hk]
    simp
  | p :: P,w :: vs,i+1,m,nd,h1,h2,hk=>by
    show bindL kindOf ((p,w) :: P.zip vs) m x=_
    unfold bindL
    exact bindL_get (i:=i) (List.nodup_cons.mp nd).2 (by simpa using h1) (by simpa using h2) hk
theorem bindC_get {kindOf:Str→Option NameKind} {x:Str} {v:Value}:∀ {P:List Str} {vs:List Value} {i:Nat} {m:Str→Option Value},P.Nodup→P[i]?=some x→vs[i]?=some v→kindOf x≠some .local →
    bindC kindOf (P.zip vs) m x=some v
  | [],_,_,_,_,h,_,_=>by simp at h
  | _ :: _,[],_,_,_,_,h,_=>by simp at h
  | p :: P,w :: vs,0,m,nd,h1,h2,hk=>by
    simp at h1 h2; subst h1; subst h2
    show bindC kindOf ((p,w) :: P.zip vs) m p=_
    unfold bindC
    rw [bindC_out fun v hv=>(List.nodup_cons.mp nd).1 (List.of_mem_zip hv).1,if_neg hk]
    simp
  | p :: P,w :: vs,i+1,m,nd,h1,h2,hk=>by
    show bindC kindOf ((p,w) :: P.zip vs) m x=_
    unfold bindC
    exact bindC_get (i:=i) (List.nodup_cons.mp nd).2 (by simpa using h1) (by simpa using h2) hk
def start (N:List Str) (vs:List V):St:=vs.map some++List.replicate (N.length - vs.length) none
def cxOf (CX:CXT) (P:Program) (w:World) (K:PySem.W.Frag) (mg:Str→Option Value) (base:Heap) (N:List Str) (qual:Str) (scope:Scope) (f:Addr) (cd:Value) (A:Around) (outer:List Env) (s:Shared) (H:Hp) (E:XK):Cx where
  prog:=P
  w:=w
  K:=K
  mg:=mg
  base:=base
  A:=A.deeper (envOfC qual scope s.heap.objs.size f cd)
  N:=N
  s₀:=s
  H₀:=H
  env:=envOfC qual scope s.heap.objs.size f cd
  outer:=outer
  stack:=envOfC qual scope s.heap.objs.size f cd :: outer
  ex:=[]
  calm:=true
  fn:=fun _=>true
  pn:=[]
  xe:=fun e s'=>wpAny (model P w) (A.deeper (envOfC qual scope s.heap.objs.size f cd)) (leaving (envOfC qual scope s.heap.objs.size f cd) e) (fun _ s''=>CX outer H s E e s'') (fun e' s''=>CX outer H s E e' s'') s'
theorem cell_has {sc:Scope} {n:Nat} {x:Str} (h:sc.names.lookup x=some .cell):∃ c,(cellsFrom n sc.names []).lookup x=some c:=by
  have q:=PySem.W.cellsFrom_some sc.names n [] (.inl h)
  exact Option.isSome_iff_exists.mp q
theorem inv_start {CX:CXT} {P:Program} {w:World} {K:PySem.W.Frag} {mg:Str→Option Value} {base:Heap} {N ps:List Str} {qual:Str} {scope:Scope} {f:Addr} {cd:Value} {A:Around} {outer:List Env} {s s1:Shared} {H:Hp} {E:XK} {us:List Value} {vs:List V}
    (S:FnScope N ps scope) (hd:A.handled=none) (e0:Env0 P w K mg base A outer s H) (hl:vs.length=ps.length) (r:Vals vs us)
    (x:InCallC s s.heap.objs.size (bindL (envOfC qual scope s.heap.objs.size f cd).kindOf (ps.zip us) fun _=>none) (cellsFrom (s.heap.objs.size+1) scope.names []) (bindC (envOfC qual scope s.heap.objs.size f cd).kindOf (ps.zip us) fun _=>none) s1) :
    Inv (cxOf CX P w K mg base N qual scope f cd A outer s H E) [] (start N vs) H s1:=by
  have hpl:ps.length≤N.length:=by have:=congrArg List.length S.pre; rw [List.length_take] at this; omega
  obtain ⟨h1,tk,rfl,hk⟩:=x.done
  have noA:∀ b:Addr,b ∉ (cxOf CX P w K mg base N qual scope f cd A outer s H E).ex:=fun b z=>absurd (show b∈([]:List Addr) from z) (by simp)
  refine ⟨⟨e0.mod,S.kind,rfl,rfl,Nat.le_refl _,fun y z c h1 h2=>?_,fun y hy=>?_,fun y c _ h=>?_,fun _=>hd,Around.frames_deeper e0.frames,.inr ⟨rfl,rfl⟩,fun b z=>absurd z (noA b),e0.bs,e0.bsz,fun b _ _=>noA b,fun b z=>absurd z (noA b),e0.funs,e0.frf⟩,
    rfl,e0.bare,Un.kept hk,⟨_,x.toInCall.ns,fun i y v h1 h2 h3=>?_⟩,fun y c h=>⟨_,x.cell y c h⟩,e0.hok.fresh (Nat.le_refl _),fun y c h=>?_,fun p hp=>absurd (show p∈([]:List (Addr × Obj)) from hp) (by simp),e0.hok.kept hk,?_⟩
  · exact name_of_addr x.apart (PySem.mem_of_lookup h1) (PySem.mem_of_lookup h2)
  · have hy:scope.names.lookup y=some .cell∨scope.names.lookup y=some .free:=hy
    rcases hy with hy | hy
    · exact cell_has hy
    · exact absurd rfl (S.nofree _ (PySem.mem_of_lookup hy))
  · exact Nat.le_of_lt (x.above y c (PySem.mem_of_lookup h))
  · have hi:i < vs.length:=by
      unfold start at h2
      by_cases hi:i < vs.length
      · exact hi
      · rw [List.getElem?_append_right (by simpa using hi)] at h2
        rw [List.getElem?_replicate] at h2
        split at h2 <;> cases h2
    have ha:vs[i]?=some v:=by
      unfold start at h2
      rw [List.getElem?_append_left (by simpa using hi),List.getElem?_map] at h2
      cases e:vs[i]? with
      | none=>rw [e] at h2; cases h2
      | some a=>rw [e] at h2; cases h2; rfl
    obtain ⟨u,hu,rv⟩:=r.get ha
    have hp:ps[i]?=some y:=by
      rw [← S.pre,List.getElem?_take_of_lt (by omega)]; exact h1
    have ndP:ps.Nodup:=by rw [← S.pre]; exact S.nd.sublist (List.take_sublist _ _)
    refine ⟨u,rv,?_⟩
    rcases S.par y (List.mem_of_getElem? hp) with k | k
    · exact .inl ⟨k,bindL_get ndP hp hu k⟩
    · obtain ⟨c,e⟩:=cell_has (n:=s.heap.objs.size+1) k
      refine .inr ⟨.inl k,c,e,?_⟩
      have q:=x.cell y c e
      rw [bindC_get ndP hp hu (by show scope.names.lookup y≠_; rw [k]; decide)] at q
      exact q
  · exact e0.hok.fresh (Nat.le_of_lt (x.above y c (PySem.mem_of_lookup h)))
  · unfold start
    show _=N.length
    rw [List.length_append,List.length_map,List.length_replicate]
    omega
theorem fn_of {CX:CXT} {P:Program} {w:World} {K:PySem.W.Frag} {mg:Str→Option Value} {base:Heap} {k:Nat} {f:Addr} {name qual:Str} {params:Arguments} {body:List Stmt} {scope:Scope} {dV kV doc pm cdv ct oc:Value} {an od:Option Addr}
    {osl:Array (Option Value)} {N ps:List Str} {sp:Sp} (lk:K.lookup f=some ⟨oc,od,.func (PySem.W.fnOf name qual params body scope dV kV doc pm an cdv ct),osl⟩) (hcd:PySem.W.codeIn K cdv qual=true) (S:FnScope N ps scope)
    (len:∀ vs H Q E,sp vs H Q E→vs.length=ps.length)
    (hbody:∀ (A:Around) (outer:List Env) (s:Shared) (H:Hp) (vs:List V) (Q:VK) (E:XK),Room k (A.deeper (envOfC qual scope s.heap.objs.size f cdv))→sp vs H Q E →
      ∃ t,PSs (cxOf CX P w K mg base N qual scope f cdv A outer s H E) body t∧t { nx:=fun _ H'=>Q .non H',rt:=Q } (start N vs) H) :
    FnOk P w K mg base CX (k+1) f (PySem.W.fnOf name qual params body scope dV kV doc pm an cdv ct) ps sp:=by
  refine ⟨len,fun A outer s H args us vs Q E hr e0 hb r hsp=>?_⟩
  have hl:=len _ _ _ _ hsp
  have KX:K.In s.heap:=e0.mod.kin.keeps fun b o e=>(e0.bs b o e).1
  have lim:s.heap.NoLimit:=e0.mod.nolimit.keeps fun b o e=>(e0.bs b o e).1
  have hkind:∀ y∈ps.zip us,scope.names.lookup y.1=some .local∨(scope.names.lookup y.1=some .cell∧((cellsFrom (s.heap.objs.size+1) scope.names []).lookup y.1).isSome=true):=fun ⟨n,v⟩ hy=>by
    rcases S.par n (List.of_mem_zip hy).1 with q | q
    · exact .inl q
    · exact .inr ⟨q,PySem.W.cellsFrom_some _ _ _ (.inl q)⟩
  refine codeAny_call_function hr.depth (KX _ _ lk) rfl S.co S.gen rfl (PySem.W.codeRec_of KX hcd) (hb _ _ _ _ ?_)
  refine wpAny_newFunctionEnv_cells S.kind hkind fun env he s1 x=>?_
  subst he
  refine ⟨lim.keeps x.toInCall.keep,codeAny_func ?_⟩
  obtain ⟨t,ht,hq⟩:=hbody A outer s H vs Q E (hr.deeper _) hsp
  have I:Inv (cxOf CX P w K mg base N qual scope f cdv A outer s H E) [] (start N vs) H s1:=inv_start S hr.hd e0 hl r x
  refine wpAny_mono (ht [] s1 (start N vs) H _ I hq) (fun fl s' hs=>?_) fun e s' hs=>hs
  have fin:∀ {σ':St} {H':Hp} {v:V} {u:Value},Inv (cxOf CX P w K mg base N qual scope f cdv A outer s H E) [] σ' H' s'→RelV v u→Q v H'→CE outer P w H s Q u s' :=
    fun {σ' H' v u} J rv q=>⟨v,H',J.os,J.bare,J.base,J.hok,rv,q⟩
  cases fl with
  | ret u =>
    obtain ⟨v,σ',H',J,rv,q⟩:=hs
    exact fin J rv q
  | next =>
    obtain ⟨σ',H',J,q⟩:=hs
    exact fin (v:=V.non) (u:=Value.none) J rfl q
  | brk =>
    obtain ⟨_,_,_,q⟩:=hs
    exact False.elim q
  | cont =>
    obtain ⟨_,_,_,q⟩:=hs
    exact False.elim q
end L2
namespace L2
open PySem PySem.Spec PyProof.Rows
section
variable {X:Cx} {x:Str} {p pos:Pos} {e:Expr} {es:List Expr} {t:TA} {id T:String} {r:List V→Hp→VK→Prop}
def tCB (r:List V→Hp→VK→Prop) (t:TA):TE:=fun σ H Q=>t σ H fun vs H1=>r vs H1 Q
theorem pe_callB (hc:CallR X (.builtin id) r) (hg:Gl X x) (hm:X.mg x=none) (hv:bootBuiltins x=some (.builtin id)) (ha:PA X (e :: es) t) (hn:x ≠ "__name__":=by decide) (hdb:(x == ("__debug__" : Str))=false:=by decide)
    (he:starEach (e :: es) X.env=(false,eval e X.env) :: starEach es X.env:=by rfl) (hpl:(backTo pos (starEach es X.env)).any (·.1)=false:=by rfl):PE X (.Call (.Name x p) (e :: es) [] pos) (tCB r t):=by
  intro pins s σ H Q I h
  refine wpAny_Call_Name_kw (ld_blt I hg hm hv ?_ hn hdb)
  exact PyProof.Rows.callWith_builtin1 (thn (ha pos pins s σ H _ I h) fun us s1 ⟨vs,H1,I1,r1,q1⟩=>hc pins s1 σ H1 vs us Q I1 r1 q1) he hpl
theorem pe_callTy (hc:CallR X (.type T) r) (hg:Gl X x) (hm:X.mg x=none) (hv:bootBuiltins x=some (.type T)) (ha:PA X (e :: es) t) (hn:x ≠ "__name__":=by decide) (hdb:(x == ("__debug__" : Str))=false:=by decide)
    (he:starEach (e :: es) X.env=(false,eval e X.env) :: starEach es X.env:=by rfl) (hpl:(backTo pos (starEach es X.env)).any (·.1)=false:=by rfl):PE X (.Call (.Name x p) (e :: es) [] pos) (tCB r t):=by
  intro pins s σ H Q I h
  refine wpAny_Call_Name_kw (ld_blt I hg hm hv ?_ hn hdb)
  exact PyProof.Rows.callWith_type1 (thn (ha pos pins s σ H _ I h) fun us s1 ⟨vs,H1,I1,r1,q1⟩=>hc pins s1 σ H1 vs us Q I1 r1 q1) he hpl
end
end L2
namespace HT
open PySem PyProof.Rows
section
open PySem.SeqAt
open PySem.AutoSeq1 (wpAny_loadPart')
open PySem.MeetsSeq PySem.MeetsSeq2 PySem.MeetsSeq3
end
section
variable {prog:Program} {w:World} {A:Around} {E:Value→Shared→Prop} {s:Shared}
theorem cat_tup {t b:Addr} {vs ws:List Value} {Q:Value→Shared→Prop} (ht:IsTup s.heap t vs.toArray) (hb:IsTup s.heap b ws.toArray) (hv:vs≠[])
    (h1:ws=[]→Q (.ref t) s) (h2:ws≠[]→Q (.ref s.heap.objs.size) { s with heap:=s.heap.push { cls:=.type "tuple",data:=.seq (vs++ws).toArray } })
    (hsz:vs.length+ws.length≤sizeLine):wpAny (model prog w) A (binaryOp .Add (.ref t) (.ref b)) Q E s:=by
  obtain ⟨⟨cls,dd,data,sl⟩,ho,hc,n,hd⟩:=id ht
  obtain ⟨⟨cls2,dd2,data2,sl2⟩,ho2,hc2,n2,hd2⟩:=id hb
  simp only at hc hd hc2 hd2
  subst hc hd hc2 hd2
  have e:vs.toArray++ws.toArray=(vs++ws).toArray:=by simp
  by_cases hw:ws=[]
  · exact concat_meets ⟨_,ho,rfl⟩ ⟨_,ho2,rfl⟩ noFill_tuple_add seq_tuple_add PySem.F.slot_tuple_add PySem.F.entry_tuple_add (PySem.F.args_tuple_add_2 _ _)
      (tuple_addW1 t b vs.toArray ws.toArray n n2 dd dd2 sl sl2 (by simpa using hv) (by simp [hw])) ⟨ho,ho2,h1 hw⟩
  · refine concat_meets ⟨_,ho,rfl⟩ ⟨_,ho2,rfl⟩ noFill_tuple_add seq_tuple_add PySem.F.slot_tuple_add PySem.F.entry_tuple_add (PySem.F.args_tuple_add_2 _ _)
      (tuple_addW2 t b vs.toArray ws.toArray n n2 dd dd2 sl sl2 (by simpa using hv) (by simpa using hw) (by rw [List.size_toArray,List.size_toArray]; exact hsz)) ⟨ho,ho2,?_⟩
    rw [e]
    exact h2 hw
def sIx (n d:Nat):Option Int→Nat
  | none=>d
  | some v=>if v < 0 then (v+(n:Int)).toNat else min v.toNat n
theorem sIx_none (n d:Nat):sIx n d none=d:=rfl
theorem sIx_nat (n d k:Nat):sIx n d (some (k:Int))=min k n:=by
  show (if (k:Int) < 0 then ((k:Int)+(n:Int)).toNat else min (k:Int).toNat n)=min k n
  rw [if_neg (by omega),Int.toNat_natCast]
theorem sIx_le (n d:Nat) (hd:d≤n) (o:Option Int):sIx n d o≤n:=by
  cases o with
  | none=>exact hd
  | some v =>
    show (if v < 0 then (v+(n:Int)).toNat else min v.toNat n)≤n
    by_cases hv:v < 0
    · rw [if_pos hv]; omega
    · rw [if_neg hv]; exact Nat.min_le_right _ _
theorem clip_eq (v:Int) (n d:Nat):(if v < 0 then max (v+(n:Int)) 0 else min v (n:Int))=((sIx n d (some v):Nat):Int):=by
  show (if v < 0 then max (v+(n:Int)) 0 else min v (n:Int))=(((if v < 0 then (v+(n:Int)).toNat else min v.toNat n):Nat):Int)
  by_cases hv:v < 0
  · simp only [if_pos hv]; omega
  · simp only [if_neg hv]; omega
theorem adjust_gen (lo hi:Option Int) (n:Nat):Builtin.Slice.sliceAdjust lo hi 1 (n:Int)=(((sIx n 0 lo:Nat):Int),((sIx n n hi:Nat):Int)):=by
  have h1:¬ ((1:Int) < 0):=by omega
  unfold Builtin.Slice.sliceAdjust
  simp only [h1,if_false]
  refine Prod.ext ?_ ?_
  · cases lo with
    | none=>rfl
    | some v=>exact clip_eq v n 0
  · cases hi with
    | none=>rfl
    | some v=>exact clip_eq v n n
theorem places_gen (i j:Nat):Builtin.Slice.slicePlaces (i:Int) (j:Int) 1=j - i:=by
  unfold Builtin.Slice.slicePlaces
  have h1:(1:Int) > 0:=by omega
  simp only [h1,if_true,Int.ediv_one]
  split <;> omega
theorem slicePart_ {v:Value} {o:Option Int} {Q:Option Int→Shared→Prop} (p:IsPart v o) (h:Q o s):wpAny (model prog w) A (Builtin.Slice.slicePartIndex v) Q E s:=by
  cases p with
  | none=>exact slicePart_none h
  | int i t=>exact slicePart_int h
theorem sliceApplied_gen {sl:Addr} {vl vu:Value} {lo hi:Option Int} {n:Nat} {Q:Int × Int × Nat→Shared→Prop} (hs:s.heap.IsSliceOf sl vl vu .none) (pl:IsPart vl lo) (pu:IsPart vu hi)
    (h:Q (((sIx n 0 lo:Nat):Int),1,sIx n n hi - sIx n 0 lo) s):wpAny (model prog w) A (Builtin.Slice.sliceApplied (.ref sl) (pure (n:Int))) Q E s:=by
  obtain ⟨os,hos,hcs,hds⟩:=id hs
  unfold Builtin.Slice.sliceApplied Builtin.Slice.sliceFields
  refine wpAny_bind (wpAny_bind (wpAny_field hos hds (x:=vl) rfl (wpAny_bind (wpAny_field hos hds (x:=vu) rfl (wpAny_bind (wpAny_field hos hds (x:=.none) rfl (wpAny_pure ?_)))))))
  refine wpAny_bind (slicePart_none ?_)
  show wpAny _ _ (if ((1:Int) == 0)=true then _ else _) _ _ s
  rw [if_neg (by decide)]
  refine wpAny_bind (slicePart_ pl (wpAny_bind (slicePart_ pu (wpAny_bind (wpAny_pure ?_)))))
  show wpAny _ _ (match Builtin.Slice.sliceAdjust lo hi 1 (n:Int) with | (lo,hi)=>pure (lo,(1:Int),Builtin.Slice.slicePlaces lo hi 1)) _ _ s
  rw [adjust_gen lo hi n]
  show wpAny _ _ (pure (((sIx n 0 lo:Nat):Int),(1:Int),Builtin.Slice.slicePlaces ((sIx n 0 lo:Nat):Int) ((sIx n n hi:Nat):Int) 1)) _ _ s
  rw [places_gen]
  exact wpAny_pure h
theorem pick_gen (xs:Array Value) (i k:Nat):((List.range k).filterMap fun (m:Nat)=>xs[((i:Int)+(m:Int) * 1).toNat]?).toArray=((xs.toList.drop i).take k).toArray:=by
  have e:(fun (m:Nat)=>xs[((i:Int)+(m:Int) * 1).toNat]?)=fun m=>xs[i+m]?:=by
    funext m
    have:((i:Int)+(m:Int) * 1).toNat=i+m:=by omega
    rw [this]
  rw [e]
  have:=pick_run xs i k
  rw [List.filterMap_map] at this
  have e2:((fun x=>xs[x]?) ∘ fun x=>i+x)=fun m=>xs[i+m]?:=rfl
  rw [e2] at this
  rw [this]
theorem getItem_tuple_cut {t sl:Addr} {items:Array Value} {vl vu:Value} {lo hi:Option Int} {Q:Value→Shared→Prop} (ht:IsTup s.heap t items) (hs:s.heap.IsSliceOf sl vl vu .none) (pl:IsPart vl lo) (pu:IsPart vu hi)
    (hw:¬ (sIx items.size 0 lo=0∧sIx items.size items.size hi=items.size))
    (h:Q (.ref s.heap.objs.size) { s with heap:=s.heap.push { cls:=.type "tuple",data:=.seq ((items.toList.drop (sIx items.size 0 lo)).take (sIx items.size items.size hi - sIx items.size 0 lo)).toArray } })
    (hsz:items.size≤sizeLine):wpAny (model prog w) A (getItem (.ref t) (.ref sl)) Q E s:=by
  have htake:sizeOk (.seq ((items.toList.drop (sIx items.size 0 lo)).take (sIx items.size items.size hi - sIx items.size 0 lo)).toArray):=by
    show ((items.toList.drop (sIx items.size 0 lo)).take (sIx items.size items.size hi - sIx items.size 0 lo)).toArray.size≤sizeLine
    rw [List.size_toArray,List.length_take,List.length_drop,Array.length_toList]
    omega
  have hj:sIx items.size items.size hi≤items.size:=sIx_le _ _ (Nat.le_refl _) hi
  obtain ⟨os,hos,hcs,hds⟩:=id hs
  have hTs:s.TypeIs (.ref sl) "slice":=⟨os,hos,hcs⟩
  unfold getItem
  try with_reducible refine wpAny_holding ?_
  first | refine wpAny_bind (wpAny_pure ?_) | skip
  refine wpAny_bind (wpAny_sequenceKey ht.typeIs (by decide) ?_)
  refine wpAny_bind (wpAny_callSpecial?_slot (name:=Str.ofString "__getitem__") ht.typeIs PyProof.Rows.slot_tuple_getitem
    (wpAny_call_entry PyProof.Rows.slot_tuple_getitem ht.typeIs entry_tuple_getitem ?_ (args_tuple_getitem _ _)))
  show wpAny _ _ (Builtin.Tuple.tupleItemsOf (.ref t) >>= _) _ _ s
  refine wpAny_bind (tupleItemsOf_ ht ?_)
  refine wpAny_bind (wpAny_typeOf hTs ?_)
  rw [if_pos (by decide)]
  refine wpAny_bind (sliceApplied_gen hs pl pu ?_)
  have hno:¬ ((((sIx items.size 0 lo:Nat):Int) == 0 && (1:Int) == 1 && (sIx items.size items.size hi - sIx items.size 0 lo) == items.size)=true):=by
    intro q
    rw [Bool.and_eq_true,Bool.and_eq_true] at q
    have q1:((sIx items.size 0 lo:Nat):Int)=0:=eq_of_beq q.1.1
    have q2:sIx items.size items.size hi - sIx items.size 0 lo=items.size:=eq_of_beq q.2
    exact hw ⟨by omega,by omega⟩
  show wpAny _ _ (if (((sIx items.size 0 lo:Nat):Int) == 0 && (1:Int) == 1 && (sIx items.size items.size hi - sIx items.size 0 lo) == items.size)=true then _ else _) _ _ s
  rw [if_neg hno,pick_gen]
  first
    | exact wpAny_bind (m:=Builtin.Tuple.tupleExact _) (wpAny_newObj_type (wpAny_pure ⟨_,rfl,wpAny_pure h⟩) htake)
    | exact wpAny_bind (m:=Builtin.Tuple.tupleExact _) (wpAny_newObj_type (wpAny_bind (wpAny_pure (wpAny_pure ⟨_,rfl,wpAny_pure h⟩))) htake)
    | exact wpAny_bind (wpAny_bind (m:=Builtin.Tuple.tupleExact _) (wpAny_newObj_type (wpAny_pure (wpAny_pure ⟨_,rfl,wpAny_pure h⟩)) htake))
    | exact wpAny_bind (wpAny_bind (m:=Builtin.Tuple.tupleExact _) (wpAny_newObj_type (wpAny_pure ⟨_,rfl,wpAny_pure h⟩) htake))
end
end HT
namespace L2
open PySem PySem.Spec PyProof.Rows
abbrev TO:=St→Hp→(Option Int→Hp→Prop)→Prop
def PO (X:Cx) (e:Option Expr) (t:TO):Prop :=
  ∀ (pins:List (Addr × Obj)) (s:Shared) (σ:St) (H:Hp) (Q:Option Int→Hp→Prop),Inv X pins σ H s→t σ H Q →
    wpAny (model X.prog X.w) X.A (evalPart e X.env) (fun u s'=>∃ o H',Inv X pins σ H' s'∧IsPart u o∧Q o H') X.xe s
def tNoPart:TO:=fun _ H Q=>Q none H
def tPart (t:TE):TO:=fun σ H Q=>t σ H fun x H1=>∃ i,x=.int i∧Q (some i) H1
section
variable {X:Cx} {e:Expr} {te:TE} {lo hi:Option Expr} {tl th:TO} {pos p2:Pos}
theorem po_none:PO X none tNoPart:=by
  intro pins s σ H Q I h
  rw [evalPart_none]
  exact wpAny_pure ⟨none,H,I,.none,h⟩
theorem po_some (h:PE X e te):PO X (some e) (tPart te):=by
  intro pins s σ H Q I hw
  rw [evalPart_some]
  refine thn (h pins s σ H _ I hw) fun u s1 ⟨x,H1,I1,r1,q1⟩=>?_
  obtain ⟨i,rfl,q⟩:=q1
  obtain ⟨t,rfl⟩:=r1
  exact ⟨some i,H1,I1,.int i t,q⟩
def SlR (X:Cx) (r:V→Option Int→Option Int→Hp→VK→Prop):Prop :=
  ∀ (pins:List (Addr × Obj)) (s:Shared) (σ:St) (H:Hp) (x:V) (v vl vu:Value) (lo hi:Option Int) (sl:Addr) (Q:VK),Inv X pins σ H s→RelV x v→s.heap.IsSliceOf sl vl vu .none→IsPart vl lo→IsPart vu hi→r x lo hi H Q →
    ∃ T id,typeLookup (.type T) "__getitem__" = pure (some (.builtin id))∧s.TypeIs v T∧wpAny (model X.prog X.w) X.A (getItem v (.ref sl)) (EP X pins σ Q) X.xe s
theorem SlR.or {r r':V→Option Int→Option Int→Hp→VK→Prop} (h:SlR X r) (h':SlR X r'):SlR X (fun x lo hi H Q=>r x lo hi H Q∨r' x lo hi H Q):=by
  intro pins s σ H x v vl vu lo hi sl Q I rx hs pl pu q
  rcases q with q | q
  · exact h pins s σ H x v vl vu lo hi sl Q I rx hs pl pu q
  · exact h' pins s σ H x v vl vu lo hi sl Q I rx hs pl pu q
def tSl (r:V→Option Int→Option Int→Hp→VK→Prop) (te:TE) (tl th:TO):TE:=fun σ H Q=>te σ H fun x H1=>tl σ H1 fun l H2=>th σ H2 fun u H3=>r x l u H3 Q
theorem pe_slice {r:V→Option Int→Option Int→Hp→VK→Prop} (hr:SlR X r) (he:PE X e te) (hl:PO X lo tl) (hu:PO X hi th):PE X (.Subscript e (.Slice lo hi none p2) pos) (tSl r te tl th):=by
  intro pins s σ H Q I h
  refine Subscript_ (thn (he pins s σ H _ I h) fun v s1 ⟨x,H1,I1,r1,q1⟩=>?_)
  refine wpAny_Slice (thn (hl pins s1 σ H1 _ I1 q1) fun vl s2 ⟨l,H2,I2,pl,q2⟩=>thn (hu pins s2 σ H2 _ I2 q2) fun vu s3 ⟨u,H3,I3,pu,q3⟩=>?_)
  rw [evalPart_none]
  refine wpAny_pure ?_
  have I4:Inv X pins σ H3 { s3 with heap:=s3.heap.push { cls:=.type "slice",data:=.fields #[vl,vu,.none] } }:=I3.kept (t':=s3.toks) fun b ob q=>Heap.get?_push_of_some _ q
  obtain ⟨T,id,hT,ht,hg⟩:=hr pins { s3 with heap:=s3.heap.push { cls:=.type "slice",data:=.fields #[vl,vu,.none] } } σ H3 x v vl vu l u s3.heap.objs.size Q I4 r1 (Heap.IsSliceOf.new ..) pl pu q3
  show wpAny (model X.prog X.w) X.A (subscriptTail e (.Slice lo hi none p2) v (.ref s3.heap.objs.size)) (EP X pins σ Q) X.xe { s3 with heap:=s3.heap.push { cls:=.type "slice",data:=.fields #[vl,vu,.none] } }
  exact tail_any (ops:=[.ref s3.heap.objs.size,v]) ht hT hg (by with_unfolding_all rfl)
def cutV (xs:List V) (lo hi:Option Int):List V:=(xs.drop (HT.sIx xs.length 0 lo)).take (HT.sIx xs.length xs.length hi - HT.sIx xs.length 0 lo)
theorem cutV_length (xs:List V) (lo hi:Option Int):(cutV xs lo hi).length≤xs.length:=by
  unfold cutV
  rw [List.length_take,List.length_drop]
  omega
def rSlT (K:PySem.W.Frag):V→Option Int→Option Int→Hp→VK→Prop:=fun x lo hi H Q=>∃ a xs,x=.ref a∧SqT K H a xs ∧
  ¬ (HT.sIx xs.length 0 lo=0∧HT.sIx xs.length xs.length hi=xs.length)∧∀ p,H p=none→Q (.ref p) (upd H p (.tup (cutV xs lo hi)))
theorem sl_tup:SlR X (rSlT X.K):=by
  intro pins s σ H x v vl vu lo hi sl Q I rx hs pl pu h
  obtain ⟨a,xs,rfl,hx,hw,q⟩:=h
  cases rx
  obtain ⟨its,r,ht,hz⟩:=I.tuple hx
  have hlen:its.toArray.size=xs.length:=by rw [List.size_toArray]; exact r.length.symm
  refine ⟨"tuple",_,PyProof.Rows.slot_tuple_getitem.lookup,ht.typeIs,?_⟩
  refine HT.getItem_tuple_cut ht hs pl pu (by rw [hlen]; exact hw) ?_ (by rw [hlen]; exact hz)
  rw [hlen]
  refine ⟨.ref s.heap.objs.size,_,I.laid (t':=s.toks) (o:=.tup (cutV xs lo hi)) (fun b ob q=>Heap.get?_push_of_some _ q) (Nat.le_refl _) ?_,rfl,q _ (I.hok.fresh (Nat.le_refl _))⟩
  exact ⟨Nat.le_trans (cutV_length xs lo hi) hz,_,(r.drop (HT.sIx xs.length 0 lo)).take (HT.sIx xs.length xs.length hi - HT.sIx xs.length 0 lo),IsTup.new _ _⟩
def rCatT (K:PySem.W.Frag):R2:=fun x y H Q=>∃ a b xs ys,x=.ref a∧y=.ref b∧SqT K H a xs∧SqT K H b ys∧xs≠[]∧xs.length+ys.length≤sizeLine ∧
  (ys=[]→Q (.ref a) H)∧(ys≠[]→∀ p,H p=none→Q (.ref p) (upd H p (.tup (xs++ys))))
theorem Vals.nil_iff {xs:List V} {us:List Value} (r:Vals xs us):us=[]↔xs=[]:=by
  cases r with
  | nil=>simp
  | cons _ _=>simp
theorem op_catT:OpR X (binaryOp .Add) (rCatT X.K):=by
  intro pins s σ H x y v u Q I rx ry h
  obtain ⟨a,b,xs,ys,rfl,rfl,ha,hb,hx,hz,q1,q2⟩:=h
  cases rx
  cases ry
  obtain ⟨its,r1,p1,_⟩:=I.tuple ha
  obtain ⟨its2,r2,p2,_⟩:=I.tuple hb
  refine HT.cat_tup p1 p2 (fun z=>hx (r1.nil_iff.mp z)) (fun z=>⟨.ref a,H,I,rfl,q1 (r2.nil_iff.mp z)⟩) (fun z=>?_) (by rw [← r1.length,← r2.length]; exact hz)
  refine ⟨.ref s.heap.objs.size,_,I.laid (t':=s.toks) (o:=.tup (xs++ys)) (fun b ob q=>Heap.get?_push_of_some _ q) (Nat.le_refl _) ?_,rfl,q2 (fun w=>z (r2.nil_iff.mpr w)) _ (I.hok.fresh (Nat.le_refl _))⟩
  exact ⟨by rw [List.length_append]; exact hz,_,r1.append r2,IsTup.new _ _⟩
end
end L2
namespace L2
open PySem PySem.Spec PyProof.Rows
def ixN (n:Nat) (i:Int):Option Nat:=if 0≤i then (if i < n then some i.toNat else none) else if -(n:Int)≤i then some (i+n).toNat else none
def atI {α:Type} (xs:List α) (i:Int):Option α:=(ixN xs.length i).bind fun j=>xs[j]?
theorem ixN_seq {n:Nat} {i:Int} {j:Nat} (h:ixN n i=some j):seqIndex? i n=some j∧j < n∧-(n:Int)≤i∧i < n:=by
  unfold ixN at h
  by_cases h0:0≤i
  · rw [if_pos h0] at h
    by_cases h1:i < n
    · rw [if_pos h1] at h
      have e:i.toNat=j:=Option.some.inj h
      exact ⟨by rw [seqIndex_of h0 h1,e],by omega,by omega,h1⟩
    · rw [if_neg h1] at h; cases h
  · rw [if_neg h0] at h
    by_cases h1:-(n:Int)≤i
    · rw [if_pos h1] at h
      have e:(i+n).toNat=j:=Option.some.inj h
      exact ⟨by rw [seqIndex_neg (by omega) h1,e],by omega,h1,by omega⟩
    · rw [if_neg h1] at h; cases h
theorem atI_get {α:Type} {xs:List α} {i:Int} {v:α} (h:atI xs i=some v):∃ j,seqIndex? i xs.length=some j∧xs[j]?=some v∧j < xs.length∧-(xs.length:Int)≤i∧i < xs.length:=by
  unfold atI at h
  cases e:ixN xs.length i with
  | none=>rw [e] at h; cases h
  | some j =>
    rw [e] at h
    obtain ⟨h1,h2,h3,h4⟩:=ixN_seq e
    exact ⟨j,h1,h,h2,h3,h4⟩
theorem atI_nat {α:Type} {xs:List α} {j:Nat} {v:α} (h:xs[j]?=some v):atI xs (j:Int)=some v:=by
  have hj:j < xs.length:=(List.getElem?_eq_some_iff.mp h).1
  have e:ixN xs.length (j:Int)=some j:=by
    unfold ixN
    rw [if_pos (by omega),if_pos (by omega)]; simp
  unfold atI; rw [e]; exact h
def PlainIx (b:Expr):Prop:=∀ o i,subscripted b false o i=operate [o,i] (getItem o i)
def IxR (X:Cx) (r:R2):Prop :=
  ∀ (value slice:Expr) (pins:List (Addr × Obj)) (s:Shared) (σ:St) (H:Hp) (x y:V) (v u:Value) (Q:VK),Inv X pins σ H s→RelV x v→RelV y u→r x y H Q →
    subscripted slice false v u=operate [v,u] (getItem v u)→wpAny (model X.prog X.w) X.A (subscriptTail value slice v u) (EP X pins σ Q) X.xe s
def MtR (X:Cx) (id:String) (r:V→List V→Hp→VK→Prop):Prop :=
  ∀ (pins:List (Addr × Obj)) (s:Shared) (σ:St) (H:Hp) (x:V) (xs:List V) (v:Value) (us:List Value) (Q:VK),Inv X pins σ H s→RelV x v→Vals xs us→r x xs H Q →
    wpAny (model X.prog X.w) X.A (call (.builtin id) (v :: us)) (EP X pins σ Q) X.xe s
section
variable {X:Cx} {a b:Expr} {ta tb:TE} {pos:Pos}
theorem IxR.or {r r':R2} (h:IxR X r) (h':IxR X r'):IxR X (fun x y H Q=>r x y H Q∨r' x y H Q):=by
  intro value slice pins s σ H x y v u Q I rx ry q hs
  rcases q with q | q
  · exact h value slice pins s σ H x y v u Q I rx ry q hs
  · exact h' value slice pins s σ H x y v u Q I rx ry q hs
theorem MtR.or {id:String} {r r':V→List V→Hp→VK→Prop} (h:MtR X id r) (h':MtR X id r'):MtR X id (fun x xs H Q=>r x xs H Q∨r' x xs H Q):=by
  intro pins s σ H x xs v us Q I rx rs q
  rcases q with q | q
  · exact h pins s σ H x xs v us Q I rx rs q
  · exact h' pins s σ H x xs v us Q I rx rs q
theorem pe_ix {r:R2} (hr:IxR X r) (ha:PE X a ta) (hb:PE X b tb) (hs:PlainIx b):PE X (.Subscript a b pos) (tOp r ta tb):=by
  intro pins s σ H Q I h
  exact Subscript_ (binT ha hb I h fun v u s2 x y H2 I2 rx ry q=>hr a b pins s2 σ H2 x y v u Q I2 rx ry q (hs _ _))
def rIxL (K:PySem.W.Frag):R2:=fun x y H Q=>∃ p xs i v,x=.ref p∧y=.int i∧SqL K H p xs∧atI xs i=some v∧Q v H
def rIxT (K:PySem.W.Frag):R2:=fun x y H Q=>∃ p xs i v,x=.ref p∧y=.int i∧SqT K H p xs∧atI xs i=some v∧Q v H
def rIxS:R2:=fun x y H Q=>∃ z i c,x=.str z∧y=.int i∧z.length≤sizeLine∧atI z.cps.toList i=some c∧Q (.str ⟨#[c]⟩) H
theorem ix_list:IxR X (rIxL X.K):=by
  intro value slice pins s σ H x y v u Q I rx ry h hs
  obtain ⟨p,xs,i,z,rfl,rfl,hq,he,q⟩:=h
  cases rx
  obtain ⟨t,rfl⟩:=ry
  obtain ⟨its,r,pl,hz⟩:=I.list hq
  obtain ⟨j,h1,h2,h3,h4,h5⟩:=atI_get he
  obtain ⟨w,ew,rw'⟩:=r.get h2
  have hl:=r.length
  have hn:=line63
  have fin:EP X pins σ Q w s:=⟨z,H,I,rw',q⟩
  by_cases h0:0≤i
  · have hj:i.toNat=j:=by
      rw [seqIndex_of h0 h5] at h1
      exact Option.some.inj h1
    exact item_listR pl.isList h0 (by omega) (by rw [hj]; simpa using ew) fin hs
  · have hj:(i+(its.toArray.size:Int)).toNat=j:=by
      rw [seqIndex_neg (by omega) h4] at h1
      rw [List.size_toArray,← hl]
      exact Option.some.inj h1
    exact subscriptTail_builtinR (x:=w) pl.isList.typeIs slot_list_getitem.lookup
      (wpAny_getItem_list_neg (Q:=fun r s'=>r=w∧EP X pins σ Q r s') pl.isList (by omega) (by rw [List.size_toArray] <;> omega) (by omega) (by rw [hj]; simpa using ew) ⟨rfl,fin⟩) hs
theorem ix_tup:IxR X (rIxT X.K):=by
  intro value slice pins s σ H x y v u Q I rx ry h hs
  obtain ⟨p,xs,i,z,rfl,rfl,hq,he,q⟩:=h
  cases rx
  obtain ⟨t,rfl⟩:=ry
  obtain ⟨its,r,pl,hz⟩:=I.tuple hq
  obtain ⟨j,h1,h2,h3,h4,h5⟩:=atI_get he
  obtain ⟨w,ew,rw'⟩:=r.get h2
  have hl:=r.length
  have hn:=line63
  have fin:EP X pins σ Q w s:=⟨z,H,I,rw',q⟩
  exact subscriptTail_builtinR (x:=w) pl.typeIs slot_tuple_getitem.lookup
    (getItem_tuple (j:=j) (Q:=fun r s'=>r=w∧EP X pins σ Q r s') pl (by omega) (by omega) (by rw [List.size_toArray,← hl]; exact h1) (by simpa using ew) ⟨rfl,fin⟩) hs
theorem ix_str:IxR X rIxS:=by
  intro value slice pins s σ H x y v u Q I rx ry h hs
  obtain ⟨z,i,c,rfl,rfl,hz,he,q⟩:=h
  obtain ⟨t,rfl⟩:=rx
  obtain ⟨t',rfl⟩:=ry
  obtain ⟨j,h1,h2,h3,h4,h5⟩:=atI_get he
  have hl:z.cps.toList.length=z.length:=by simp [Str.length]
  rw [hl] at h1 h4 h5
  have hn:=line63
  exact tail_any (typeIs_str s z t) slot_str_getitem.lookup (getItem_str (c:=c) (by
    have e1:decide (i < -(2 ^ 63:Int))=false:=decide_eq_false (by omega)
    have e2:decide (i ≥ 2 ^ 63)=false:=decide_eq_false (by omega)
    rw [e1,e2,Bool.or_false]) (by rw [h1]; simpa using h2) ⟨.str ⟨#[c]⟩,H,I.tok _,⟨_,rfl⟩,q⟩) hs
theorem mapSeq_set (its:List Value) (n j:Nat) (u:Value):Obj.mapSeq (·.setIfInBounds j u) { cls:=.type "list",data:=.seq its.toArray n }={ cls:=.type "list",data:=.seq (its.set j u).toArray n }:=by
  simp [Obj.mapSeq]
theorem Inv.lst {pins:List (Addr × Obj)} {σ:St} {H:Hp} {s:Shared} {p:Addr} {xs:List V} (I:Inv X pins σ H s) (h:H p=some (.lst xs)) :
    ∃ (its:List Value) (n:Nat),Vals xs its∧s.heap.get? p=some { cls:=.type "list",data:=.seq its.toArray n }∧xs.length≤sizeLine:=by
  obtain ⟨z,its,n,r,e⟩:=I.hok p _ h
  exact ⟨its,n,r,e,z⟩
theorem Inv.lstUpd {pins:List (Addr × Obj)} {σ:St} {H:Hp} {s:Shared} {p:Addr} {xs ys:List V} {its its':List Value} {n n':Nat} {f:Obj→Obj} (I:Inv X pins σ H s) (h:H p=some (.lst xs))
    (ho:s.heap.get? p=some { cls:=.type "list",data:=.seq its.toArray n }) (hf:f { cls:=.type "list",data:=.seq its.toArray n }={ cls:=.type "list",data:=.seq its'.toArray n' }) (r:Vals ys its') (hz:ys.length≤sizeLine) (t:Nat) :
    Inv X pins σ (upd H p (.lst ys)) { s with heap:=s.heap.update p f,toks:=t }:=by
  have e:(s.heap.update p f).get? p=some { cls:=.type "list",data:=.seq its'.toArray n' }:=by
    rw [Heap.get?_update_self f ho (by rw [hf] <;> rfl),hf]
  refine I.write (x:=p) (e:=p) (by rw [h]; trivial) (.inl rfl) (fun b u hb q=>(Heap.get?_update_other _ _ (Ne.symm hb)).trans q) ⟨_,e⟩ ?_
  exact ⟨hz,its',n',r,e⟩
def rSetL:V→V→V→Hp→(Hp→Prop)→Prop:=fun o i v H Q=>∃ p xs k j,o=.ref p∧i=.int k∧H p=some (.lst xs)∧ixN xs.length k=some j∧Q (upd H p (.lst (xs.set j v)))
theorem set_list:PSet X rSetL:=by
  intro pins s σ H o i v ov iv u Q I ro ri rv h
  obtain ⟨p,xs,k,j,rfl,rfl,hp,hj,q⟩:=h
  cases ro
  obtain ⟨t,rfl⟩:=ri
  obtain ⟨its,n,r,ho,hz⟩:=I.lst hp
  obtain ⟨h1,h2,h3,h4⟩:=ixN_seq hj
  have hl:=r.length
  have hn:=line63
  have I':Inv X pins σ (upd H p (.lst (xs.set j v))) { s with heap:=s.heap.update p (Obj.mapSeq (·.setIfInBounds j u)) } :=
    I.lstUpd hp ho (mapSeq_set its n j u) (r.set rv j) (by rw [List.length_set]; exact hz) s.toks
  by_cases h0:0≤k
  · have hk:k.toNat=j:=by
      rw [seqIndex_of h0 h4] at h1
      exact Option.some.inj h1
    exact PySem.W.ki_setAt ho h0 (by omega) (by rw [List.size_toArray,← hl]; exact h4) (by rw [hk]; exact ⟨_,I',q⟩)
  · have hk:(k+(its.toArray.size:Int)).toNat=j:=by
      rw [seqIndex_neg (by omega) h3] at h1
      rw [List.size_toArray,← hl]
      exact Option.some.inj h1
    exact PySem.W.ki_setBack ho (by omega) (by rw [List.size_toArray,← hl]; exact h3) (by omega) (by rw [hk]; exact ⟨_,I',q⟩)
theorem slice_bounds (lo hi:Option Int) (n:Nat):(sliceBounds lo hi none n).1=((HT.sIx n 0 lo:Nat):Int)∧(sliceBounds lo hi none n).2.1=((HT.sIx n n hi:Nat):Int)∧(sliceBounds lo hi none n).2.2=1:=by
  refine ⟨?_,?_,rfl⟩
  · cases lo with
    | none=>simp [sliceBounds,HT.sIx]
    | some i =>
      simp only [sliceBounds,HT.sIx,Option.getD_none,show (1:Int) > 0 by decide,if_true]
      by_cases h:i < 0
      · simp only [h,if_true] <;> omega
      · simp only [h,if_false] <;> omega
  · cases hi with
    | none=>simp [sliceBounds,HT.sIx]
    | some i =>
      simp only [sliceBounds,HT.sIx,Option.getD_none,show (1:Int) > 0 by decide,if_true]
      by_cases h:i < 0
      · simp only [h,if_true] <;> omega
      · simp only [h,if_false] <;> omega
theorem slicePick_cut (its:List Value) (lo hi:Option Int):slicePick its.toArray lo hi none=((its.drop (HT.sIx its.length 0 lo)).take (HT.sIx its.length its.length hi - HT.sIx its.length 0 lo)).toArray:=by
  obtain ⟨h1,h2,h3⟩:=slice_bounds lo hi its.toArray.size
  unfold slicePick
  rw [h1,h2,h3]
  simp only [sliceRange_one,pick_run,List.size_toArray] <;> rfl
def rSlL (K:PySem.W.Frag):V→Option Int→Option Int→Hp→VK→Prop:=fun x lo hi H Q=>∃ a xs,x=.ref a∧SqL K H a xs∧∀ p,H p=none→Q (.ref p) (upd H p (.lst (cutV xs lo hi)))
theorem sl_list:SlR X (rSlL X.K):=by
  intro pins s σ H x v vl vu lo hi sl Q I rx hs pl pu h
  obtain ⟨a,xs,rfl,hx,q⟩:=h
  cases rx
  obtain ⟨its,r,ht,hz⟩:=I.list hx
  have hlen:=r.length
  refine ⟨"list",_,slot_list_getitem.lookup,ht.isList.typeIs,?_⟩
  refine wpAny_getItem_list_slice ht.isList hs pl pu .none (by simp) ?_ (by rw [List.size_toArray] <;> omega)
  rw [slicePick_cut,← hlen]
  refine ⟨.ref s.heap.objs.size,_,I.laid (t':=s.toks) (o:=.lst (cutV xs lo hi)) (fun b ob q=>Heap.get?_push_of_some _ q) (Nat.le_refl _) ?_,rfl,q _ (I.hok.fresh (Nat.le_refl _))⟩
  exact ⟨Nat.le_trans (cutV_length xs lo hi) hz,_,0,(r.drop (HT.sIx xs.length 0 lo)).take (HT.sIx xs.length xs.length hi - HT.sIx xs.length 0 lo),Heap.get?_push_size _ rfl⟩
theorem call_len_seq:CallR X (.builtin "len") (fun xs H Q=>∃ p ys,xs=[.ref p]∧(SqL X.K H p ys∨SqT X.K H p ys)∧Q (.int ys.length) H):=by
  intro pins s σ H xs us Q I r h
  obtain ⟨p,ys,rfl,hq,q⟩:=h
  obtain ⟨u,rfl,rx⟩:=vals1 r
  cases rx
  have hn:=line63
  rcases hq with hq | hq
  · obtain ⟨its,r',pl,hz⟩:=I.list hq
    have hlen:=r'.length
    exact Calls.call_len_list pl.isList (by simp only [List.size_toArray] <;> omega) ⟨.int ys.length,H,I.tok _,⟨s.toks+1,by rw [List.size_toArray,hlen]⟩,q⟩
  · obtain ⟨its,r',pl,hz⟩:=I.tuple hq
    have hlen:=r'.length
    exact len_tuple pl (by simp only [List.size_toArray] <;> omega) ⟨.int ys.length,H,I.tok _,⟨s.toks+1,by rw [List.size_toArray,hlen]⟩,q⟩
theorem call_len_str:CallR X (.builtin "len") (fun xs H Q=>∃ z,xs=[.str z]∧z.length≤sizeLine∧Q (.int z.length) H):=by
  intro pins s σ H xs us Q I r h
  obtain ⟨z,rfl,hz,q⟩:=h
  obtain ⟨u,rfl,t,rfl⟩:=vals1 r
  have hn:=line63
  exact len_str (by omega) ⟨.int z.length,H,I.tok _,⟨_,rfl⟩,q⟩
theorem CallR.or {f:Value} {r r':List V→Hp→VK→Prop} (h:CallR X f r) (h':CallR X f r'):CallR X f (fun xs H Q=>r xs H Q∨r' xs H Q):=by
  intro pins s σ H xs us Q I rs q
  rcases q with q | q
  · exact h pins s σ H xs us Q I rs q
  · exact h' pins s σ H xs us Q I rs q
theorem call_tuple_of:CallR X (.type "tuple") (fun xs H Q=>∃ p ys,xs=[.ref p]∧((SqL X.K H p ys∧∀ l,H l=none→Q (.ref l) (upd H l (.tup ys)))∨(SqT X.K H p ys∧Q (.ref p) H))):=by
  intro pins s σ H xs us Q I r h
  obtain ⟨p,ys,rfl,h⟩:=h
  obtain ⟨u,rfl,rx⟩:=vals1 r
  cases rx
  rcases h with ⟨hq,q⟩ | ⟨hq,q⟩
  · obtain ⟨its,r',pl,hz⟩:=I.list hq
    have hlen:=r'.length
    refine call_tuple_list pl.isList (fun h' kp=>?_) (by simp only [List.size_toArray] <;> omega)
    have I1:Inv X pins σ H { s with heap:=h' }:=I.kept (t':=s.toks) kp
    have I2:Inv X pins σ (upd H h'.objs.size (.tup ys)) { s with heap:=h'.push { cls:=.type "tuple",data:=.seq its.toArray } } :=
      I1.laid (t':=s.toks) (fun b o e=>Heap.get?_push_of_some _ e) (Nat.le_refl _) (show ObjOk X.prog X.w _ _ _ (.tup ys) from ⟨hz,its,r',IsTup.new _ _⟩)
    exact ⟨.ref h'.objs.size,_,I2,rfl,q _ (I1.hok.fresh (Nat.le_refl _))⟩
  · obtain ⟨its,r',pl,hz⟩:=I.tuple hq
    exact call_tuple_same pl ⟨.ref p,H,I,rfl,q⟩
def tyV (K:PySem.W.Frag) (T:String) (x:V) (H:Hp):Prop:=match x with
  | .str _=>T = "str"
  | .int _=>T = "int"
  | .ref p=>(T = "list"∧∃ xs,SqL K H p xs)∨(T = "tuple"∧∃ o,K.lookup p=some o∧o.cls=.type "tuple"∧o.dict=none) ∨
      (T = "dict"∧((∃ kvs,H p=some (.dK kvs))∨∃ kvs,H p=some (.dT kvs)))∨(T = "set"∧∃ S n,H p=some (.set S n))
  | _=>False
theorem tyV_is {pins:List (Addr × Obj)} {σ:St} {H:Hp} {s:Shared} {T:String} {x:V} {v:Value} (I:Inv X pins σ H s) (r:RelV x v) (ty:tyV X.K T x H) :
    s.TypeIs v T∧∀ a,v=.ref a→∃ ob,s.heap.get? a=some ob∧ob.dict=none:=by
  cases x with
  | str z =>
    obtain ⟨t,rfl⟩:=r
    cases (show T = "str" from ty)
    exact ⟨typeIs_str s z t,fun _ e=>nomatch e⟩
  | int i =>
    obtain ⟨t,rfl⟩:=r
    cases (show T = "int" from ty)
    exact ⟨typeIs_int s i t,fun _ e=>nomatch e⟩
  | ref p =>
    cases r
    rcases ty with ⟨rfl,xs,hq⟩ | ⟨rfl,o,hk,hc,hd⟩ | ⟨rfl,hk⟩ | ⟨rfl,S,n,hk⟩
    · obtain ⟨its,_,pl,_⟩:=I.list hq
      refine ⟨pl.isList.typeIs,fun a e=>?_⟩
      cases e
      obtain ⟨o,n,e,c,hd,_⟩:=pl
      exact ⟨o,e,hd⟩
    · refine ⟨⟨o,I.kIn p o hk,hc⟩,fun a e=>?_⟩
      cases e
      exact ⟨o,I.kIn _ o hk,hd⟩
    · have z:∃ o,s.heap.get? p=some o∧o.ExactDict:=by
        rcases hk with ⟨kvs,hk⟩ | ⟨kvs,hk⟩
        · obtain ⟨_,_,_,_,o,_,_,e,ex,_⟩:=I.hok p _ hk
          exact ⟨o,e,ex⟩
        · obtain ⟨_,_,_,_,o,_,_,e,ex,_⟩:=I.hok p _ hk
          exact ⟨o,e,ex⟩
      obtain ⟨o,e,ex⟩:=z
      refine ⟨⟨o,e,ex.1⟩,fun a e2=>?_⟩
      cases e2
      exact ⟨o,e,ex.2.1⟩
    · obtain ⟨o,_,_,_,e,ex,_⟩:=I.hok p _ hk
      refine ⟨⟨o,e,ex.1⟩,fun a e2=>?_⟩
      cases e2
      exact ⟨o,e,ex.2.1⟩
  | _=>exact False.elim ty
def tBM (K:PySem.W.Frag) (T:String) (r:V→List V→Hp→VK→Prop) (to:TE) (t:TA):TE:=fun σ H Q=>to σ H fun x H1=>tyV K T x H1∧t σ H1 fun xs H2=>r x xs H2 Q
variable {o e:Expr} {es:List Expr} {to:TE} {t:TA} {name:Str} {apos cpos:Pos} {T id:String} {r:V→List V→Hp→VK→Prop}
theorem pe_bm (pa:PlainAttrs T) (slot:Slot T name id) (hty:typeOf (.builtin id)=pure (.type "method_descriptor")) (hm:MtR X id r) (ho:PE X o to) (ha:PA X (e :: es) t)
    (hbase:attributeBase o name X.env (eval o X.env)=eval o X.env:=by rfl)
    (hfew:((backTo cpos (starEach (e :: es) X.env)).all (fun x=>!x.1) && (backToKw cpos (keywordEach [] X.env)).all (fun x=>x.1.isSome)
      && decide ((e :: es).length+([]:List Keyword).length+(if ([]:List Keyword).isEmpty then 0 else 1) < 30))=true:=by rfl)
    (hline:(apos.endLine == cpos.line)=true:=by rfl) (hs:starEach (e :: es) X.env=(false,eval e X.env) :: starEach es X.env:=by rfl) (hplain:(backTo cpos (starEach es X.env)).any (·.1)=false:=by rfl) :
    PE X (.Call (.Attribute o name apos) (e :: es) [] cpos) (tBM X.K T r to t):=by
  intro pins s σ H Q I h
  refine wpAny_Call_method_late hbase hfew hline rfl (thn (ho pins s σ H _ I h) fun v s1 ⟨x,H1,I1,r1,ty,q1⟩=>?_)
  obtain ⟨h1,h2⟩:=tyV_is I1 r1 ty
  refine ⟨T,id,pa,slot,hty,h1,h2,?_⟩
  have hA:=ha cpos pins s1 σ H1 _ I1 q1
  rw [hs] at hA ⊢
  refine Calls.callWith_builtin (by show (false || (backTo cpos (starEach es X.env)).any (·.1))=false; rw [hplain] <;> rfl) (Calls.evalArgs_plain ?_)
  exact thn hA fun us s2 ⟨vs,H2,I2,r2,q2⟩=>hm pins s2 σ H2 x vs v us Q I2 r1 r2 q2
end
end L2
namespace L2
open PySem PySem.Spec PyProof.Rows
def MtM (X:Cx) (id:String) (r:V→List V→Hp→VK→Prop):Prop :=
  ∀ (pins:List (Addr × Obj)) (s:Shared) (σ:St) (H:Hp) (x:V) (xs:List V) (v:Value) (us:List Value) (Q:VK),Inv X pins σ H s→RelV x v→Vals xs us→r x xs H Q →
    wpAny (model X.prog X.w) X.A (call (.builtin id) (v :: us)) (EP X pins σ Q) X.xe s
theorem Vals.one:∀ {x:V} {us:List Value},Vals [x] us→∃ u,us=[u]∧RelV x u
  | _,_,.cons r .nil=>⟨_,rfl,r⟩
theorem Vals.two:∀ {x y:V} {us:List Value},Vals [x,y] us→∃ u v,us=[u,v]∧RelV x u∧RelV y v
  | _,_,_,.cons r (.cons q .nil)=>⟨_,_,rfl,r,q⟩
theorem Vals.zero:∀ {us:List Value},Vals [] us→us=[]
  | _,.nil=>rfl
theorem Vals.eraseIdx:∀ {xs:List V} {us:List Value} (i:Nat),Vals xs us→Vals (xs.eraseIdx i) (us.eraseIdx i)
  | _,_,_,.nil=>.nil
  | _,_,0,.cons _ t=>t
  | _,_,i+1,.cons r t=>.cons r (Vals.eraseIdx i t)
theorem Vals.reverse {xs:List V} {us:List Value} (h:Vals xs us):Vals xs.reverse us.reverse:=by
  induction h with
  | nil=>exact .nil
  | cons r t ih=>rw [List.reverse_cons,List.reverse_cons]; exact Vals.append ih (.cons r .nil)
section
variable {X:Cx} {pins:List (Addr × Obj)} {σ:St} {H:Hp} {s:Shared} {l b:Addr} {xs ys zs:List V}
theorem Inv.lset {its its':List Value} {n:Nat} {f:Array Value→Array Value} {t':Nat} (I:Inv X pins σ H s) (hH:H l=some (.lst xs))
    (e:s.heap.get? l=some { cls:=.type "list",data:=.seq its.toArray n }) (hf:f its.toArray=its'.toArray) (hv:Vals ys its') (hz:ys.length≤sizeLine) :
    Inv X pins σ (upd H l (.lst ys)) { s with heap:=s.heap.update l (Obj.mapSeq f),toks:=t' }:=by
  have q:=PySem.IsL.update e f
  rw [hf] at q
  refine I.write (x:=l) (e:=l) (by rw [hH]; exact trivial) (.inl rfl) (fun b' u hb hu=>(Heap.get?_update_other s.heap (Obj.mapSeq f) (Ne.symm hb)).trans hu) ⟨_,q⟩ ?_
  exact ⟨hz,its',_,hv,q⟩
theorem Inv.lnew {its:List Value} {t':Nat} (I:Inv X pins σ H s) (hv:Vals ys its) (hz:ys.length≤sizeLine) :
    Inv X pins σ (upd H s.heap.objs.size (.lst ys)) { s with heap:=s.heap.push { cls:=.type "list",data:=.seq its.toArray },toks:=t' } :=
  I.laid (fun _ _ q=>Heap.get?_push_of_some _ q) (Nat.le_refl _) ⟨hz,its,0,hv,Heap.get?_push_size _ rfl⟩
theorem Inv.fresh (I:Inv X pins σ H s):H s.heap.objs.size=none:=I.hok.fresh (Nat.le_refl _)
theorem Inv.lstM (I:Inv X pins σ H s) (hH:H l=some (.lst xs)):xs.length≤sizeLine∧∃ (its:List Value) (n:Nat),Vals xs its∧xs.length=its.length∧s.heap.get? l=some { cls:=.type "list",data:=.seq its.toArray n }:=by
  obtain ⟨z,its,n,r,e⟩:=I.hok l _ hH
  exact ⟨z,its,n,r,r.length,e⟩
theorem notLongL {n:Nat} (h:n≤sizeLine):Builtin.List.listTooLong n=false:=by
  unfold Builtin.List.listTooLong
  exact decide_eq_false (by omega)
end
section
variable {X:Cx}
def rAppend:V→List V→Hp→VK→Prop:=fun x vs H Q=>∃ l xs y,x=.ref l∧vs=[y]∧H l=some (.lst xs)∧xs.length < sizeLine∧Q .non (upd H l (.lst (xs++[y])))
theorem mt_append:MtM X "list.append" rAppend:=by
  intro pins s σ H x vs v us Q I rx rv h
  obtain ⟨l,xs,y,rfl,rfl,hH,hz,q⟩:=h
  cases rx
  obtain ⟨u,rfl,ru⟩:=rv.one
  obtain ⟨z,its,n,r,hl,e⟩:=I.lstM hH
  refine call_meets F.slot_list_append ⟨_,e,rfl⟩ F.entry_list_append (F.args_list_append_2 _ _) (PySem.list_append l its.toArray n u (by rw [List.size_toArray]; omega)) ⟨e,?_⟩
  refine ⟨.non,_,I.lset (its':=its++[u]) hH e (by simp) (r.append (.cons ru .nil)) ?_,rfl,q⟩
  rw [List.length_append,List.length_singleton]
  omega
def rExtend:V→List V→Hp→VK→Prop:=fun x vs H Q=>∃ l b xs zs,x=.ref l∧vs=[.ref b]∧H l=some (.lst xs)∧H b=some (.lst zs)∧xs.length+zs.length≤sizeLine∧Q .non (upd H l (.lst (xs++zs)))
theorem mt_extend:MtM X "list.extend" rExtend:=by
  intro pins s σ H x vs v us Q I rx rv h
  obtain ⟨l,b,xs,zs,rfl,rfl,hH,hB,hz,q⟩:=h
  cases rx
  obtain ⟨u,rfl,ru⟩:=rv.one
  cases ru
  obtain ⟨z,its,n,r,hl,e⟩:=I.lstM hH
  obtain ⟨z2,its2,n2,r2,hl2,e2⟩:=I.lstM hB
  have hsz:its.toArray.size+its2.toArray.size≤sizeLine:=by rw [List.size_toArray,List.size_toArray]; omega
  have hlong:¬ (!its.toArray.isEmpty && Builtin.List.listTooLong (its.toArray.size+its2.toArray.size))=true:=by
    rw [notLongL hsz,Bool.and_false]
    exact Bool.false_ne_true
  refine call_meets F.slot_list_extend ⟨_,e,rfl⟩ F.entry_list_extend (F.args_list_extend_2 _ _)
    (AutoSeq1.list_extend_list_list_0 l its.toArray n b its2.toArray n2 hlong (by rw [List.size_toArray]; omega) (by omega)) ⟨e,e2,?_⟩
  refine ⟨.non,_,I.lset (its':=its++its2) hH e (by simp) (r.append r2) ?_,rfl,q⟩
  rw [List.length_append]
  omega
def rCat:R2:=fun x y H Q=>∃ l b xs zs,x=.ref l∧y=.ref b∧H l=some (.lst xs)∧H b=some (.lst zs)∧xs.length+zs.length≤sizeLine∧∀ p,H p=none→Q (.ref p) (upd H p (.lst (xs++zs)))
theorem op_cat:OpR X (binaryOp .Add) rCat:=by
  intro pins s σ H x y v u Q I rx ry h
  obtain ⟨l,b,xs,zs,rfl,rfl,hH,hB,hz,q⟩:=h
  cases rx
  cases ry
  obtain ⟨z,its,n,r,hl,e⟩:=I.lstM hH
  obtain ⟨z2,its2,n2,r2,hl2,e2⟩:=I.lstM hB
  refine PySem.P.add_list e e2 ?_ (by rw [List.size_toArray,List.size_toArray]; omega)
  have ea:its.toArray++its2.toArray=(its++its2).toArray:=by simp
  rw [ea]
  exact ⟨.ref _,_,I.lnew (t':=s.toks) (r.append r2) (by rw [List.length_append]; omega),rfl,q _ I.fresh⟩
end
section
variable {prog:Program} {w:World} {A:Around} {E:Value→Shared→Prop} {s:Shared}
end
section
variable {X:Cx}
end
end L2
namespace Att
open PySem PySem.W PySem.Calls PyProof.Rows
theorem ints_of_wellAll {P:Params} {h:Heap}:∀ (ns:List Int) (vs:List Value),WellAll P h vs (ns.map WData.int)→IntsAre vs ns:=by
  intro ns
  induction ns with
  | nil =>
    intro vs w
    rw [List.map_nil] at w
    cases w
    exact .nil
  | cons n ns ih =>
    intro vs w
    rw [List.map_cons] at w
    cases w with
    | cons a b =>
      cases a
      exact .cons _ _ (ih _ b)
theorem script_of {l:OpenLaw} {n:Nat} (hn:l.most=some n) {P:Params} {h:Heap} {args:List WData} {vals:List Value}
    (hpre:l.row.toRowW.claim.pre args=true) (hwl:WellAll P h vals args) :
    ∃ a vs ns,vals=[Value.ref a]∧args=[WData.list (ns.map WData.int)]∧h.get? a=some { cls:=.type "list",data:=.seq vs.toArray }∧IntsAre vs ns∧ns.length≤n:=by
  have hsh:WShape.hasAll [] args [.list .int]=true:=(pre_splitW hpre).1
  have hc:l.pre.holds [] { args:=args }=true:=(pre_splitW hpre).2
  obtain ⟨d,r,rfl,h1,h2⟩:=hasAllW_cons hsh
  obtain rfl:=hasAllW_nil h2
  obtain ⟨xs,rfl,h3⟩:=hasW_list h1
  obtain ⟨ns,rfl⟩:=items_int h3
  have hlen:ns.length≤n:=by
    unfold OpenLaw.pre at hc
    have h4:(WTm.not (.lt (.lit (.int (n:Int))) (.len (.arg 0)))).holds [] { args:=[.list (ns.map .int)] }=true:=by
      have h4:=(holds_andW hc).1
      rw [hn] at h4
      exact h4
    have h5:=condW_of h4 (w_not (w_lt w_lit (w_len_list (w_arg rfl))))
    rw [List.length_map] at h5
    refine Nat.le_of_not_lt fun q=>?_
    have q':(n:Int) < ((ns.length:Nat):Int):=by omega
    first
      | (rw [decide_eq_true q'] at h5; exact absurd h5 (by decide))
      | (simp at h5; omega)
  cases hwl with
  | cons w1 w2 =>
    cases w2
    cases w1 with
    | list ho hall=>exact ⟨_,_,ns,rfl,rfl,ho,ints_of_wellAll ns _ hall,hlen⟩
theorem post_true (l:OpenLaw) (args:List WData):l.row.toRowW.claim.post args (.bool true) args=true :=
  postW_of (r:=l.row.toRowW) (X:=(true == true))
    (show WShape.has [] (.bool true) .bool=true by first | rfl | decide | simp [WShape.has,WShape.arms,WShape.armsAll])
    (show (WTm.eq .res (.lit (.bool true))).value [] { args:=args,res:=some (.bool true),after:=args }=some (.bool (true == true)) from w_eq_bool (w_res rfl) w_lit) rfl
theorem attach_call {l:OpenLaw} {n:Nat} {q:Program} {loose:List Str} {XP:(Str→Option Value)→Heap→Prop} {YP:World→Heap→Prop} {d:DefRec}
    (hn:l.most=some n) (hdf:d.params.defaults=[])
    (call:∀ (w:World) (s₀ s₁:Shared) (mg mb:Str→Option Value) (fa:Addr) (o:Obj) (pm cd doc:Value) (a:Addr) (vs:List Value) (ns:List Int),
      Ground q loose [] XP w s₀ mg mb s₁.heap→YP w s₁.heap →
      s₁.heap.get? fa=some o→o.data=.func (docDef d.name d.params d.body d.scope pm cd doc)→s₁.heap.CodeRec cd d.name→mg d.name=some (.ref fa) →
      s₁.heap.get? a=some { cls:=.type "list",data:=.seq vs.toArray }→IntsAre vs ns→ns.length≤n→s₁.gens = #[] →
      codeAny (model l.prog w) callerA (.call (.ref fa) ⟨[.ref a],[]⟩) (fun r s'=>r=.ok (.ret (.bool true))∧OldK s₁.heap s'.heap∧s'.os=s₁.os∧AllBare s'.gens) s₁) :
    WalkO q loose XP YP l.row.toRowW d [] (fun f vs=>PySem.call f vs):=by
  intro w s₀ s₁ mg mb G Y fa o pm cd doc dV kV ho hd hcd hD hmg hg args vals as hpre hlay hrd hwl hlo
  obtain rfl:dV=.none:=Dflts.none hD hdf
  obtain rfl:kV=.none:=Dflts.noKw hD
  obtain ⟨a,vs,ns,rfl,rfl,hobj,hints,hlen⟩:=script_of hn hpre hwl
  refine enter_call (codeAny_mono (call w s₀ s₁ mg mb fa o pm cd doc a vs ns G Y ho (fd_plain hd) hcd hmg hobj hints hlen hg) fun r s' hq=>?_)
  obtain ⟨rfl,h2,h3,h4⟩:=hq
  exact ⟨.inl ⟨.bool true,.bool true,[],rfl,fun _=>rfl,.bool true,post_true l _,fun _=>⟨List.Pairwise.nil,fun _ hm=>(nomatch hm)⟩⟩,h2,h3,h4⟩
section
variable {prog:Program} {w:World} {A:Around} {E:Value→Shared→Prop} {s:Shared} {K:Frag}
def ledger (h:Heap) (L d:Addr):List (Addr × Obj):=(List.range h.objs.size).filterMap fun a=>if a=L∨a=d then none else (h.get? a).map fun o=>(a,o)
end
end Att
namespace L2
open PySem PySem.Spec PyProof.Rows
theorem vals_ints:∀ {vs:List Value} {ns:List Int},IntsAre vs ns→Vals (ns.map V.int) vs
  | _,_,.nil=>.nil
  | _,_,.cons n t h=>.cons ⟨t,rfl⟩ (vals_ints h)
def Only (H:Hp):Prop:=∀ b,H b=none∨∃ o xs,H b=some (.frz o (.lst xs))
theorem law_call {P:Program} {w:World} {K:PySem.W.Frag} {mg mb:Str→Option Value} {CX:CXT} {k:Nat} {fa a:Addr} {fd:FuncData} {x:Str} {sp:Sp} {s₁:Shared} {vs:List Value} {ns:List Int}
    (KX:K.In s₁.heap) (hns:s₁.heap.Ns mainGlobals mg) (hb:s₁.heap.Ns builtinsNs mb) (hbb:∀ x:Str,x ≠ "__name__"→mb x=bootBuiltins x) (hlim:s₁.heap.NoLimit) (hg:s₁.gens = #[])
    (ha:s₁.heap.get? a=some { cls:=.type "list",data:=.seq vs.toArray }) (hi:IntsAre vs ns) (hl:ns.length≤sizeLine) (hr:Room k callerA)
    (F:∀ base:Heap,K.In base→base.Ns mainGlobals mg→FnOk P w K mg base CX k fa fd [x] sp) (hbind:∀ (s:Shared) (u:Value),BindsTo s fd ⟨[u],[]⟩ [(x,u)])
    (hsp:∀ H:Hp,Only H→SqL K H a (ns.map V.int)→sp [.ref a] H (fun v _=>v=.bl true) fun _ _ _=>False)
    (hCX:∀ H e s',CX [] H s₁ (fun _ _ _=>False) e s'→False) :
    codeAny (model P w) callerA (.call (.ref fa) ⟨[.ref a],[]⟩) (fun r s'=>r=.ok (.ret (.bool true))∧OldK s₁.heap s'.heap∧s'.os=s₁.os∧AllBare s'.gens) s₁:=by
  have rv:=vals_ints hi
  have lenV:=hi.length
  have core:∀ H:Hp,Only H→SqL K H a (ns.map V.int)→HOk P w H s₁.heap→(∀ b,H b≠none→b=a)→(H a≠none→K.lookup a=none) →
      codeAny (model P w) callerA (.call (.ref fa) ⟨[.ref a],[]⟩) (fun r s'=>r=.ok (.ret (.bool true))∧OldK s₁.heap s'.heap∧s'.os=s₁.os∧AllBare s'.gens) s₁:=by
    intro H hO hS hok hA hK
    have base_of:∀ {b:Addr} {o:Obj},s₁.heap.get? b=some o→H b=none→(hidT s₁.heap H).get? b=some o:=fun e n=>hidT_get e n
    have noA:∀ {b:Addr} {o:Obj} {es:Array DictEntry} {ep:Nat},s₁.heap.get? b=some o→o.data=.dict es ep→H b=none:=fun {b o es ep} e d=>by
      cases q:H b with
      | none=>rfl
      | some u =>
        have e':b=a:=hA b (by rw [q]; simp)
        subst e'
        rw [ha] at e; cases e
        have d':Data.seq vs.toArray _=Data.dict es ep:=d
        cases d'
    have nsK:∀ {b:Addr} {m:Str→Option Value},s₁.heap.Ns b m→(hidT s₁.heap H).Ns b m:=fun {b m} ⟨o,es,ep,e,d,r⟩=>⟨o,es,ep,base_of e (noA e d),d,r⟩
    have hKb:K.In (hidT s₁.heap H):=fun b o e=>base_of (KX b o e) (by
      cases q:H b with
      | none=>rfl
      | some u =>
        have e':b=a:=hA b (by rw [q]; simp)
        subst e'
        rw [hK (by rw [q]; simp)] at e; cases e)
    have hM:Mod K mg (hidT s₁.heap H):=⟨hKb,nsK hns,⟨mb,nsK hb,hbb⟩,let ⟨mc,h1,h2⟩:=hlim; ⟨mc,nsK h1,h2⟩⟩
    have e0:Env0 P w K mg (hidT s₁.heap H) callerA [] s₁ H:=⟨rfl,hM,fun b o e=>of_hidT e,Nat.le_of_eq (hidT_size _ _),trivial,fun b hb=>absurd (show b∈([]:List Addr) from hb) (by simp),hok,.of_eq hg⟩
    refine codeAny_mono ((F _ hKb (nsK hns)).run callerA [] s₁ H ⟨[.ref a],[]⟩ [.ref a] [.ref a] _ _ hr e0 (hbind s₁ (.ref a)) (.cons rfl .nil) (hsp H hO hS)) fun r s' h=>?_
    cases r with
    | error e=>exact (hCX H e s' h).elim
    | ok fl =>
      cases fl with
      | next=>exact False.elim h
      | brk=>exact False.elim h
      | cont=>exact False.elim h
      | ret u =>
        obtain ⟨v,H',os,bare,un,hok',r',q⟩:=h
        have q':v=.bl true:=q
        subst q'
        obtain rfl:u=Value.bool true:=r'
        refine ⟨rfl,OldK.of_keep fun b o e=>?_,os,bare⟩
        cases q:H b with
        | none=>exact un.keep b o e q (by intro z; exact absurd (show b∈([]:List Addr) from z) (by simp)) (by simp)
        | some u =>
          rcases hO b with z | ⟨ob,xs,z⟩
          · rw [q] at z; cases z
          · have z2:=un.frzs b ob _ z
            obtain ⟨e1,_⟩:=hok b _ z
            obtain ⟨e2,_⟩:=hok' b _ z2
            rw [e] at e1; cases e1
            exact e2
  cases hk:K.lookup a with
  | some o =>
    have e:=KX a o hk
    rw [ha] at e
    cases e
    refine core (fun _=>none) (fun _=>.inl rfl) (.inr ⟨_,vs.toArray,_,hk,rfl,rfl,rfl,by rw [List.size_toArray,lenV]; exact hl,by simpa using rv⟩) (fun b u z=>by have z':(none:Option HO)=some u:=z; cases z') (fun b z=>absurd rfl z) fun z=>absurd rfl z
  | none =>
    refine core (fun b=>if b=a then some (.frz { cls:=.type "list",data:=.seq vs.toArray } (.lst (ns.map V.int))) else none) (fun b=>?_) (.inl (.inr ⟨{ cls:=.type "list",data:=.seq vs.toArray },if_pos rfl⟩)) (fun b u z=>?_) (fun b z=>?_) fun _=>hk
    · by_cases hb:b=a
      · exact .inr ⟨_,_,if_pos hb⟩
      · exact .inl (if_neg hb)
    · by_cases hb:b=a
      · have z':=(if_pos hb).symm.trans z
        cases z'
        subst hb
        exact ⟨ha,by rw [List.length_map]; exact hl,vs,_,rv,ha⟩
      · have z':=(if_neg hb).symm.trans z
        cases z'
    · by_cases hb:b=a
      · exact hb
      · exact absurd (if_neg hb) z
end L2
namespace L2
open PySem PySem.Spec PyProof.Rows
abbrev KOf {K:PySem.W.Frag} {h:Heap} (_:K.In h):PySem.W.Frag:=K
theorem walk_of {l:PySem.W.OpenLaw} {n k:Nat} {q:Program} {loose:List Str} {XP:(Str→Option Value)→Heap→Prop} {YP:World→Heap→Prop} {d:DefRec} {K:Params→PySem.W.Frag} {CX:World→CXT} {sp:World→Sp} {x:Str}
    (hn:l.most=some n) (hn2:n≤sizeLine) (hdf:d.params.defaults=[]) (hr:Room k callerA)
    (hY:∀ (w:World) (h:Heap),YP w h→(K w.params).In h)
    (F:∀ (w:World) (mg:Str→Option Value) (fa:Addr) (h:Heap),(K w.params).In h→h.Ns mainGlobals mg→mg d.name=some (.ref fa) →
      ∃ fd:FuncData,(∀ (s:Shared) (u:Value),BindsTo s fd ⟨[u],[]⟩ [(x,u)]) ∧
        ∀ base:Heap,(K w.params).In base→base.Ns mainGlobals mg→FnOk l.prog w (K w.params) mg base (CX w) k fa fd [x] (sp w))
    (hsp:∀ (w:World) (H:Hp) (a:Addr) (ns:List Int),ns.length≤n→Only H→SqL (K w.params) H a (ns.map V.int)→sp w [.ref a] H (fun v _=>v=.bl true) fun _ _ _=>False)
    (hCX:∀ (w:World) (H:Hp) (s:Shared) (e:Value) (s':Shared),CX w [] H s (fun _ _ _=>False) e s'→False) :
    PySem.W.WalkO q loose XP YP l.row.toRowW d [] (fun f vs=>PySem.call f vs):=by
  refine Att.attach_call hn hdf fun w s₀ s₁ mg mb fa o pm cd doc a vs ns G Y ho hd hcd hmg hobj hints hlen hg=>?_
  have KX:=hY w _ Y
  obtain ⟨fd,hb,hF⟩:=F w mg fa _ KX G.T.g hmg
  exact law_call KX G.T.g G.T.b G.T.builtins G.T.nolimit hg hobj hints (Nat.le_trans hlen hn2) hr hF hb (fun H hO hS=>hsp w H a ns hlen hO hS) fun H e s'=>hCX w H s₁ e s'
end L2
namespace L2
open PySem PySem.Spec PyProof.Rows
def defArgs (s:Stmt):Arguments:=match s with
  | .FunctionDef _ a _ _ _ _ _ _ _ _=>a
  | _=>{ posonlyargs:=[],args:=[],vararg:=none,kwonlyargs:=[],kw_defaults:=[],kwarg:=none,defaults:=[] }
def defBody (s:Stmt):List Stmt:=match s with
  | .FunctionDef _ _ b _ _ _ _ _ _ _=>b
  | _=>[]
def defScope (s:Stmt):Scope:=match s with
  | .FunctionDef _ _ _ _ _ _ sc _ _ _=>sc
  | _=>{ kind:=.function,names:=[],isGenerator:=false,isCoroutine:=false }
abbrev CX0:CXT:=fun _ _ _ _ _ _=>False
abbrev E0:XK:=fun _ _ _=>False
theorem pass0 {X:Cx}:Passes CX0 X E0:=fun _ _ _ _ _ _ _ h=>h.elim
structure Fun (K:PySem.W.Frag) (x qual:Str) (st:Stmt) (f:Addr) (fd:FuncData):Prop where
  ex:∃ (oc:Value) (od:Option Addr) (kV doc pm:Value) (an:Option Addr) (cdv ct:Value) (osl:Array (Option Value)),
    fd=PySem.W.fnOf x qual (defArgs st) (defBody st) (defScope st) .none kV doc pm an cdv ct∧K.lookup f=some ⟨oc,od,.func fd,osl⟩∧PySem.W.codeIn K cdv qual=true
  kp:PySem.W.keepIn K (.ref f)=true
section
variable {P:Program} {w:World} {K:PySem.W.Frag} {mg:Str→Option Value} {base:Heap}
theorem Fun.ok {x qual:Str} {st:Stmt} {f:Addr} {fd:FuncData} {N ps:List Str} {k:Nat} {sp:Sp} (F:Fun K x qual st f fd) (S:FnScope N ps (defScope st)) (len:∀ vs H Q E,sp vs H Q E→vs.length=ps.length)
    (hbody:∀ (cdv:Value) (A:Around) (outer:List Env) (s:Shared) (H:Hp) (vs:List V) (Q:VK) (E:XK),Room k (A.deeper (envOfC qual (defScope st) s.heap.objs.size f cdv))→sp vs H Q E →
      ∃ t,PSs (cxOf CX0 P w K mg base N qual (defScope st) f cdv A outer s H E).nox (defBody st) t∧t { nx:=fun _ H'=>Q .non H',rt:=Q } (start N vs) H):FnOk P w K mg base CX0 (k+1) f fd ps sp:=by
  obtain ⟨oc,od,kV,doc,pm,an,cdv,ct,osl,rfl,lk,hcd⟩:=F.ex
  refine fn_of lk hcd S len fun A outer s H vs Q E hr hsp=>?_
  obtain ⟨t,h,q⟩:=hbody cdv A outer s H vs Q E hr hsp
  exact ⟨t,h.nox,q⟩
theorem Fun.binds {x qual:Str} {st:Stmt} {f:Addr} {fd:FuncData} {ps:List Str} (F:Fun K x qual st f fd)
    (h:∀ (kV doc pm:Value) (an:Option Addr) (cdv ct:Value) (us:List Value),us.length=ps.length→bindArgs (PySem.W.fnOf x qual (defArgs st) (defBody st) (defScope st) .none kV doc pm an cdv ct) ⟨us,[]⟩=pure (ps.zip us)):Binds K fd ps []:=by
  obtain ⟨oc,od,kV,doc,pm,an,cdv,ct,osl,rfl,lk,hcd⟩:=F.ex
  exact .all (h kV doc pm an cdv ct)
theorem fun_mk {x qual:Str} {st:Stmt} {f:Addr} {oc:Value} {od an:Option Addr} {osl:Array (Option Value)} {kV doc pm cdv ct:Value} (l:K.lookup f=some ⟨oc,od,.func (PySem.W.fnOf x qual (defArgs st) (defBody st) (defScope st) .none kV doc pm an cdv ct),osl⟩)
    (c:PySem.W.codeIn K cdv qual=true) (k:PySem.W.keepIn K (.ref f)=true):Fun K x qual st f (PySem.W.fnOf x qual (defArgs st) (defBody st) (defScope st) .none kV doc pm an cdv ct):=⟨⟨oc,od,kV,doc,pm,an,cdv,ct,osl,rfl,l,c⟩,k⟩
end
theorem hu_of {A:Around} {k:Nat} (hr:Room k A):A.units+1 < cLine:=Nat.lt_of_le_of_lt (Nat.add_le_add_left (by decide:1≤64) _) hr.units
theorem small1000 {n:Nat} (h:n≤1000):n < sizeLine:=Nat.lt_of_le_of_lt h (by decide)
section
variable {X:Cx}
theorem pv (i:Nat) {x:Str} {pos:Pos} (hN:X.N[i]?=some x:=by rfl) (hv:Vis X.env.scope x:=by first | exact Or.inl rfl | exact Or.inr (Or.inl rfl) | exact Or.inr (Or.inr rfl)) (hd:(x == ("__debug__" : Str))=false:=by decide)
    (hcd:(x == ("__classdict__" : Str))=false:=by decide):PE X (.Name x pos) (tVar i):=pe_var hN hv hd hcd
end
theorem iteF {A B:Prop} (h:B):if false=true then A else B:=by
  rw [if_neg Bool.false_ne_true]
  exact h
theorem iteT {A B:Prop} (h:A):if true=true then A else B:=by
  rw [if_pos rfl]
  exact h
theorem ite2 {c A B:Prop} [Decidable c] (h1:c→A) (h2:¬ c→B):if c then A else B:=by
  by_cases h:c
  · rw [if_pos h]
    exact h1 h
  · rw [if_neg h]
    exact h2 h
def Same (H H':Hp):Prop:=∀ b o,H b=some o→H' b=some o
theorem Same.refl (H:Hp):Same H H:=fun _ _ h=>h
theorem Same.trans {H H1 H2:Hp} (a:Same H H1) (b:Same H1 H2):Same H H2:=fun c o h=>b c o (a c o h)
theorem Same.free {H H':Hp} (e:Same H H') {l:Addr} (h:H' l=Option.none):H l=Option.none:=by
  cases q:H l with
  | none=>rfl
  | some o =>
    rw [e l o q] at h
    cases h
theorem Same.seq {K:PySem.W.Frag} {H H':Hp} {a:Addr} {xs:List V} (e:Same H H') (h:SqL K H a xs):SqL K H' a xs:=by
  rcases h with (h | ⟨o,h⟩) | h
  · exact .inl (.inl (e _ _ h))
  · exact .inl (.inr ⟨o,e _ _ h⟩)
  · exact .inr h
end L2
set_option Elab.async false
set_option linter.all false
set_option maxRecDepth 100000
set_option maxHeartbeats 4000000
namespace L2
open PySem PySem.Spec PyProof.Rows
theorem closure_walk {env:Env}:∀ (names:List (Str × NameKind)) (acc:List (Str × Addr)),(∀ y∈names,y.2=.free→∃ c,env.cells.lookup y.1=some c) →
    ∃ cl,(forIn names acc (fun (x:Str × NameKind) (cs:List (Str × Addr))=>(if x.2 == .free then (do let c ← cellOf env x.1; pure (ForInStep.yield ((x.1,c) :: cs))) else pure (ForInStep.yield cs):Sem (ForInStep (List (Str × Addr))))))=pure cl ∧
      (∀ y∈names,y.2=.free→∃ c,cl.lookup y.1=some c)∧(∀ y c,acc.lookup y=some c→∃ d,cl.lookup y=some d)∧(∀ y c,cl.lookup y=some c→env.cells.lookup y=some c∨acc.lookup y=some c)
  | [],acc,_=>⟨acc,rfl,(fun _ h=>nomatch h),(fun y c h=>⟨c,h⟩),(fun y c h=>.inr h)⟩
  | (n,k) :: r,acc,h=>by
    rw [List.forIn_cons]
    by_cases hk:k=.free
    · subst hk
      obtain ⟨c,hc⟩:=h (n,.free) List.mem_cons_self rfl
      obtain ⟨cl,e,h1,h2,h3⟩:=closure_walk r ((n,c) :: acc) fun y hy=>h y (List.mem_cons_of_mem _ hy)
      refine ⟨cl,?_,?_,?_,?_⟩
      · have e0:cellOf env n=pure c:=by unfold cellOf; rw [hc]
        simp only [beq_self_eq_true,if_true,e0,pure_bind]
        exact e
      · intro y hy hf
        rcases List.mem_cons.mp hy with rfl | hy
        · exact h2 n c (by simp)
        · exact h1 y hy hf
      · intro y d hd
        by_cases e1:y=n
        · subst e1; exact h2 y c (by simp)
        · exact h2 y d (by rw [List.lookup_cons,beq_eq_false_iff_ne.mpr e1]; exact hd)
      · intro y d hd
        rcases h3 y d hd with q | q
        · exact .inl q
        · by_cases e1:y=n
          · subst e1
            simp at q
            exact .inl (by rw [← q]; exact hc)
          · rw [List.lookup_cons,beq_eq_false_iff_ne.mpr e1] at q
            exact .inr q
    · have hb:(k == NameKind.free)=false:=by simpa using hk
      obtain ⟨cl,e,h1,h2,h3⟩:=closure_walk r acc fun y hy=>h y (List.mem_cons_of_mem _ hy)
      refine ⟨cl,?_,?_,h2,h3⟩
      · simp only [hb,Bool.false_eq_true,if_false,pure_bind]
        exact e
      · intro y hy hf
        rcases List.mem_cons.mp hy with rfl | hy
        · exact absurd hf hk
        · exact h1 y hy hf
theorem closure_of {scope:Scope} {env:Env} (h:∀ y∈scope.names,y.2=.free→∃ c,env.cells.lookup y.1=some c) :
    ∃ cl,closureFor scope env=pure cl∧(∀ y∈scope.names,y.2=.free→∃ c,cl.lookup y.1=some c)∧∀ y c,cl.lookup y=some c→env.cells.lookup y=some c:=by
  obtain ⟨cl,e,h1,_,h3⟩:=closure_walk scope.names [] h
  refine ⟨cl,?_,h1,fun y c q=>(h3 y c q).elim id fun z=>by simp at z⟩
  rw [← e]
  unfold closureFor
  simp only [bind_pure]
theorem relabel_free {env:Env}:∀ {names:List (Str × NameKind)} {x:Str},names.lookup x=some .free →
    (names.map fun (n,k)=>if (k == NameKind.free && env.scope.kind == .function && env.kindOf n == some .cell) then (n,NameKind.cell) else (n,k)).lookup x=some .cell ∨
    (names.map fun (n,k)=>if (k == NameKind.free && env.scope.kind == .function && env.kindOf n == some .cell) then (n,NameKind.cell) else (n,k)).lookup x=some .free
  | [],_,h=>by simp at h
  | (n,k) :: r,x,h=>by
    have ih:=@relabel_free env r x
    rw [List.map_cons]
    cases hx:x == n with
    | true =>
      simp only [List.lookup_cons,hx] at h
      cases h
      by_cases hc:(NameKind.free == NameKind.free && env.scope.kind == .function && env.kindOf n == some .cell)=true
      · left; simp only [if_pos hc,List.lookup_cons,hx]
      · right; simp only [if_neg hc,List.lookup_cons,hx]
    | false =>
      simp only [List.lookup_cons,hx] at h
      by_cases hc:(k == NameKind.free && env.scope.kind == .function && env.kindOf n == some .cell)=true
      · simp only [if_pos hc,List.lookup_cons,hx]; exact ih h
      · simp only [if_neg hc,List.lookup_cons,hx]; exact ih h
theorem relabel_inv {env:Env}:∀ {names:List (Str × NameKind)} {x:Str} {k':NameKind},
    (names.map fun (n,k)=>if (k == NameKind.free && env.scope.kind == .function && env.kindOf n == some .cell) then (n,NameKind.cell) else (n,k)).lookup x=some k'→(k'=.cell∨k'=.free) →
    ∃ k,(x,k)∈names∧(k=.cell∨k=.free)
  | [],_,_,h,_=>by simp at h
  | (n,k) :: r,x,k',h,hk=>by
    have ih:=@relabel_inv env r x k'
    rw [List.map_cons] at h
    cases hx:x == n with
    | true =>
      have e:x=n:=by simpa using hx
      subst e
      by_cases hc:(k == NameKind.free && env.scope.kind == .function && env.kindOf x == some .cell)=true
      · refine ⟨k,List.mem_cons_self,.inr ?_⟩
        simp only [Bool.and_eq_true,beq_iff_eq] at hc
        exact hc.1.1
      · simp only [if_neg hc,List.lookup_cons,beq_self_eq_true] at h
        cases h
        exact ⟨k,List.mem_cons_self,hk⟩
    | false =>
      have h':(r.map fun (n,k)=>if (k == NameKind.free && env.scope.kind == .function && env.kindOf n == some .cell) then (n,NameKind.cell) else (n,k)).lookup x=some k':=by
        by_cases hc:(k == NameKind.free && env.scope.kind == .function && env.kindOf n == some .cell)=true
        · simpa only [if_pos hc,List.lookup_cons,hx] using h
        · simpa only [if_neg hc,List.lookup_cons,hx] using h
      obtain ⟨q,m,z⟩:=ih h' hk
      exact ⟨q,List.mem_cons_of_mem _ m,z⟩
abbrev blockCx (X:Cx) (scope:Scope) (N:List Str) (cl:List (Str × Addr)) (C:Addr) (s:Shared) (H:Hp) (ex:List Addr) (pn:List (Addr × Obj)) (E:Value→Shared→Prop):Cx :=
  { X with N:=N,s₀:=s,H₀:=H,env:=compEnvC scope cl C X.env,outer:=X.stack,stack:=X.stack,ex:=ex,fn:=fun _=>false,pn:=pn,xe:=E }
theorem block_ok {X:Cx} {pins:List (Addr × Obj)} {σ σ':St} {H:Hp} {s:Shared} {scope:Scope} {N:List Str} {cl:List (Str × Addr)} {fp:List Addr} {E:Value→Shared→Prop} {h1:Heap} {t:Nat}
    (I:Inv X pins σ H s) (hkind:scope.kind=.function) (hcell:∀ y∈scope.names,y.2≠.cell) (hfree:∀ y∈scope.names,y.2=.free→X.env.kindOf y.1=some .cell∨X.env.kindOf y.1=some .free)
    (hcl1:∀ y∈scope.names,y.2=.free→∃ c,cl.lookup y.1=some c) (hcl2:∀ y c,cl.lookup y=some c→X.env.cells.lookup y=some c)
    (hf:∀ b∈fp,FpOk X pins H b) (hfo:∀ b∈fp,∃ o,s.heap.get? b=some o)
    (hl:σ'.length=N.length) (hσ:∀ (i:Nat) (x:Str) (v:V),N[i]?=some x→σ'[i]?=some (some v)→scope.names.lookup x=some .free∧∃ j:Nat,X.N[j]?=some x∧σ[j]?=some (some v))
    (hns:h1.Ns s.heap.objs.size (fun _=>none)) (hold:∀ b o,s.heap.get? b=some o→h1.get? b=some o) :
    Inv (blockCx X scope N cl s.heap.objs.size s H fp (X.pn++pins) E) [] σ' H { s with heap:=h1,toks:=t }:=by
  have szc:∀ b o,s.heap.get? b=some o→b≠s.heap.objs.size:=fun b o e=>Nat.ne_of_lt (Heap.lt_size e)
  have okY:(blockCx X scope N cl s.heap.objs.size s H fp (X.pn++pins) E).Ok:=by
    refine ⟨I.ok.mod,hkind,I.ok.glob,I.ok.blt,Nat.le_refl _,fun x y c e1 e2=>I.ok.inj x y c (hcl2 _ _ e1) (hcl2 _ _ e2),fun x hx=>?_,fun x c hfn _=>?_,I.ok.hd,I.ok.frames,.inl rfl,fun b hb=>⟨?_,fun x c e z=>?_⟩,I.bs,Nat.le_trans I.ok.bsz I.sz,fun b o e hb=>?_,fun b hb z=>?_,I.stack,I.stkFree⟩
    · have hx':(relabel scope X.env).names.lookup x=some .cell∨(relabel scope X.env).names.lookup x=some .free:=hx
      have q:∃ k,(x,k)∈scope.names∧(k=.cell∨k=.free):=by
        rcases hx' with z | z
        · exact relabel_inv z (.inl rfl)
        · exact relabel_inv z (.inr rfl)
      obtain ⟨k,hm,hk⟩:=q
      rcases hk with rfl | rfl
      · exact absurd rfl (hcell _ hm)
      · exact hcl1 _ hm rfl
    · exact absurd (show false=true from hfn) (by decide)
    · obtain ⟨o,e⟩:=hfo b hb
      exact szc b o e
    · exact (hf b hb).2.2.2.2.1 x c (hcl2 _ _ e) z
    · rcases (hf b hb).2.2.2.1 with z | z
      · exact I.ok.noex b o e z
      · exact absurd (Nat.lt_of_lt_of_le (Heap.lt_size e) (Nat.le_trans I.ok.bsz z)) (Nat.lt_irrefl _)
    · rcases List.mem_cons.mp (I.stkSub b z) with q | q
      · exact (hf b hb).2.1 q
      · exact (hf b hb).2.2.1 q
  obtain ⟨m,hn,hlook⟩:=id I.loc
  refine ⟨okY,rfl,I.bare,Un.kept hold,⟨_,hns,fun i x v e1 e2 _=>?_⟩,fun x c e=>?_,I.hok.fresh (Nat.le_refl _),fun x c e=>I.freeC x c (hcl2 _ _ e),fun p hp=>?_,I.hok.kept hold,hl⟩
  · obtain ⟨hfr,j,ej,es⟩:=hσ i x v e1 e2
    have hm:(x,NameKind.free)∈scope.names:=PySem.mem_of_lookup hfr
    have hk:=hfree _ hm rfl
    have hv:Vis X.env.scope x:=by
      rcases hk with z | z
      · exact .inr (.inl z)
      · exact .inr (.inr z)
    obtain ⟨u,r,l⟩:=hlook j x v ej es hv
    refine ⟨u,r,.inr ⟨?_,?_⟩⟩
    · exact relabel_free hfr
    · rcases l with ⟨k,_⟩ | ⟨_,c,ec,hc⟩
      · rcases hk with z | z <;> (rw [k] at z; cases z)
      · obtain ⟨d,hd⟩:=hcl1 _ hm rfl
        have e:=hcl2 _ _ hd
        have ec':X.env.cells.lookup x=some d:=e
        rw [ec] at ec'; cases ec'
        obtain ⟨o,ho,hod⟩:=hc
        exact ⟨c,hd,o,hold c o ho,hod⟩
  · obtain ⟨v,o,ho,hod⟩:=I.cell x c (hcl2 _ _ e)
    exact ⟨v,o,hold c o ho,hod⟩
  · have hp':p∈X.pn++pins:=by simpa using hp
    obtain ⟨a1,a2,a3,a4,a5⟩:=I.pin p hp'
    refine ⟨hold _ _ a1,a2,szc _ _ a1,fun z=>?_,a5⟩
    rcases List.mem_cons.mp (I.stkSub _ z) with q | q
    · exact a3 q
    · exact a4 q
def PIfs (X:Cx) (ifs:List Expr) (t:TT):Prop :=
  ∀ (pins:List (Addr × Obj)) (s:Shared) (σ:St) (H:Hp) (Q:Bool→Hp→Prop),Inv X pins σ H s→t σ H Q →
    wpAny (model X.prog X.w) X.A (forIn ifs true fun c r=>if r=true then do let ok ← isTrue c X.env (eval c X.env); pure (ForInStep.yield ok) else pure (ForInStep.yield r)) (TP X pins σ Q) X.xe s
def tYes:TT:=fun _ H Q=>Q true H
theorem pifs_nil {X:Cx}:PIfs X [] tYes:=fun _ _ _ H _ I h=>wpAny_tests_nil ⟨H,I,h⟩
theorem pifs_one {X:Cx} {c:Expr} {t:TT} (h:PT X c t):PIfs X [c] t:=fun pins s σ H Q I hw=>wpAny_tests_one (h pins s σ H Q I hw)
section
variable {prog:Program} {w:World} {A:Around} {R:Result→Shared→Prop} {s:Shared}
theorem codeAny_compLoop_any {elt target iter:Expr} {ifs:List Expr} {scope:Scope} {pos:Pos} {it acc:Value} {env:Env} (I:Nat→Shared→Prop)
    (turn:∀ n s,I n s→wpAny (model prog w) A (pyNext it) (fun r s₁=>match r with
      | none=>R (.ok .next) s₁
      | some v=>wpAny (model prog w) A (letOwnedTupleGo target it v) (fun _ s₁'=>wpAny (model prog w) A (assign target env v) (fun _ s₂ =>
          wpAny (model prog w) A (forIn ifs true fun c r=>if r=true then do let ok ← isTrue c env (eval c env); pure (ForInStep.yield ok) else pure (ForInStep.yield r)) (fun ok s₃ =>
            if ok=true then wpAny (model prog w) A (eval elt env) (fun x s₄ =>
              wpAny (model prog w) A (call (.builtin "list.append") [acc,x]) (fun _ s₅=>∃ m,m < n∧I m s₅) (notedBy (model prog w) A env fun e s'=>R (.error e) s') s₄) (notedBy (model prog w) A env fun e s'=>R (.error e) s') s₃
            else ∃ m,m < n∧I m s₃) (notedBy (model prog w) A env fun e s'=>R (.error e) s') s₂) (notedBy (model prog w) A env fun e s'=>R (.error e) s') s₁') (notedBy (model prog w) A env fun e s'=>R (.error e) s') s₁)
        (notedBy (model prog w) A env fun e s'=>R (.error e) s') s)
    (n:Nat) (h:I n s) :
    codeAny (model prog w) A (.compLoop (.ListComp elt [⟨target,iter,ifs,0⟩] scope pos) 0 it acc env) R s:=by
  refine codeAny_loop rfl I (fun n s hI=>?_) n h
  show wpAny _ A ((compTurn (.ListComp elt [⟨target,iter,ifs,0⟩] scope pos) 0 it acc env).onRaise (fun x=>do noteFrame x env; theTreesLotGoes x)) _ _ s
  refine wpAny_noted ?_
  rw [compTurn_list]
  refine wpAny_bind (wpAny_standAt (wpAny_bind (wpAny_mono (turn n s hI) (fun r s₁ h₁=>?_) fun _ _ h'=>h')))
  cases r with
  | none=>exact wpAny_pure h₁
  | some v =>
    refine wpAny_bind (wpAny_mono h₁ (fun _ s₁' h₁'=>?_) fun _ _ h'=>h')
    refine wpAny_bind (wpAny_mono h₁' (fun _ s₂ h₂=>wpAny_bind (wpAny_mono h₂ (fun ok s₃ h₃=>?_) fun _ _ h'=>h')) fun _ _ h'=>h')
    cases ok with
    | false=>exact wpAny_pure ⟨rfl,h₃⟩
    | true =>
      exact wpAny_bind (wpAny_bind (wpAny_mono h₃ (fun x s₄ h₄=>wpAny_bind (wpAny_mono h₄ (fun _ s₅ h₅=>wpAny_pure (wpAny_pure ⟨rfl,h₅⟩)) fun _ _ h'=>h')) fun _ _ h'=>h'))
end
def tComp (wi:TI) (g:TG) (tc:TT) (te:TE) (lift:St→St):TE:=fun σ H Q=>wi σ H fun J H1=>∀ l,H1 l=none→∃ W:Nat→Nat→St→Hp→Prop,(∃ m,W 0 m (lift σ) (upd H1 l (.lst [])))∧∀ i m σ H,W i m σ H →
  (J.stop i H∧Q (.ref l) H)∨(J.go i H∧∃ N:St→Hp→Prop,(∀ σ' H',N σ' H'→∃ m',m' < m∧W (i+1) m' σ' H') ∧
    ∀ x H',J.yld i H x H'→g x σ H' fun σ2 H2=>tc σ2 H2 fun b H3=>if b=true then te σ2 H3 fun v H4=>∃ ys,H4 l=some (.lst ys)∧ys.length < sizeLine∧N σ2 (upd H4 l (.lst (ys++[v]))) else N σ2 H3)
theorem pe_comp {X:Cx} {elt tg iter:Expr} {ifs:List Expr} {scope:Scope} {pos:Pos} {wi:TI} {g:TG} {tc:TT} {te:TE} (N:List Str) (lift:St→St) (hc:X.calm=true) (hi:PI X tg iter wi)
    (hkind:scope.kind=.function) (hcell:∀ y∈scope.names,y.2≠.cell) (hfree:∀ y∈scope.names,y.2=.free→X.env.kindOf y.1=some .cell∨X.env.kindOf y.1=some .free)
    (hnames:∀ y∈scope.names,y.2=.local→scope.names.lookup y.1=some .local)
    (hlen:∀ σ:St,σ.length=X.N.length→(lift σ).length=N.length)
    (hσ:∀ (σ:St) (i:Nat) (x:Str) (v:V),σ.length=X.N.length→N[i]?=some x→(lift σ)[i]?=some (some v)→scope.names.lookup x=some .free∧∃ j:Nat,X.N[j]?=some x∧σ[j]?=some (some v))
    (hg:∀ cl C s H ex pn E,PG (blockCx X scope N cl C s H ex pn E) tg g) (ht:∀ cl C s H ex pn E,PIfs (blockCx X scope N cl C s H ex pn E) ifs tc) (he:∀ cl C s H ex pn E,PE (blockCx X scope N cl C s H ex pn E) elt te)
    (hs:∀ x,foldedSetIterable iter X.env x=pure x:=by intro _; rfl) :
    PE X (.ListComp elt [⟨tg,iter,ifs,0⟩] scope pos) (tComp wi g tc te lift):=by
  intro pins s σ H Q I h
  rw [eval_ListComp]
  obtain ⟨cl,hclos,hcl1,hcl2⟩:=closure_of (scope:=scope) (env:=X.env) fun y hy hf=>I.ok.has y.1 (hfree y hy hf)
  refine wpAny_comprehension_free (use:=none) rfl hs hclos hkind hnames (thn (hi pins s σ H _ I h) fun v s1 h1=>thn h1 fun itv s2 h2=>?_)
  obtain ⟨it,fp,tn,J,H2,e,I2,T,st2,f2,q⟩:=h2
  subst e
  refine wpAny_newObj_type (wpAny_newFunctionEnv hcell (by intro y hy; simp at hy) (fun h₁ hns₁ hsb₁=>?_) hkind)
  have I3:Inv X pins σ (upd H2 s2.heap.objs.size (.lst [])) { s2 with heap:=s2.heap.push { cls:=.type "list",data:=.seq ([]:List Value).toArray } }:=I2.lnew (its:=[]) (t':=s2.toks) .nil (Nat.zero_le _)
  have fr:H2 s2.heap.objs.size=none:=I2.fresh
  have hold:∀ b o,(s2.heap.push { cls:=.type "list",data:=.seq ([]:List Value).toArray }).get? b=some o→h₁.get? b=some o:=fun b o e=>hsb₁.extBut b o (Nat.ne_of_lt (Heap.lt_size e)) (Heap.get?_push_of_some _ e)
  have f3:∀ b∈fp,FpOk X pins (upd H2 s2.heap.objs.size (.lst [])) b:=fun b hb=>by
    obtain ⟨o,eo,_⟩:=T.obj 0 _ st2 b hb
    exact ⟨by rw [upd_ne (Nat.ne_of_lt (Heap.lt_size eo))]; exact (f2 b hb).1,(f2 b hb).2⟩
  have fo:∀ b∈fp,∃ o,(s2.heap.push { cls:=.type "list",data:=.seq ([]:List Value).toArray }).get? b=some o:=fun b hb=>by
    obtain ⟨o,eo,_⟩:=T.obj 0 _ st2 b hb
    exact ⟨o,Heap.get?_push_of_some _ eo⟩
  generalize hP:s2.heap.push { cls:=.type "list",data:=.seq ([]:List Value).toArray }=P at *
  obtain ⟨W,⟨m0,w0⟩,turn⟩:=q s2.heap.objs.size fr
  generalize hL:s2.heap.objs.size=L at *
  let R:Result→Shared→Prop:=compPost (model X.prog X.w) X.A X.xe none (EP X pins σ Q) (.ref L) P.objs.size
  let Y:Cx:=blockCx X scope N cl P.objs.size { s2 with heap:=P } (upd H2 L (.lst [])) fp (X.pn++pins) (notedBy (model X.prog X.w) X.A (compEnvC scope cl P.objs.size X.env) fun e s'=>R (.error e) s')
  have IY:Inv Y [] (lift σ) (upd H2 L (.lst [])) { s2 with heap:=h₁,toks:=s2.toks+([]:List (Str × Value)).length } :=
    block_ok (s:={ s2 with heap:=P }) I3 hkind hcell hfree hcl1 hcl2 f3 fo (hlen σ I.len) (fun i x v=>hσ σ i x v I.len) hns₁ hold
  have stY:tn 0 h₁:=T.keep _ _ _ st2 fun b hb o e=>hold b o (by rw [← hP]; exact Heap.get?_push_of_some _ e)
  have fC:∀ b∈fp,b≠P.objs.size∧(b∈fp):=fun b hb=>by
    obtain ⟨o,eo⟩:=fo b hb
    exact ⟨Nat.ne_of_lt (Heap.lt_size eo),hb⟩
  have fpY:∀ {H':Hp},(∀ b∈fp,H' b=none)→∀ b∈fp,FpOk Y [] H' b:=fun {H'} hn b hb=>by
    refine ⟨hn b hb,(fC b hb).1,fun z=>?_,.inl hb,fun x c ex=>(f3 b hb).2.2.2.2.1 x c (hcl2 _ _ ex),fun p hp=>?_⟩
    · rcases List.mem_cons.mp (I3.stkSub b z) with y | y
      · exact (f3 b hb).2.1 y
      · exact (f3 b hb).2.2.1 y
    · have hp':p∈(X.pn++pins)++[]:=hp
      rw [List.append_nil] at hp'
      exact (f3 b hb).2.2.2.2.2 p hp'
  have loop:∀ s4:Shared,s4={ s2 with heap:=h₁,toks:=s2.toks+([]:List (Str × Value)).length } →
      codeAny (model X.prog X.w) X.A (.compLoop (.ListComp elt [⟨tg,iter,ifs,0⟩] scope pos) 0 (.ref it) (.ref L) (compEnvC scope cl P.objs.size X.env)) R s4:=by
    rintro s4 rfl
    refine codeAny_compLoop_any (fun n s'=>∃ i σ' H',Inv Y [] σ' H' s'∧tn i s'.heap∧(∀ b∈fp,H' b=none)∧W i n σ' H') ?_ m0 ⟨0,_,_,IY,stY,fun b hb=>(f3 b hb).1,w0⟩
    rintro n s5 ⟨i,σ5,H5,I5,st5,fr5,w5⟩
    rcases turn i n σ5 H5 w5 with ⟨stop,qn⟩ | ⟨go,Nx,hNx,step⟩
    · refine thn (T.done Y rfl rfl rfl hc i [] s5 σ5 H5 Y.xe I5 (fpY fr5) st5 stop) fun r s6 ⟨hr,I6⟩=>?_
      subst hr
      show R (.ok .next) s6
      obtain ⟨m6,hn6,_⟩:=id I6.loc
      have IX:Inv X pins σ H5 s6:=I3.call' (s':=s6) (ch:=fp) I6.os I6.base I6.hok I6.bare fun b hb=>⟨(f3 b hb).2.2.2.1,(f3 b hb).2.1,(f3 b hb).2.2.2.2.1,(f3 b hb).2.2.2.2.2⟩
      refine ⟨m6,hn6,fun h' sb=>⟨.ref L,H5,IX.turned (t':=s6.toks) (it:=P.objs.size) (fun b o hb e=>(sb.2 b hb).trans e) I6.free (Nat.ne_of_gt I3.lt) (.inr I3.sz) (fun x c ec z=>?_) fun p hp z=>?_,rfl,qn⟩⟩
      · obtain ⟨v0,qv⟩:=I3.cell x c ec
        exact absurd qv.lt (by rw [z]; exact Nat.lt_irrefl _)
      · have z0:=Heap.lt_size (I3.pin p hp).1
        exact absurd z0 (by rw [z]; exact Nat.lt_irrefl _)
    · refine thn (T.item Y rfl rfl rfl hc i [] s5 σ5 H5 Y.xe I5 (fpY fr5) st5 go) fun r s6 ⟨u,hr,h6⟩=>?_
      subst hr
      refine thn h6 fun _ s7 ⟨x,H7,I7,r7,y7,st7,fr7⟩=>?_
      have I7':=I7.pinned (fpY fr7) (T.obj _ _ st7)
      refine thn (hg _ _ _ _ _ _ _ _ s7 σ5 H7 x u _ I7' r7 (step x H7 y7)) fun _ s8 ⟨σ8,H8,I8,q8⟩=>?_
      refine thn (ht _ _ _ _ _ _ _ _ s8 σ8 H8 _ I8 q8) fun ok s9 ⟨H9,I9,q9⟩=>?_
      have again:∀ {sx:Shared} {Hx:Hp},Inv Y ([]++pinsAt fp s7.heap) σ8 Hx sx→Nx σ8 Hx→∃ m,m < n∧∃ i σ' H',Inv Y [] σ' H' sx∧tn i sx.heap∧(∀ b∈fp,H' b=none)∧W i m σ' H':=fun {sx Hx} Ix nx=>by
        obtain ⟨m',hm,wx⟩:=hNx σ8 Hx nx
        refine ⟨m',hm,i+1,σ8,Hx,Ix.unpinned,T.keep _ _ _ st7 fun b hb o e=>(Ix.pin (b,o) (List.mem_append_right _ (List.mem_append_right _ (mem_pinsAt hb e)))).1,fun b hb=>?_,wx⟩
        obtain ⟨o,e,d⟩:=T.obj _ _ st7 b hb
        exact (Ix.pin (b,o) (List.mem_append_right _ (List.mem_append_right _ (mem_pinsAt hb e)))).2.1
      cases ok with
      | false =>
        rw [if_neg Bool.false_ne_true] at q9 ⊢
        exact again I9 q9
      | true =>
        rw [if_pos rfl] at q9 ⊢
        refine thn (he _ _ _ _ _ _ _ _ s9 σ8 H9 _ I9 q9) fun y s10 ⟨v10,H10,I10,r10,ys,hys,hz,q10⟩=>?_
        refine thn (mt_append (X:=Y) _ s10 σ8 H10 (.ref L) [v10] (.ref L) [y] (fun _ H'=>Nx σ8 H') I10 rfl (.cons r10 .nil) ⟨L,ys,v10,rfl,rfl,hys,hz,q10⟩) fun _ s11 ⟨_,H11,I11,_,q11⟩=>?_
        exact again I11 q11
  exact codeAny_compStart_list (loop _ rfl) (T.self X.A 0 _ _ _ stY (loop _ rfl))
end L2
set_option Elab.async false
set_option linter.all false
set_option maxRecDepth 100000
set_option maxHeartbeats 4000000
namespace L2
open PySem PySem.Spec PyProof.Rows
theorem comp_by {J:It} {g:TG} {tc:TT} {te:TE} {R:Hp→Prop} {l:Addr} {σ0:St} {H0:Hp} (n:Nat) (Pv:Nat→St→Hp→Prop) (h0:Pv 0 σ0 H0) (hstop:∀ σ H,Pv n σ H→J.stop n H∧R H)
    (hgo:∀ i σ H,i < n→Pv i σ H→J.go i H∧∀ x H',J.yld i H x H'→g x σ H' fun σ2 H2=>tc σ2 H2 fun b H3=>if b=true then te σ2 H3 fun v H4=>∃ ys,H4 l=some (.lst ys)∧ys.length < sizeLine∧Pv (i+1) σ2 (upd H4 l (.lst (ys++[v]))) else Pv (i+1) σ2 H3) :
    ∃ W:Nat→Nat→St→Hp→Prop,(∃ m,W 0 m σ0 H0)∧∀ i m σ H,W i m σ H →
      (J.stop i H∧R H)∨(J.go i H∧∃ N:St→Hp→Prop,(∀ σ' H',N σ' H'→∃ m',m' < m∧W (i+1) m' σ' H') ∧
        ∀ x H',J.yld i H x H'→g x σ H' fun σ2 H2=>tc σ2 H2 fun b H3=>if b=true then te σ2 H3 fun v H4=>∃ ys,H4 l=some (.lst ys)∧ys.length < sizeLine∧N σ2 (upd H4 l (.lst (ys++[v]))) else N σ2 H3):=by
  refine ⟨fun i m σ H=>m=n - i∧i≤n∧Pv i σ H,⟨n,by simp,Nat.zero_le _,h0⟩,?_⟩
  rintro i m σ H ⟨rfl,hi,p⟩
  by_cases hlt:i < n
  · obtain ⟨go,st⟩:=hgo i σ H hlt p
    exact .inr ⟨go,Pv (i+1),fun σ' H' p'=>⟨n - (i+1),by omega,rfl,hlt,p'⟩,st⟩
  · have e:i=n:=by omega
    subst e
    exact .inl (hstop σ H p)
theorem yesT {σ:St} {H:Hp} {F:Bool→Hp→Prop} (h:F true H):tYes σ H F:=h
theorem gN {i:Nat} {v:V} {σ:St} {H:Hp} {Q:St→Hp→Prop} (h:Q (σ.set i (some v)) H):gName i v σ H Q:=h
def Ite (K:PySem.W.Frag) (a:Addr):It :=
  ⟨fun i H=>∃ xs x,SqL K H a xs∧xs[i]?=some x,fun i H v H'=>∃ t x,v=.ref t∧H t=none∧H'=upd H t (.tup [.int (i:Nat),x])∧∀ xs,SqL K H a xs→xs[i]?=some x,fun i H=>∃ xs,SqL K H a xs∧xs.length≤i⟩
theorem Inv.turnedT {X:Cx} {pins:List (Addr × Obj)} {σ:St} {H:Hp} {s:Shared} {h':Heap} {t':Nat} {e it:Addr} {xs:List V} {its:List Value} (I:Inv X pins σ H s) (k:∀ b o,b≠e→b≠it→s.heap.get? b=some o→h'.get? b=some o)
    (fe:FpOk X pins H e) (fi:FpOk X pins H it) (he:∃ o,s.heap.get? e=some o) (hi:∃ o,s.heap.get? it=some o) (hv:Vals xs its) (hz:xs.length≤sizeLine)
    (hn:h'.get? s.heap.objs.size=some { cls:=.type "tuple",data:=.seq its.toArray }):Inv X pins σ (upd H s.heap.objs.size (.tup xs)) { s with heap:=h',toks:=t' }:=by
  have fr:H s.heap.objs.size=none:=I.fresh
  have nel:∀ b o,s.heap.get? b=some o→b≠s.heap.objs.size:=fun b o q=>Nat.ne_of_lt (Heap.lt_size q)
  refine I.step (g':=s.gens) (d':=s.drawn) (ch:=[e,it]) (fun b hb=>?_) (fun b o _ _ hc q _=>k b o (fun z=>hc (by simp [z])) (fun z=>hc (by simp [z])) q)
    (fun b o _ _ hc q _=>⟨o.slots,k b o (fun z=>hc (by simp [z])) (fun z=>hc (by simp [z])) q⟩) (fun b o _ q n=>by rw [upd_ne (nel b o q)]; exact n)
    (fun b o hc q=>⟨o,k b o (fun z=>hc (by simp [z])) (fun z=>hc (by simp [z])) q⟩) (fun b ys q=>by rw [upd_ne (ne_of_none q fr)]; exact q) (fun b o u q=>by rw [upd_ne (ne_of_none q fr)]; exact q) (fun b ps q=>⟨#[],by rw [upd_ne (ne_of_none q fr),q]; simp⟩)
    (fun m hm=>?_) (fun b u q=>?_) I.bare
  · have hb':b=e∨b=it:=by simpa using hb
    rcases hb' with rfl | rfl
    · exact ⟨fe.2.2.2.1,fe.2.1,fe.2.2.2.2.1,fe.2.2.2.2.2⟩
    · exact ⟨fi.2.2.2.1,fi.2.1,fi.2.2.2.2.1,fi.2.2.2.2.2⟩
  · obtain ⟨o,es,ep,ho,r⟩:=hm
    exact ⟨o,es,ep,k _ o (Ne.symm fe.2.1) (Ne.symm fi.2.1) ho,r⟩
  · by_cases hb:b=s.heap.objs.size
    · subst hb
      rw [upd_same] at q
      cases q
      exact ⟨hz,its,hv,_,hn,rfl,_,rfl⟩
    · rw [upd_ne hb] at q
      refine (I.hok b u q).stay (fun c v hc q'=>k c v ?_ ?_ q') (fun c q'=>by rw [upd_ne (ne_of_none q' fr)]; exact q') fun c ys q'=>by rw [upd_ne (ne_of_none q' fr)]; exact q'
      · rintro rfl
        rcases hc with z | z
        · rw [← z,fe.1] at q; cases q
        · rw [fe.1] at z; cases z
      · rintro rfl
        rcases hc with z | z
        · rw [← z,fi.1] at q; cases q
        · rw [fi.1] at z; cases z
theorem turn_enum {P:Program} {w:World} {K:PySem.W.Frag} {elts:List Expr} {k1:Nat} {p1:Pos} (a e it:Addr) (hne:e≠it) :
    Turn P w K (.Tuple elts k1 p1) (Ite K a) [e,it] e (fun i h=>(∃ old,IsEnum h e it ((i:Nat):Int) old)∧h.IsListIter it a i) where
  mem:=by simp
  obj:=fun i h st b hb=>by
    obtain ⟨⟨old,he⟩,o,ho,c,d⟩:=st
    have hb':b=e∨b=it:=by simpa using hb
    rcases hb' with rfl | rfl
    · exact ⟨_,he,fun v z=>by
        have z':Data.fields _=Data.cell v:=z
        cases z'⟩
    · exact ⟨o,ho,fun v z=>by rw [d] at z; cases z⟩
  keep:=fun i h h' st k=>by
    obtain ⟨⟨old,he⟩,hit⟩:=st
    exact ⟨⟨old,k e (by simp) _ he⟩,hit.at fun o q=>k it (by simp) o q⟩
  item:=by
    intro X hP hw hK hc i pins s σ H E I hf st hg
    subst hP hw hK
    obtain ⟨xs,x,hq,hx⟩:=hg
    obtain ⟨its,rv,p,hz⟩:=I.list hq
    obtain ⟨u,hu,ru⟩:=rv.get hx
    obtain ⟨⟨old,he⟩,hit⟩:=st
    have fe:=hf e (by simp)
    have fi:=hf it (by simp)
    obtain ⟨oi,hoi,_⟩:=id hit
    refine wpAny_pyNext_enum_item he hit p.isList (x:=u) (by simpa using hu) hne fun h1 heo hit1 ht1 hz1 hk1=>?_
    refine ⟨_,rfl,wpAny_letOwnedTupleGo_enum heo fun h2 he2 hs2=>?_⟩
    have hs2':Heap.SameBut e h1 h2:=hs2
    have hel:e < s.heap.objs.size:=Heap.lt_size he
    have I1:Inv X pins σ (upd H s.heap.objs.size (.tup [.int (i:Nat),x])) { s with heap:=h2,toks:=s.toks+1 } :=
      I.turnedT (its:=[.int i s.toks,u]) (fun b o h1' h2' q=>hs2'.extBut b o h1' (hk1 b o h1' h2' q)) fe fi ⟨_,he⟩ ⟨_,hoi⟩ (.cons ⟨_,rfl⟩ (.cons ru .nil)) (by show 2≤sizeLine; decide) ((hs2'.2 _ (Nat.ne_of_gt hel)).trans ht1)
    refine ⟨.ref s.heap.objs.size,_,I1,rfl,⟨s.heap.objs.size,x,rfl,I.fresh,rfl,fun ys hy=>by rw [I.list_inj hy hq]; exact hx⟩,⟨⟨u,?_⟩,hit1.extBut hs2'.extBut (Ne.symm hne)⟩,fun b hb=>?_⟩
    · have e3:(((i+1:Nat)):Int)=(i:Int)+1:=by push_cast; rfl
      rw [e3]
      exact he2
    · have hb':b=e∨b=it:=by simpa using hb
      have hbl:b≠s.heap.objs.size:=by
        rcases hb' with rfl | rfl
        · exact Nat.ne_of_lt (Heap.lt_size he)
        · exact Nat.ne_of_lt (Heap.lt_size hoi)
      rw [upd_ne hbl]
      exact (hf b hb).1
  done:=by
    intro X hP hw hK hc i pins s σ H E I hf st hg
    subst hP hw hK
    obtain ⟨xs,hq,hx⟩:=hg
    obtain ⟨its,rv,p,hz⟩:=I.list hq
    obtain ⟨⟨old,he⟩,hit⟩:=st
    obtain ⟨f0,f1,f2,f3,f4,f5⟩:=hf it (by simp)
    have hl:=rv.length
    exact wpAny_pyNext_enum_end (I.ok.hd hc) he hit p.isList (by simp; omega) fun h' eb=>⟨rfl,I.turned (t':=s.toks) (fun b o hb e=>eb b o hb e) f0 f1 f3 f4 f5⟩
  self:=fun A i s Q E st h=>by
    obtain ⟨⟨old,he⟩,hit⟩:=st
    exact wpAny_pyIter_enum he h
def iEnum (K:PySem.W.Frag) (ta:TA):TI:=fun σ H R=>ta σ H fun vs H1=>∃ a,vs=[.ref a]∧(∃ xs,SqL K H1 a xs)∧R (Ite K a) H1
theorem pi_enum {X:Cx} {elts:List Expr} {k1:Nat} {p1:Pos} {a:Expr} {ta:TA} {p pos:Pos} (hg:Gl X "enumerate") (hm:X.mg "enumerate" = none) (ha:PA X [a] ta) (hs:starEach [a] X.env=[(false,eval a X.env)]:=by rfl)
    (hb:bootBuiltins "enumerate" = some (.type "enumerate"):=by first | exact boot_enumerate | exact PySem.boot_enumerate | rfl):PI X (.Tuple elts k1 p1) (.Call (.Name "enumerate" p) [a] [] pos) (iEnum X.K ta):=by
  intro pins s σ H R I h
  refine Call_ (ld_blt I hg hm hb (PyProof.Rows.callWith_type1 (thn (ha pos pins s σ H _ I h) fun us s1 ⟨vs,H1,I1,r1,q1⟩=>?_) hs rfl))
  obtain ⟨l,e,⟨xs,hq⟩,q⟩:=q1
  subst e
  cases r1 with
  | cons r rr =>
    cases rr
    cases r
    obtain ⟨its,rv,pl,hz⟩:=I1.list hq
    refine call_enumerate_list pl.isList fun h' he hit hsz hk=>?_
    refine wpAny_pyIter_enum he ?_
    have I2:Inv X pins σ H1 { s1 with heap:=h' }:=I1.kept (t':=s1.toks) hk
    refine ⟨s1.heap.objs.size+1,[s1.heap.objs.size+1,s1.heap.objs.size],_,_,H1,rfl,I2,turn_enum l _ _ (Nat.succ_ne_self _),⟨⟨_,he⟩,hit⟩,fun b hb=>?_,q⟩
    have hb':b=s1.heap.objs.size+1∨b=s1.heap.objs.size:=by simpa using hb
    rcases hb' with rfl | rfl
    · exact I1.fpOk (Nat.le_succ _) (I1.hok.fresh (Nat.le_succ _))
    · exact I1.fpOk (Nat.le_refl _) (I1.hok.fresh (Nat.le_refl _))
theorem for_enum {K:PySem.W.Frag} {a:Addr} {xs:List V} {g:TG} {tb:TS} {D:Ends} {σ:St} {H:Hp} (Pv:Nat→St→Hp→Prop) (h0:Pv 0 σ H) (hl:∀ i σ H,i≤xs.length→Pv i σ H→SqL K H a xs)
    (hs:∀ i x t σ H,xs[i]?=some x→Pv i σ H→H t=none→g (.ref t) σ (upd H t (.tup [.int (i:Nat),x])) fun σ2 H2=>tb { D with nx:=Pv (i+1),ct:=Pv (i+1),bk:=D.nx } σ2 H2) (hd:∀ σ H,Pv xs.length σ H→D.nx σ H) :
    ∃ W:Nat→Nat→St→Hp→Prop,(∃ m,W 0 m σ H)∧∀ i m σ H,W i m σ H →
      ((Ite K a).stop i H∧D.nx σ H)∨((Ite K a).go i H∧∃ N:St→Hp→Prop,(∀ σ' H',N σ' H'→∃ m',m' < m∧W (i+1) m' σ' H')∧∀ x H',(Ite K a).yld i H x H'→g x σ H' fun σ2 H2=>tb { D with nx:=N,ct:=N,bk:=D.nx } σ2 H2):=by
  refine ⟨fun i m σ H=>m=xs.length - i∧i≤xs.length∧Pv i σ H,⟨xs.length,by simp,Nat.zero_le _,h0⟩,?_⟩
  rintro i m σ H ⟨rfl,hi,p⟩
  have q:=hl i σ H hi p
  by_cases hlt:i < xs.length
  · refine .inr ⟨⟨xs,xs[i],q,by simp [hlt]⟩,Pv (i+1),fun σ' H' p'=>⟨xs.length - (i+1),by omega,rfl,hlt,p'⟩,fun v H' y=>?_⟩
    obtain ⟨t,x,rfl,ht,rfl,y⟩:=y
    exact hs i x t σ _ (y xs q) p ht
  · have e:i=xs.length:=by omega
    subst e
    exact .inl ⟨⟨xs,q,Nat.le_refl _⟩,hd σ H p⟩
theorem call_isinst {X:Cx}:CallR X (.builtin "isinstance") (fun xs H Q=>∃ x n t b,xs=[x,.ty n]∧TyOf X.K H x t∧PySem.W.kitOne X.K t (.type n)=some b∧Q (.bl b) H):=by
  intro pins s σ H xs us Q I r h
  obtain ⟨x,n,t,b,rfl,ty,e,q⟩:=h
  obtain ⟨u,v,rfl,ru,rv⟩:=vals2 r
  cases rv
  exact isinst_ok I ru ty e fun tk=>⟨.bl b,H,I.tok _,rfl,q⟩
theorem strsAre_of {ys:List Str}:∀ {us:List Value},Vals (ys.map V.str) us→StrsAre us ys:=by
  induction ys with
  | nil=>intro us r; rw [List.map_nil] at r; cases r; exact .nil
  | cons y ys ih =>
    intro us r
    rw [List.map_cons] at r
    cases r with
    | cons r1 r2 =>
      obtain ⟨t,e⟩:=r1
      subst e
      exact .cons y t (ih r2)
theorem mt_join {X:Cx}:MtR X "str.join" (fun x xs H Q=>∃ y l ys,x=.str y∧xs=[.ref l]∧SqL X.K H l (ys.map V.str)∧(ys.map (·.length)).sum+ys.length * y.length≤16777216∧Q (.str (Str.join y ys)) H):=by
  intro pins s σ H x xs v us Q I rx r h
  obtain ⟨y,l,ys,rfl,rfl,hq,hz,q⟩:=h
  obtain ⟨t,rfl⟩:=rx
  obtain ⟨u,rfl,ru⟩:=vals1 r
  cases ru
  obtain ⟨its,rv,p,_⟩:=I.list hq
  refine join_list p.isList (ys:=ys) (by simpa using strsAre_of rv) hz fun t' k=>?_
  have e:Txt.join y ys=Str.join y ys:=StrLaws.glued_eq_join y ys
  rw [e]
  exact ⟨.str _,H,I.tok _,⟨_,rfl⟩,q⟩
def CDivB (i j:Int):Prop:=0 < j∧j < 2 ^ 64
theorem op_fdivB {X:Cx}:OpR X (binaryOp .FloorDiv) (rI CDivB fun i j=>.int (i / j)):=opI fun i j _ _ _ _ _ hc q=>by
  have h1:(0:Int) < j:=hc.1
  have h2:j < 2 ^ 64:=hc.2
  refine floordiv_int (by omega) (by rw [Int.fdiv_eq_ediv_of_nonneg i (by omega)]; exact q) (.inl (PyProof.noPylong_of_log2 ?_))
  have h3:j.natAbs≠0:=by omega
  have h4:j.natAbs < 2 ^ 64:=by omega
  have h5:j.natAbs.log2 < 64:=(Nat.log2_lt h3).mpr h4
  omega
end L2
set_option Elab.async false
set_option linter.all false
set_option maxRecDepth 100000
set_option maxHeartbeats 4000000
namespace L2
open PySem PySem.Spec PyProof.Rows
def liftBy (js:List (Option Nat)) (σ:St):St:=js.map fun j=>match j with | some j=>σ.getD j none | none=>none
def chkLift (N:List Str) (js:List (Option Nat)) (XN:List Str) (names:List (Str × NameKind)):Bool :=
  decide (N.length=js.length) && (N.zip js).all fun p=>match p.2 with | none=>true | some j=>decide (XN[j]?=some p.1) && decide (names.lookup p.1=some .free)
theorem chk_len {N:List Str} {js:List (Option Nat)} {XN:List Str} {names:List (Str × NameKind)} (h:chkLift N js XN names=true) (σ:St):(liftBy js σ).length=N.length:=by
  unfold chkLift at h
  rw [Bool.and_eq_true] at h
  unfold liftBy
  rw [List.length_map]
  exact (of_decide_eq_true h.1).symm
theorem chk_at {N:List Str} {js:List (Option Nat)} {XN:List Str} {names:List (Str × NameKind)} (h:chkLift N js XN names=true) (σ:St) (i:Nat) (x:Str) (v:V) (h1:N[i]?=some x) (h2:(liftBy js σ)[i]?=some (some v)) :
    names.lookup x=some .free∧∃ j:Nat,XN[j]?=some x∧σ[j]?=some (some v):=by
  unfold chkLift at h
  rw [Bool.and_eq_true,List.all_eq_true] at h
  unfold liftBy at h2
  rw [List.getElem?_map] at h2
  cases e:js[i]? with
  | none=>rw [e] at h2; cases h2
  | some j =>
    rw [e] at h2
    cases j with
    | none=>cases h2
    | some j =>
      have h3:σ.getD j none=some v:=Option.some.inj h2
      have hm:(x,some j)∈N.zip js:=by
        refine List.mem_of_getElem? (i:=i) ?_
        rw [List.getElem?_zip_eq_some]
        exact ⟨h1,e⟩
      have q:=h.2 _ hm
      simp only [Bool.and_eq_true,decide_eq_true_eq] at q
      refine ⟨q.2,j,q.1,?_⟩
      rw [List.getD_eq_getElem?_getD] at h3
      cases e2:σ[j]? with
      | none=>rw [e2] at h3; cases h3
      | some o=>rw [e2] at h3; exact congrArg some h3
theorem pe_compL {X:Cx} {elt tg iter:Expr} {ifs:List Expr} {scope:Scope} {pos:Pos} {wi:TI} {g:TG} {tc:TT} {te:TE} (XN:List Str) (sc:Scope) (N:List Str) (js:List (Option Nat)) (hXN:X.N=XN) (hsc:X.env.scope=sc) (hc:X.calm=true) (hi:PI X tg iter wi)
    (hkind:scope.kind=.function) (hchk:chkLift N js XN scope.names=true) (hcell:∀ y∈scope.names,y.2≠.cell) (hfree:∀ y∈scope.names,y.2=.free→sc.names.lookup y.1=some .cell∨sc.names.lookup y.1=some .free)
    (hnames:∀ y∈scope.names,y.2=.local→scope.names.lookup y.1=some .local)
    (hg:∀ cl C s H ex pn E,PG (blockCx X scope N cl C s H ex pn E) tg g) (ht:∀ cl C s H ex pn E,PIfs (blockCx X scope N cl C s H ex pn E) ifs tc) (he:∀ cl C s H ex pn E,PE (blockCx X scope N cl C s H ex pn E) elt te)
    (hs:∀ x,foldedSetIterable iter X.env x=pure x:=by intro _; rfl) :
    PE X (.ListComp elt [⟨tg,iter,ifs,0⟩] scope pos) (tComp wi g tc te (liftBy js)):=by
  subst hXN
  subst hsc
  exact pe_comp N (liftBy js) hc hi hkind hcell hfree hnames (fun σ _=>chk_len hchk σ) (fun σ i x v _ h1 h2=>chk_at hchk σ i x v h1 h2) hg ht he hs
theorem kit_tt (K:PySem.W.Frag) {T U:String} {b:Bool} (h:(if (Value.type T == Value.type U)=true then some true else (if PySem.W.kitMeta U=true then (fastBuiltinMro T).map (·.contains (.type U)) else none))=some b) :
    PySem.W.kitOne K (.type T) (.type U)=some b:=h
theorem atI_lt {α:Type} {xs:List α} {r:Int} (h0:0≤r) (h1:r < xs.length):∃ v,atI xs r=some v∧v∈xs:=by
  have hk:r.toNat < xs.length:=by omega
  have ek:r=((r.toNat:Nat):Int):=by omega
  refine ⟨xs[r.toNat],?_,List.getElem_mem hk⟩
  have q:atI xs ((r.toNat:Nat):Int)=some xs[r.toNat]:=atI_nat (List.getElem?_eq_getElem hk)
  rw [← ek] at q
  exact q
theorem cutV_ints (ns:List Int) (lo hi:Option Int):∃ ms:List Int,cutV (ns.map V.int) lo hi=ms.map V.int∧ms.length≤ns.length:=by
  refine ⟨(ns.drop (HT.sIx ns.length 0 lo)).take (HT.sIx ns.length ns.length hi - HT.sIx ns.length 0 lo),?_,?_⟩
  · unfold cutV
    rw [List.length_map,List.map_take,List.map_drop]
  · rw [List.length_take,List.length_drop]
    omega
theorem same_new {H:Hp} {p:Addr} (h:H p=none) (o:HO):Same H (upd H p o):=fun b u q=>by rw [upd_ne (ne_of_none q h)]; exact q
theorem map_int_at {ns:List Int} {i:Nat} {y:V} (h:(ns.map V.int)[i]?=some y):∃ z,y=V.int z:=by
  rw [List.getElem?_map] at h
  cases e:ns[i]? with
  | none=>rw [e] at h; cases h
  | some z=>rw [e] at h; exact ⟨z,(Option.some.inj h).symm⟩
theorem small {n:Nat} (h:n≤1000):n≤sizeLine:=Nat.le_of_lt (small1000 h)
theorem smn (n:Nat) (h:n≤1000:=by decide):n≤sizeLine:=small h
theorem sizeLine_big:(1000000:Nat)≤sizeLine:=by rw [sizeLine_eq]; decide
structure Pot (H0:Hp) (p:Addr) (H:Hp):Prop where
  at_:∃ a b:Int,H p=some (.lst [.int a,.int b])
  old:∀ c o,H0 c=some o→c≠p→H c=some o
theorem Pot.new {H0 H:Hp} {p l:Addr} {o:HO} (P:Pot H0 p H) (h:H l=none):Pot H0 p (upd H l o):=by
  obtain ⟨a,b,e⟩:=P.at_
  exact ⟨⟨a,b,by rw [upd_ne (ne_of_none e h)]; exact e⟩,fun c u q hc=>by
    have q':=P.old c u q hc
    rw [upd_ne (ne_of_none q' h)]
    exact q'⟩
theorem Pot.turn {H0 H:Hp} {p:Addr} {a b:Int} (P:Pot H0 p H):Pot H0 p (upd H p (.lst [.int a,.int b])) :=
  ⟨⟨a,b,upd_same⟩,fun c u q hc=>by rw [upd_ne hc]; exact P.old c u q hc⟩
end L2
namespace L2
open PySem PySem.Spec PyProof.Rows
theorem Pot.free {H0 H:Hp} {p l:Addr} (P:Pot H0 p H) (h:H l=none):H0 l=none:=by
  cases e:H0 l with
  | none=>rfl
  | some o =>
    by_cases hl:l=p
    · obtain ⟨a,b,q⟩:=P.at_
      rw [hl,q] at h
      cases h
    · rw [P.old l o e hl] at h
      cases h
theorem Pot.list {H0 H:Hp} {p l:Addr} {o:HO} (P:Pot H0 p H) (h:H0 l=none) (hl:l≠p):Pot H0 p (upd H l o):=by
  obtain ⟨a,b,e⟩:=P.at_
  exact ⟨⟨a,b,by rw [upd_ne (Ne.symm hl)]; exact e⟩,fun c u q hc=>by rw [upd_ne (ne_of_none q h)]; exact P.old c u q hc⟩
theorem Pot.apart {H0 H:Hp} {p l:Addr} (P:Pot H0 p H) (h:H l=none):l≠p:=by
  obtain ⟨a,b,e⟩:=P.at_
  exact (ne_of_none e h).symm
theorem menu_str {K:PySem.W.Frag} {H:Hp} {l:Addr} {r:Int} {xs:List V} {Q:VK} (h:H l=some (.lst xs)) (r0:0≤r) (r1:r < (xs.length:Int)) (al:∀ v∈xs,∃ x:Str,v=.str x∧0 < x.length∧x.length≤1000)
    (k:∀ x:Str,0 < x.length→x.length≤1000→Q (.str x) H):rIxL K (.ref l) (.int r) H Q:=by
  obtain ⟨v,hv,hm⟩:=atI_lt r0 r1
  obtain ⟨x,rfl,h0,h1⟩:=al v hm
  exact ⟨l,xs,r,_,rfl,rfl,SqL.of h,hv,k x h0 h1⟩
theorem menu_int {K:PySem.W.Frag} {H:Hp} {l:Addr} {r:Int} {xs:List V} {Q:VK} {lo hi:Int} (h:H l=some (.lst xs)) (r0:0≤r) (r1:r < (xs.length:Int)) (al:∀ v∈xs,∃ x:Int,v=.int x∧lo≤x∧x≤hi)
    (k:∀ x:Int,lo≤x→x≤hi→Q (.int x) H):rIxL K (.ref l) (.int r) H Q:=by
  obtain ⟨v,hv,hm⟩:=atI_lt r0 r1
  obtain ⟨x,rfl,h0,h1⟩:=al v hm
  exact ⟨l,xs,r,_,rfl,rfl,SqL.of h,hv,k x h0 h1⟩
theorem join_len {y:Str} (hy:y=⟨#[]⟩) (cs:List Nat):(Str.join y (cs.map fun c=>(⟨#[c]⟩:Str))).length=cs.length:=by
  subst hy
  rw [join_ones]
  simp [Str.length]
theorem join_fits {y:Str} (hy:y=⟨#[]⟩) (cs:List Nat) (h:cs.length≤1000000):((cs.map fun c=>(⟨#[c]⟩:Str)).map (·.length)).sum+(cs.map fun c=>(⟨#[c]⟩:Str)).length * y.length≤16777216:=by
  subst hy
  have e:((cs.map fun c=>(⟨#[c]⟩:Str)).map (·.length)).sum=cs.length:=by
    clear h
    induction cs with
    | nil=>rfl
    | cons c r ih =>
      rw [List.map_cons,List.map_cons,List.sum_cons,ih,List.length_cons]
      show 1+r.length=r.length+1
      omega
  rw [e]
  show cs.length+_ * 0≤_
  omega
def sz:List Nat→Int
  | []=>0
  | c :: r=>(if c=32∨c=10 then 0 else 1)+sz r
end L2
set_option Elab.async false
set_option linter.all false
set_option maxRecDepth 100000
set_option maxHeartbeats 4000000
namespace L2
open PySem PySem.Spec PyProof.Rows
theorem bls_at {bs:List Bool} {its:List Value} (r:Vals (bs.map V.bl) its) {i:Nat} {v:Value} (h:its.toArray[i]?=some v):v=.bool (bs.getD i true):=by
  have h':its[i]?=some v:=by simpa using h
  have hl:=r.length
  have hi:i < its.length:=(List.getElem?_eq_some_iff.mp h').1
  have hb:i < bs.length:=by rw [List.length_map] at hl; omega
  obtain ⟨u,hu,ru⟩:=r.get (i:=i) (x:=V.bl bs[i]) (by rw [List.getElem?_map,List.getElem?_eq_getElem hb]; rfl)
  rw [h'] at hu
  cases hu
  have e:bs.getD i true=bs[i]:=by rw [List.getD_eq_getElem?_getD,List.getElem?_eq_getElem hb]; rfl
  rw [e]
  exact ru
theorem kit_str_tuple (K:PySem.W.Frag):PySem.W.kitOne K (.type "str") (.type "tuple")=some false:=kit_tt K (by decide +kernel)
theorem kit_str_str (K:PySem.W.Frag):PySem.W.kitOne K (.type "str") (.type "str")=some true:=kit_tt K (by decide +kernel)
theorem kit_tuple_tuple (K:PySem.W.Frag):PySem.W.kitOne K (.type "tuple") (.type "tuple")=some true:=kit_tt K (by decide +kernel)
def isNm (x:Str):Bool:=decide (1≤x.length) && decide (x.length≤8) && x.cps.toList.all fun c=>decide (97≤c∧c≤122)
end L2
set_option Elab.async false
set_option linter.all false
set_option maxRecDepth 100000
set_option maxHeartbeats 4000000
namespace ZT
open PySem
open Sem (wp)
section
variable {prog:Program} {w:World} {A:Around} {E:Value→Shared→Prop} {s:Shared}
theorem tup_item {it t:Addr} {i:Nat} {its:Array Value} {x:Value} {Q:Value→Shared→Prop} (ti:s.heap.IsTupleIter it t i) (tt:s.heap.IsTuple t its) (tx:its[i]?=some x)
    (k:∀ g,g.IsTupleIter it t (i+1)→Heap.SameBut it s.heap g→Q x { s with heap:=g }):wpAny (model prog w) A (Builtin.SmallTypes.nextOf (.ref it)) Q E s:=by
  obtain ⟨o,eo,ec,ed⟩:=id ti
  obtain ⟨ol,el,_,nl,dl⟩:=tt
  unfold Builtin.SmallTypes.nextOf
  refine wpAny_bind (wpAny_callSpecial?_slot (name:=Str.ofString "__next__") ti.typeIs F.slot_tuple_iterator_next (wpAny_call_entry F.slot_tuple_iterator_next ti.typeIs F.entry_tuple_iterator_next ?_ (F.args_tuple_iterator_next_1 _)))
  show wpAny _ _ (field (.ref it) 0 >>= _) _ _ s
  refine wpAny_bind (wpAny_field eo ed (x:=.ref t) rfl ?_)
  show wpAny _ _ (if (Value.ref t == Value.none)=true then _ else _) _ _ s
  rw [if_neg (by intro z; cases z)]
  show wpAny _ _ (field (.ref it) 1 >>= _) _ _ s
  refine wpAny_bind (wpAny_field eo ed (x:=.int i 0) rfl ?_)
  show wpAny _ _ (seqItems? (.ref t) >>= _) _ _ s
  refine wpAny_bind (wpAny_seqItems el dl ?_)
  simp only [Int.toNat_natCast,tx]
  refine wpAny_bind (wpAny_setField eo ed (by simp) (wpAny_pure ⟨x,rfl,wpAny_pure (k _ ?_ (Heap.SameBut.update ..))⟩))
  refine ⟨_,Heap.get?_update_self _ eo (Obj.isFreed_of_fields (Obj.data_mapFields ed _)),(Obj.cls_mapFields ..).trans ec,?_⟩
  rw [Obj.data_mapFields ed]
  simp [rawInt]
theorem tup_end {it t:Addr} {i:Nat} {its:Array Value} {Q:Value→Shared→Prop} (hd:A.handled=none) (ti:s.heap.IsTupleIter it t i) (tt:s.heap.IsTuple t its) (tx:its[i]?=none)
    (k:∀ g e,Heap.ExtBut it s.heap g→(∃ o,g.get? e=some o∧o.cls=.type "StopIteration")→E (.ref e) { s with heap:=g }):wpAny (model prog w) A (Builtin.SmallTypes.nextOf (.ref it)) Q E s:=by
  obtain ⟨o,eo,ec,ed⟩:=id ti
  obtain ⟨ol,el,_,nl,dl⟩:=tt
  unfold Builtin.SmallTypes.nextOf
  refine wpAny_bind (wpAny_callSpecial?_slot (name:=Str.ofString "__next__") ti.typeIs F.slot_tuple_iterator_next (wpAny_call_entry F.slot_tuple_iterator_next ti.typeIs F.entry_tuple_iterator_next ?_ (F.args_tuple_iterator_next_1 _)))
  show wpAny _ _ (field (.ref it) 0 >>= _) _ _ s
  refine wpAny_bind (wpAny_field eo ed (x:=.ref t) rfl ?_)
  show wpAny _ _ (if (Value.ref t == Value.none)=true then _ else _) _ _ s
  rw [if_neg (by intro z; cases z)]
  show wpAny _ _ (field (.ref it) 1 >>= _) _ _ s
  refine wpAny_bind (wpAny_field eo ed (x:=.int i 0) rfl ?_)
  show wpAny _ _ (seqItems? (.ref t) >>= _) _ _ s
  refine wpAny_bind (wpAny_seqItems el dl ?_)
  simp only [Int.toNat_natCast,tx]
  refine wpAny_bind (wpAny_rule (wpAny_bind (wpAny_setField eo ed (by simp) ?_)))
  show wpAny _ _ (newExc (.type "StopIteration") [] >>= _) _ _ _
  refine wpAny_bind ?_
  simp only [newExc,newTuple]
  refine wpAny_bind (wpAny_newObj_type ?_ (by size_fits))
  refine wpAny_bind (m:=firstArgMember _ _) (wpAny_of_eq (a:=Value.none) (by first | rfl | (simp only [firstArgMember]; rfl)) ?_)
  refine wpAny_newObj_type ?_ (by size_fits)
  simp only [raiseNew]
  refine wpAny_bind (wpAny_handled ?_)
  first | rw [show A.in1.handled=none from hd] | rw [hd]
  refine wpAny_bind (wpAny_pure (wpAny_throw ?_))
  exact k _ _ (((Heap.SameBut.update ..).extBut.push _).push _) ⟨_,Heap.get?_push_size _ rfl,rfl⟩
structure Apart (z TI TO i1 i2 t1 t2:Addr):Prop where
  a1:TI≠z
  a2:TO≠z
  a3:i1≠z
  a4:i2≠z
  b1:TI≠TO
  b2:TI≠i1
  b3:TI≠i2
  b4:TO≠i1
  b5:TO≠i2
  b6:i1≠i2
  c1:t1≠z
  c2:t1≠TO
  c3:t1≠i1
  c4:t1≠i2
  d1:t2≠z
  d2:t2≠TO
  d3:t2≠i1
  d4:t2≠i2
end
abbrev zh1 (h:Heap) (t1:Addr):Heap:=h.push { cls:=.type "tuple_iterator",data:=.fields #[.ref t1,.int 0 0] }
end ZT
set_option Elab.async false
set_option linter.all false
set_option maxRecDepth 100000
set_option maxHeartbeats 4000000
namespace L2
open PySem PySem.Spec PyProof.Rows
section
variable {X:Cx} {pins:List (Addr × Obj)} {σ:St} {H:Hp} {s:Shared} {h':Heap} {t':Nat} {ch:List Addr}
end
end L2
set_option linter.all false
namespace M01
open PySem
def isW (c:Nat):Bool:=decide (97≤c∧c≤122) || decide (65≤c∧c≤90) || decide (48≤c∧c≤57)
abbrev S:=List (List Nat) × List Nat
def fn (st:S):List (List Nat):=if st.2=[] then st.1 else st.1++[st.2]
def cmp (st:S) (rest:List Nat):List (List Nat):=if st.2=[] then st.1 else st.1++[st.2++rest.takeWhile isW]
def bl (c:Nat):Nat:=if isW c=true then c else 32
end M01
set_option Elab.async false
set_option linter.all false
set_option maxRecDepth 100000
set_option maxHeartbeats 4000000
namespace L2
open PySem PySem.Spec PyProof.Rows
theorem isPart_of {v:Value} {o:Option Int} (h:IsPart v o):∃ q:Option (Int × Tok),v=partValue q∧o=q.map (·.1):=by
  cases h with
  | none=>exact ⟨none,rfl,rfl⟩
  | int i t=>exact ⟨some (i,t),rfl,rfl⟩
def rSlS:V→Option Int→Option Int→Hp→VK→Prop:=fun x lo hi H Q=>∃ y:Str,x=.str y∧y.length≤sizeLine∧Q (.str (Txt.slice y lo hi)) H
theorem sl_str {X:Cx}:SlR X rSlS:=by
  intro pins s σ H x v vl vu lo hi sl Q I rx hs pl pu h
  obtain ⟨y,rfl,hz,q⟩:=h
  obtain ⟨t,rfl⟩:=rx
  obtain ⟨ql,rfl,rfl⟩:=isPart_of pl
  obtain ⟨qu,rfl,rfl⟩:=isPart_of pu
  refine ⟨"str",_,F.slot_str_getitem.lookup,typeIs_str _ _ _,?_⟩
  refine wpAny_getItem_str_slice (l:=ql) (u:=qu) (st:=none) hs rfl ?_
  exact post_val_or_str ⟨Nat.le_trans (Txt.slice_le y _ _) hz,fun t' k=>⟨.str _,H,I.tok _,⟨_,rfl⟩,q⟩⟩
end L2
set_option Elab.async false
set_option linter.all false
set_option maxRecDepth 100000
set_option maxHeartbeats 4000000
namespace L2
open PySem PySem.Spec PyProof.Rows
structure Cal (P:Program) (w:World) (K:PySem.W.Frag) (mg:Str→Option Value) (base:Heap) (x:Str) (k:Nat) (ps:List Str) (sp:Sp):Prop where
  ex:∃ (f:Addr) (fd:FuncData),FnOk P w K mg base CX0 k f fd ps sp∧Binds K fd ps []∧PySem.W.keepIn K (.ref f)=true∧mg x=some (.ref f)
structure Has (K:PySem.W.Frag) (mg:Str→Option Value) (x:Str) (st:Stmt) (ps:List Str):Prop where
  ex:∃ (f:Addr) (fd:FuncData),Fun K x x st f fd∧Binds K fd ps []∧mg x=some (.ref f)
section
variable {P:Program} {w:World} {K:PySem.W.Frag} {mg:Str→Option Value} {base:Heap}
theorem Has.cal {x:Str} {st:Stmt} {ps:List Str} {k:Nat} {sp:Sp} (h:Has K mg x st ps) (ok:∀ (f:Addr) (fd:FuncData),Fun K x x st f fd→mg x=some (.ref f)→Binds K fd ps []→FnOk P w K mg base CX0 k f fd ps sp):Cal P w K mg base x k ps sp:=by
  obtain ⟨f,fd,F,b,m⟩:=h.ex
  exact ⟨f,fd,ok f fd F m b,b,F.kp,m⟩
theorem Has.mk' {x:Str} {st:Stmt} {N ps:List Str} {k:Nat} {sp:Sp} (h:Has K mg x st ps) (S:FnScope N ps (defScope st)) (len:∀ vs H Q E,sp vs H Q E→vs.length=ps.length)
    (hbody:∀ (f:Addr) (cdv:Value) (A:Around) (outer:List Env) (s:Shared) (H:Hp) (vs:List V) (Q:VK) (E:XK),Room k (A.deeper (envOfC x (defScope st) s.heap.objs.size f cdv))→sp vs H Q E →
      ∃ t,PSs (cxOf CX0 P w K mg base N x (defScope st) f cdv A outer s H E).nox (defBody st) t∧t { nx:=fun _ H'=>Q .non H',rt:=Q } (start N vs) H):Cal P w K mg base x (k+1) ps sp :=
  h.cal fun f fd F _ _=>F.ok S len (hbody f)
theorem Cal.mono {x:Str} {j k:Nat} {ps:List Str} {sp:Sp} (C:Cal P w K mg base x j ps sp) (h:j≤k):Cal P w K mg base x k ps sp:=by
  obtain ⟨f,fd,F,r⟩:=C.ex
  exact ⟨f,fd,F.mono h,r⟩
end
theorem pe_cal {X:Cx} {x:Str} {k n:Nat} {ps:List Str} {sp:Sp} {e:Expr} {es:List Expr} {t:TA} {p pos:Pos} (C:Cal X.prog X.w X.K X.mg X.base x k ps sp) (hr:Room n X.A) (hk:k≤n) (hg:Gl X x) (ha:PA X (e :: es) t)
    (hdb:(x == ("__debug__" : Str))=false:=by decide) (he:starEach (e :: es) X.env=(false,eval e X.env) :: starEach es X.env:=by rfl) (hpl:(backTo pos (starEach es X.env)).any (·.1)=false:=by rfl) :
    PE X (.Call (.Name x p) (e :: es) [] pos) (tCall sp [] E0 t):=by
  obtain ⟨f,fd,F,b,kp,m⟩:=C.ex
  exact pe_call F (hr.mono hk) hg m kp b .nil pass0 ha hdb he hpl
inductive D where
  | non | bl (b:Bool) | int (i:Int) | str (x:Str) | tup (ds:List D)
mutual
def Den (H:Hp):V→D→Prop
  | v,.non=>v=.non
  | v,.bl b=>v=.bl b
  | v,.int i=>v=.int i
  | v,.str x=>v=.str x
  | v,.tup ds=>∃ (p:Addr) (vs:List V),v=.ref p∧H p=some (.tup vs)∧DenL H vs ds
def DenL (H:Hp):List V→List D→Prop
  | [],[]=>True
  | v :: vs,d :: ds=>Den H v d∧DenL H vs ds
  | _,_=>False
end
mutual
theorem Den.same {H H':Hp} (e:Same H H'):∀ {d:D} {v:V},Den H v d→Den H' v d
  | .non,_,h=>h
  | .bl _,_,h=>h
  | .int _,_,h=>h
  | .str _,_,h=>h
  | .tup ds,_,h=>by
    obtain ⟨p,vs,rfl,hp,hd⟩:=h
    exact ⟨p,vs,rfl,e _ _ hp,DenL.same e hd⟩
theorem DenL.same {H H':Hp} (e:Same H H'):∀ {ds:List D} {vs:List V},DenL H vs ds→DenL H' vs ds
  | [],[],_=>trivial
  | _ :: _,_ :: _,h=>⟨Den.same e h.1,DenL.same e h.2⟩
  | [],_ :: _,h=>h.elim
  | _ :: _,[],h=>h.elim
end
theorem DenL.len {H:Hp}:∀ {ds:List D} {vs:List V},DenL H vs ds→vs.length=ds.length
  | [],[],_=>rfl
  | _ :: ds,_ :: vs,h=>by rw [List.length_cons,List.length_cons,DenL.len h.2]
  | [],_ :: _,h=>h.elim
  | _ :: _,[],h=>h.elim
theorem DenL.at_ {H:Hp}:∀ {ds:List D} {vs:List V} {i:Nat} {v:V},DenL H vs ds→vs[i]?=some v→∃ d,ds[i]?=some d∧Den H v d
  | [],[],i,v,_,h=>by simp at h
  | d :: ds,_ :: vs,0,v,h,e=>by
    simp at e
    subst e
    exact ⟨d,rfl,h.1⟩
  | _ :: ds,_ :: vs,i+1,v,h,e=>DenL.at_ (i:=i) h.2 (by simpa using e)
  | [],_ :: _,_,_,h,_=>h.elim
  | _ :: _,[],_,_,h,_=>h.elim
theorem DenL.strs {H:Hp}:∀ xs:List Str,DenL H (xs.map V.str) (xs.map D.str)
  | []=>trivial
  | _ :: r=>⟨rfl,DenL.strs r⟩
theorem DenL.snoc {H:Hp} {v:V} {d:D} (hd:Den H v d):∀ {ds:List D} {vs:List V},DenL H vs ds→DenL H (vs++[v]) (ds++[d])
  | [],[],_=>⟨hd,trivial⟩
  | _ :: _,_ :: _,h=>⟨h.1,DenL.snoc hd h.2⟩
  | [],_ :: _,h=>h.elim
  | _ :: _,[],h=>h.elim
def Shal:Nat→D→Prop
  | 0,d=>d≠.non∧∀ ds,d≠.tup ds
  | n+1,d=>d≠.non∧∀ ds,d=.tup ds→ds.length≤100000∧∀ e∈ds,Shal n e
theorem Shal.up:∀ {n:Nat} {d:D},Shal n d→Shal (n+1) d
  | 0,d,h=>⟨h.1,fun ds e=>absurd e (h.2 ds)⟩
  | n+1,d,h=>⟨h.1,fun ds e=>⟨(h.2 ds e).1,fun x hx=>((h.2 ds e).2 x hx).up⟩⟩
theorem Shal.ne:∀ {n:Nat} {d:D},Shal n d→d≠.non
  | 0,_,h=>h.1
  | _+1,_,h=>h.1
theorem Has.never {P:Program} {w:World} {K:PySem.W.Frag} {mg:Str→Option Value} {base:Heap} {x:Str} {st:Stmt} {ps:List Str} {sp:Sp} (h:Has K mg x st ps) (no:∀ vs H Q E,¬ sp vs H Q E):Cal P w K mg base x 0 ps sp :=
  h.cal fun f fd F _ _=>⟨fun vs H Q E z=>absurd z (no vs H Q E),fun A outer s H args us vs Q E _ _ _ _ z=>absurd z (no vs H Q E)⟩
theorem den_tup {H:Hp} {ds:List D} {v:V} (h:Den H v (.tup ds)):∃ (p:Addr) (vs:List V),v=.ref p∧H p=some (.tup vs)∧DenL H vs ds:=h
def Same2 (p:Addr) (H H':Hp):Prop:=∀ c o,H c=some o→c≠p→H' c=some o
theorem Same2.trans {p:Addr} {H H1 H2:Hp} (a:Same2 p H H1) (b:Same2 p H1 H2):Same2 p H H2:=fun c o e n=>b c o (a c o e n) n
theorem Same2.of {p:Addr} {H H1:Hp} (a:Same H H1):Same2 p H H1:=fun c o e _=>a c o e
theorem Pot.same {H0 H H':Hp} {p:Addr} (P:Pot H0 p H) (s:Same H H'):Pot H0 p H':=by
  obtain ⟨a,b,e⟩:=P.at_
  exact ⟨⟨a,b,s _ _ e⟩,fun c o e n=>s c o (P.old c o e n)⟩
theorem Pot.trans {H0 H1 H2:Hp} {p:Addr} (P:Pot H0 p H1) (R:Pot H1 p H2):Pot H0 p H2:=⟨R.at_,fun c o e n=>R.old c o (P.old c o e n) n⟩
mutual
theorem Den.keepT {H H':Hp} (e:∀ (b:Addr) (vs:List V),H b=some (.tup vs)→H' b=some (.tup vs)):∀ {d:D} {v:V},Den H v d→Den H' v d
  | .non,_,h=>h
  | .bl _,_,h=>h
  | .int _,_,h=>h
  | .str _,_,h=>h
  | .tup ds,_,h=>by
    obtain ⟨p,vs,rfl,hp,hd⟩:=h
    exact ⟨p,vs,rfl,e _ _ hp,DenL.keepT e hd⟩
theorem DenL.keepT {H H':Hp} (e:∀ (b:Addr) (vs:List V),H b=some (.tup vs)→H' b=some (.tup vs)):∀ {ds:List D} {vs:List V},DenL H vs ds→DenL H' vs ds
  | [],[],_=>trivial
  | _ :: _,_ :: _,h=>⟨Den.keepT e h.1,DenL.keepT e h.2⟩
  | [],_ :: _,h=>h.elim
  | _ :: _,[],h=>h.elim
end
section
variable {X:Cx} {K:PySem.W.Frag} {o e:Expr} {es:List Expr} {to:TE} {t:TA} {name:Str} {apos cpos:Pos} {T id:String} {r:V→List V→Hp→VK→Prop}
theorem pe_bmK (hK:X.K=K) (pa:PlainAttrs T) (slot:Slot T name id) (hty:typeOf (.builtin id)=pure (.type "method_descriptor")) (hm:MtR X id r) (ho:PE X o to) (ha:PA X (e :: es) t)
    (hbase:attributeBase o name X.env (eval o X.env)=eval o X.env:=by rfl)
    (hfew:((backTo cpos (starEach (e :: es) X.env)).all (fun x=>!x.1) && (backToKw cpos (keywordEach [] X.env)).all (fun x=>x.1.isSome) && decide ((e :: es).length+([]:List Keyword).length+(if ([]:List Keyword).isEmpty then 0 else 1) < 30))=true:=by rfl)
    (hline:(apos.endLine == cpos.line)=true:=by rfl) (hs:starEach (e :: es) X.env=(false,eval e X.env) :: starEach es X.env:=by rfl) (hplain:(backTo cpos (starEach es X.env)).any (·.1)=false:=by rfl) :
    PE X (.Call (.Attribute o name apos) (e :: es) [] cpos) (tBM K T r to t):=by
  subst hK
  exact pe_bm pa slot hty hm ho ha hbase hfew hline hs hplain
theorem sl_tupK (hK:X.K=K):SlR X (rSlT K):=by subst hK; exact sl_tup
theorem ix_tupK (hK:X.K=K):IxR X (rIxT K):=by subst hK; exact ix_tup
theorem call_len_seqK (hK:X.K=K):CallR X (.builtin "len") (fun xs H Q=>∃ p ys,xs=[.ref p]∧(SqL K H p ys∨SqT K H p ys)∧Q (.int ys.length) H):=by subst hK; exact call_len_seq
theorem call_isinstK (hK:X.K=K):CallR X (.builtin "isinstance") (fun xs H Q=>∃ x n t b,xs=[x,.ty n]∧TyOf K H x t∧PySem.W.kitOne K t (.type n)=some b∧Q (.bl b) H):=by subst hK; exact call_isinst
end
end L2
set_option Elab.async false
set_option linter.all false
set_option maxRecDepth 100000
set_option maxHeartbeats 4000000
namespace L2
open PySem PySem.Spec PyProof.Rows
section
variable {κ:Type} [DecidableEq κ]
def valV (kvs:List (κ × V)) (k:κ):Option V:=(kvs.find? fun kv=>decide (kv.1=k)).map (·.2)
def putK (kvs:List (κ × V)) (k:κ) (v:V):List (κ × V) :=
  if (kvs.any fun kv=>decide (kv.1=k))=true then kvs.map (fun kv=>if kv.1=k then (kv.1,v) else kv) else kvs++[(k,v)]
def dropK (kvs:List (κ × V)) (k:κ):List (κ × V):=kvs.filter fun kv=>decide (kv.1≠k)
theorem valV_pos {p:κ × V} {r:List (κ × V)} {k:κ} (e:p.1=k):valV (p :: r) k=some p.2:=by simp [valV,List.find?_cons,e]
theorem valV_neg {p:κ × V} {r:List (κ × V)} {k:κ} (e:¬ p.1=k):valV (p :: r) k=valV r k:=by simp [valV,List.find?_cons,e]
theorem valV_any (k:κ):∀ kvs:List (κ × V),(kvs.any fun kv=>decide (kv.1=k))=(valV kvs k).isSome
  | []=>rfl
  | p :: r=>by
    rw [List.any_cons]
    by_cases e:p.1=k
    · simp only [valV_pos e,decide_eq_true e,Bool.true_or,Option.isSome_some]
    · rw [valV_neg e,decide_eq_false e,Bool.false_or]; exact valV_any k r
theorem length_putK (kvs:List (κ × V)) (k:κ) (v:V):(putK kvs k v).length≤kvs.length+1:=by
  unfold putK
  split
  · rw [List.length_map]; omega
  · rw [List.length_append,List.length_cons,List.length_nil]; omega
theorem RelO.isSome_eq {o:Option V} {u:Option Value} (r:RelO o u):o.isSome=u.isSome:=by
  cases o with
  | none=>cases u with
    | none=>rfl
    | some _=>exact (show False from r).elim
  | some _=>cases u with
    | none=>exact (show False from r).elim
    | some _=>rfl
theorem RelO.getD {o:Option V} {u:Option Value} {d:V} {d':Value} (r:RelO o u) (rd:RelV d d'):RelV (o.getD d) (u.getD d'):=by
  cases o with
  | none=>cases u with
    | none=>exact rd
    | some _=>exact (show False from r).elim
  | some _=>cases u with
    | none=>exact (show False from r).elim
    | some _=>exact r
theorem KV.val {kvs:List (κ × V)} {vs:List (κ × Value)} (r:KV kvs vs) (k:κ):RelO (valV kvs k) (valueAt vs k):=by
  unfold KV at r
  induction r with
  | nil=>exact True.intro
  | @cons p q ps qs h t ih =>
    obtain ⟨h1,h2⟩:=h
    by_cases e:p.1=k
    · have e':q.1=k:=h1.symm.trans e
      have b:valueAt (q :: qs) k=some q.2:=by simp [valueAt,List.find?_cons,e']
      rw [valV_pos e,b]; exact h2
    · have e':¬ q.1=k:=fun z=>e (h1.trans z)
      have b:valueAt (q :: qs) k=valueAt qs k:=by simp [valueAt,List.find?_cons,e']
      rw [valV_neg e,b]; exact ih
theorem KV.any {kvs:List (κ × V)} {vs:List (κ × Value)} (r:KV kvs vs) (k:κ):(kvs.any fun kv=>decide (kv.1=k))=vs.any fun kv=>decide (kv.1=k):=by
  unfold KV at r
  induction r with
  | nil=>rfl
  | cons h t ih=>rw [List.any_cons,List.any_cons,ih,h.1]
theorem KV.repl {kvs:List (κ × V)} {vs:List (κ × Value)} (r:KV kvs vs) (k:κ) {y:V} {u:Value} (ry:RelV y u) :
    KV (kvs.map fun kv=>if kv.1=k then (kv.1,y) else kv) (vs.map fun kv=>if kv.1=k then (kv.1,u) else kv):=by
  unfold KV at r ⊢
  induction r with
  | nil=>exact .nil
  | @cons p q ps qs h t ih =>
    rw [List.map_cons,List.map_cons]
    refine .cons ?_ ih
    obtain ⟨h1,h2⟩:=h
    by_cases e:p.1=k
    · rw [if_pos e,if_pos (h1.symm.trans e)]; exact ⟨h1,ry⟩
    · rw [if_neg e,if_neg (fun z=>e (h1.trans z))]; exact ⟨h1,h2⟩
theorem KV.put {kvs:List (κ × V)} {vs:List (κ × Value)} (r:KV kvs vs) (k:κ) {y:V} {u:Value} (ry:RelV y u):KV (putK kvs k y) (stored vs k u):=by
  unfold putK stored
  rw [r.any k]
  by_cases e:(vs.any fun kv=>decide (kv.1=k))=true
  · rw [if_pos e,if_pos e]; exact r.repl k ry
  · rw [if_neg e,if_neg e]; exact Paired.snoc r ⟨rfl,ry⟩
theorem KV.drop {kvs:List (κ × V)} {vs:List (κ × Value)} (r:KV kvs vs) (k:κ):KV (dropK kvs k) (without vs k):=by
  unfold KV at r ⊢
  unfold dropK without
  induction r with
  | nil=>exact .nil
  | @cons p q ps qs h t ih =>
    obtain ⟨h1,h2⟩:=h
    rw [List.filter_cons,List.filter_cons]
    by_cases e:p.1=k
    · have a:¬ decide (p.1≠k)=true:=by simp [e]
      have b:¬ decide (q.1≠k)=true:=by simp [h1.symm.trans e]
      rw [if_neg a,if_neg b]; exact ih
    · have e':¬ q.1=k:=fun z=>e (h1.trans z)
      have a:decide (p.1≠k)=true:=by simp [e]
      have b:decide (q.1≠k)=true:=by simp [e']
      rw [if_pos a,if_pos b]; exact .cons ⟨h1,h2⟩ ih
theorem KV.keys {kvs:List (κ × V)} {vs:List (κ × Value)} (r:KV kvs vs):kvs.map (·.1)=vs.map (·.1):=by
  unfold KV at r
  induction r with
  | nil=>rfl
  | cons h t ih=>rw [List.map_cons,List.map_cons,ih,h.1]
theorem KV.length {kvs:List (κ × V)} {vs:List (κ × Value)} (r:KV kvs vs):kvs.length=vs.length:=Paired.length r
end
theorem kV_is {P:Program} {w:World} {k:Key} {u:Value} (r:RelV (kV k) u):(mixKind P w).is k u=true:=by
  cases k with
  | inl i=>obtain ⟨t,e⟩:=(show ∃ t,u=Value.int i t from r); subst e; exact mixKind_int P w i t
  | inr x=>obtain ⟨t,e⟩:=(show ∃ t,u=Value.str x t from r); subst e; exact mixKind_str P w x t
theorem items_are {P:Program} {w:World}:∀ {ks:List Key} {us:List Value},Vals (ks.map kV) us→ItemsAre (mixKind P w) ks us
  | [],_,r=>by rw [List.map_nil] at r; cases r; exact .nil
  | k :: ks,_,r=>by
    rw [List.map_cons] at r
    cases r with
    | cons h t=>exact .cons (kV_is h) (items_are t)
abbrev KT (H:Hp):List (List Key × V)→List (List Key × Addr × Value)→Prop:=Paired fun p q=>p.1=q.1∧H q.2.1=some (.tup (p.1.map kV))∧RelV p.2 q.2.2
theorem KT.val {H:Hp} {kvs:List (List Key × V)} {xs:List (List Key × Addr × Value)} (r:KT H kvs xs) (k:List Key):RelO (valV kvs k) ((atKey xs k).map (·.2)):=by
  induction r with
  | nil=>exact True.intro
  | @cons p q ps qs h t ih =>
    obtain ⟨h1,_,h2⟩:=h
    by_cases e:p.1=k
    · have e':q.1=k:=h1.symm.trans e
      have b:atKey (q :: qs) k=some q.2:=by simp [atKey,List.find?_cons,e']
      rw [valV_pos e,b]; exact h2
    · have e':¬ q.1=k:=fun z=>e (h1.trans z)
      have b:atKey (q :: qs) k=atKey qs k:=by simp [atKey,List.find?_cons,e']
      rw [valV_neg e,b]; exact ih
theorem KT.repl {H:Hp} {kvs:List (List Key × V)} {xs:List (List Key × Addr × Value)} (r:KT H kvs xs) (k:List Key) {y:V} {u:Value} (ry:RelV y u) :
    KT H (kvs.map fun kv=>if kv.1=k then (kv.1,y) else kv) (xs.map (putAt k u)):=by
  induction r with
  | nil=>exact .nil
  | @cons p q ps qs h t ih =>
    rw [List.map_cons,List.map_cons]
    refine .cons ?_ ih
    obtain ⟨h1,h2,h3⟩:=h
    unfold putAt
    by_cases e:p.1=k
    · rw [if_pos e,if_pos (h1.symm.trans e)]; exact ⟨h1,h2,ry⟩
    · rw [if_neg e,if_neg (fun z=>e (h1.trans z))]; exact ⟨h1,h2,h3⟩
theorem KT.put {H:Hp} {kvs:List (List Key × V)} {xs:List (List Key × Addr × Value)} (r:KT H kvs xs) (k:List Key) {b:Addr} {y:V} {u:Value} (hb:H b=some (.tup (k.map kV))) (ry:RelV y u) :
    KT H (putK kvs k y) (storedH xs k b u):=by
  have e:(kvs.any fun kv=>decide (kv.1=k))=(atKey xs k).isSome:=by
    rw [valV_any,(r.val k).isSome_eq,Option.isSome_map]
  unfold putK storedH
  rw [e]
  by_cases q:(atKey xs k).isSome=true
  · rw [if_pos q,if_pos q]; exact r.repl k ry
  · rw [if_neg q,if_neg q]; exact Paired.snoc r ⟨rfl,hb,ry⟩
theorem KT.keeps {H H':Hp} {kvs:List (List Key × V)} {xs:List (List Key × Addr × Value)} (r:KT H kvs xs) (ht:∀ b ys,H b=some (.tup ys)→H' b=some (.tup ys)):KT H' kvs xs :=
  Paired.mapP r fun _ _ z=>⟨z.1,ht _ _ z.2.1,z.2.2⟩
section
variable {P:Program} {w:World} {H:Hp} {h:Heap} {a:Addr}
theorem rd_of {u:HO} (ok:HOk P w H h) (e:Rd H a u):ObjOk P w H h a u:=e.ok ok
theorem dk_rd {kvs:List (Key × V)} (ok:HOk P w H h) (e:Rd H a (.dK kvs)):kvs.length≤sizeLine∧(a == sysModules)=false∧∃ vs,KV kvs vs∧h.DictOf (mixKind P w) a vs :=
  show ObjOk P w H h a (.dK kvs) from rd_of ok e
theorem dk_of {kvs:List (Key × V)} (ok:HOk P w H h) (e:H a=some (.dK kvs)):kvs.length≤sizeLine∧(a == sysModules)=false∧∃ vs,KV kvs vs∧h.DictOf (mixKind P w) a vs:=dk_rd ok (.inl e)
theorem key_of {ks:List Key} (ok:HOk P w H h) (e:H a=some (.tup (ks.map kV))):(tupleKind (mixKind P w)).is h ks a:=by
  obtain ⟨_,its,r,o,h1,h2,n,h3⟩:=(show ObjOk P w H h a (.tup (ks.map kV)) from ok a _ e)
  exact ⟨o,its.toArray,n,h1,h2,h3,by simpa using items_are r⟩
theorem dt_rd {kvs:List (List Key × V)} (ok:HOk P w H h) (e:Rd H a (.dT kvs)):kvs.length≤sizeLine∧(a == sysModules)=false ∧
    ∃ xs,KT H kvs xs∧h.DictOfH (tupleKind (mixKind P w)) a xs:=by
  obtain ⟨z,y,xs,r,o,es,ep,h1,h2,h3,h4,h5⟩:=(show ObjOk P w H h a (.dT kvs) from rd_of ok e)
  refine ⟨z,y,xs,r,o,es,ep,h1,h2,h3,h4,fun x hx=>?_,h5⟩
  have all:∀ {l:List (List Key × V)} {m:List (List Key × Addr × Value)},KT H l m→∀ x∈m,(tupleKind (mixKind P w)).is h x.1 x.2.1:=by
    intro l m q
    induction q with
    | nil=>intro x hx; exact nomatch hx
    | @cons p q ps qs hq t ih =>
      intro x hx
      rcases List.mem_cons.mp hx with e | hx
      · subst e
        exact key_of ok (by rw [← hq.1]; exact hq.2.1)
      · exact ih x hx
  exact all r x hx
theorem dt_of {kvs:List (List Key × V)} (ok:HOk P w H h) (e:H a=some (.dT kvs)):kvs.length≤sizeLine∧(a == sysModules)=false ∧
    ∃ xs,KT H kvs xs∧h.DictOfH (tupleKind (mixKind P w)) a xs:=dt_rd ok (.inl e)
end
def DGet (H:Hp) (a:Addr) (y:V) (r:Option V):Prop :=
  (∃ kvs k,Rd H a (.dK kvs)∧y=kV k∧r=valV kvs k)∨∃ kvs k b,Rd H a (.dT kvs)∧y=.ref b∧H b=some (.tup (k.map kV))∧r=valV kvs k
def DPut (H:Hp) (a:Addr) (y v:V) (H':Hp):Prop :=
  (∃ kvs k,H a=some (.dK kvs)∧y=kV k∧kvs.length < sizeLine∧H'=upd H a (.dK (putK kvs k v))) ∨
  ∃ kvs k b,H a=some (.dT kvs)∧y=.ref b∧H b=some (.tup (k.map kV))∧kvs.length < sizeLine∧H'=upd H a (.dT (putK kvs k v))
theorem DGet.k {H:Hp} {a:Addr} {kvs:List (Key × V)} {k:Key} (e:H a=some (.dK kvs)):DGet H a (kV k) (valV kvs k):=.inl ⟨kvs,k,.inl e,rfl,rfl⟩
theorem DGet.t {H:Hp} {a b:Addr} {kvs:List (List Key × V)} {k:List Key} (e:H a=some (.dT kvs)) (eb:H b=some (.tup (k.map kV))):DGet H a (.ref b) (valV kvs k):=.inr ⟨kvs,k,b,.inl e,rfl,eb,rfl⟩
theorem DPut.k {H:Hp} {a:Addr} {kvs:List (Key × V)} {k:Key} {v:V} (e:H a=some (.dK kvs)) (hl:kvs.length < sizeLine):DPut H a (kV k) v (upd H a (.dK (putK kvs k v))):=.inl ⟨kvs,k,e,rfl,hl,rfl⟩
theorem DPut.t {H:Hp} {a b:Addr} {kvs:List (List Key × V)} {k:List Key} {v:V} (e:H a=some (.dT kvs)) (eb:H b=some (.tup (k.map kV))) (hl:kvs.length < sizeLine) :
    DPut H a (.ref b) v (upd H a (.dT (putK kvs k v))):=.inr ⟨kvs,k,b,e,rfl,eb,hl,rfl⟩
section
variable {X:Cx} {pins:List (Addr × Obj)} {σ:St} {H:Hp} {s:Shared} {a:Addr} {y v:V} {u r:Value} {o:Option V} {A:Around} {E:Value→Shared→Prop}
theorem Inv.big (I:Inv X pins σ H s):sysModules < s.heap.objs.size:=by
  have h:mainGlobals < s.heap.objs.size:=(I.mod.glob.keeps I.bk).lt
  exact Nat.lt_trans (by decide) h
theorem d_write {h':Heap} {t':Nat} {ob:HO} (I:Inv X pins σ H s) (mu:Mut (H a)) (hs:Heap.SameBut a s.heap h') (he:∃ q,h'.get? a=some q) (new:ObjOk X.prog X.w (upd H a ob) h' a ob) :
    Inv X pins σ (upd H a ob) { s with heap:=h',toks:=t' } :=
  I.write (x:=a) (e:=a) mu (.inl rfl) (fun b q hb z=>(hs.2 b hb).trans z) he new
theorem dk_new {P:Program} {w:World} {H':Hp} {h':Heap} {kvs:List (Key × V)} {vs:List (Key × Value)} (z:kvs.length≤sizeLine) (hd:(a == sysModules)=false) (rel:KV kvs vs) (dd:h'.DictOf (mixKind P w) a vs) :
    ObjOk P w H' h' a (.dK kvs):=⟨z,hd,vs,rel,dd⟩
theorem d_setItem {H':Hp} {Q:Unit→Shared→Prop} (hu:A.units+1 < cLine) (I:Inv X pins σ H s) (g:DPut H a y v H') (ry:RelV y u) (rv:RelV v r) (h:∀ s',Inv X pins σ H' s'→Q () s') :
    wpAny (model X.prog X.w) A (setItem (.ref a) u r) Q E s:=by
  rcases g with ⟨kvs,k,e,ey,l,eH⟩ | ⟨kvs,k,b,e,ey,eb,l,eH⟩
  · subst ey eH
    obtain ⟨z,hd,vs,rel,dd⟩:=dk_of I.hok e
    have hz:vs.length≤sizeLine:=by rw [← rel.length]; exact z
    have hl:(putK kvs k v).length≤sizeLine:=by have:=length_putK kvs k v; omega
    refine wpAny_setItem_pairs (hsz:=hz) (kV_is ry) dd fun h' dd' hs=>h _ ?_
    have he:∃ q,h'.get? a=some q:=let ⟨q,_,_,hq,_⟩:=dd'; ⟨q,hq⟩
    exact d_write I (by rw [e]; exact True.intro) hs he (dk_new hl hd (rel.put k rv) dd')
  · subst ey eH
    cases (show u=Value.ref b from ry)
    obtain ⟨z,hd,xs,rel,dd⟩:=dt_of I.hok e
    have hz:xs.length≤sizeLine:=by rw [← Paired.length rel]; exact z
    have hl:(putK kvs k v).length≤sizeLine:=by have:=length_putK kvs k v; omega
    refine wpAny_setItem_heap (hsz:=hz) (tupleKind_room_in1 hu) (key_of I.hok eb) dd fun h' dd' hs=>h _ ?_
    obtain ⟨q,es,ep,hq,h2,h3,h4,_,h5⟩:=dd'
    refine d_write I (by rw [e]; exact True.intro) hs ⟨q,hq⟩ ⟨hl,hd,_,(rel.put k eb rv).keeps fun c ys ec=>?_,q,es,ep,hq,h2,h3,h4,h5⟩
    rw [upd_ne (ne_of ec e (fun z=>nomatch z))]
    exact ec
end
section
variable {X:Cx} {pins:List (Addr × Obj)} {σ:St} {H:Hp} {s:Shared} {a:Addr} {kvs:List (Key × V)} {k:Key} {u:Value} {A:Around} {E:Value→Shared→Prop}
end
def sDPut (td ty tv:TE):TS:=fun D σ H=>tv σ H fun v H1=>td σ H1 fun x H2=>ty σ H2 fun y H3=>∃ a H4,x=.ref a∧DPut H3 a y v H4∧D.nx σ H4
section
variable {X:Cx} {o i e value:Expr} {pos pos' tpos:Pos} {td ty tv:TE}
theorem ps_dput (hu:X.A.units+1 < cLine) (ho:PE X o td) (hi:PE X i ty) (hv:PE X value tv) (hs:swapsWith value (some (.Subscript o i pos')) pos.line X.env=pure false) :
    PS X (.Assign [.Subscript o i pos'] value pos) (sDPut td ty tv):=by
  intro pins s σ H D I h
  refine wpAny_Assign_Subscript (thn (hv pins s σ H _ I h) fun r s1 ⟨v,H1,I1,rv,q1⟩=>thn (ho pins s1 σ H1 _ I1 q1) fun u s2 ⟨x,H2,I2,rx,q2⟩=>thn (hi pins s2 σ H2 _ I2 q2) fun iv s3 ⟨y,H3,I3,ry,a,H4,ex,g,q3⟩=>?_) hs
  subst ex
  obtain rfl:u=Value.ref a:=rx
  exact d_setItem hu I3 g ry rv fun s4 I4=>⟨σ,H4,I4,q3⟩
end
theorem dk_empty {P:Program} {w:World} {H:Hp} (h:Heap) (hb:sysModules < h.objs.size):ObjOk P w H (h.push { cls:=.type "dict",data:=.dict #[] }) h.objs.size (.dK []) :=
  ⟨Nat.zero_le _,beq_eq_false_iff_ne.mpr (Ne.symm (Nat.ne_of_lt hb)),[],.nil,Heap.DictOf.new h⟩
def tDNewK:TE:=fun _ H Q=>∀ p,H p=none→Q (.ref p) (upd H p (.dK []))
section
variable {X:Cx} {pos:Pos}
theorem pe_dnewK:PE X (.Dict [] [] pos) tDNewK:=fun pins s σ H Q I h =>
  wpAny_Dict_empty ⟨.ref s.heap.objs.size,_,I.laid (a:=s.heap.objs.size) (o:=.dK []) (t':=s.toks) (fun _ _ q=>Heap.get?_push_of_some _ q) (Nat.le_refl _) (dk_empty s.heap I.big),rfl,h _ (I.hok.fresh (Nat.le_refl _))⟩
end
def mergeK (kvs more:List (Key × V)):List (Key × V):=more.foldl (fun acc kv=>putK acc kv.1 kv.2) kvs
theorem KV.merge:∀ {more:List (Key × V)} {rs:List (Key × Value)} {kvs:List (Key × V)} {vs:List (Key × Value)},KV more rs→KV kvs vs→KV (mergeK kvs more) (merged vs rs):=by
  intro more rs kvs vs r
  unfold KV at r
  induction r generalizing kvs vs with
  | nil=>intro q; exact q
  | @cons p q ps qs h t ih =>
    intro r0
    have e:KV (putK kvs p.1 p.2) (stored vs q.1 q.2):=by
      have:=r0.put p.1 h.2
      rw [← h.1]; exact this
    exact ih e
structure M1 (X:Cx) (o:Expr) (m:Str) (apos:Pos) (e:Expr) (cpos:Pos):Prop where
  base:attributeBase o m X.env (eval o X.env)=eval o X.env
  few:((backTo cpos (starEach [e] X.env)).all (fun x=>!x.1) && (backToKw cpos (keywordEach [] X.env)).all (fun x=>x.1.isSome)
    && decide (([e]:List Expr).length+([]:List Keyword).length+(if ([]:List Keyword).isEmpty then 0 else 1) < 30))=true
  line:(apos.endLine == cpos.line)=true
  trees:backTo cpos (starEach [e] X.env)=[(false,eval e X.env)]
structure M2 (X:Cx) (o:Expr) (m:Str) (apos:Pos) (e f:Expr) (cpos:Pos):Prop where
  base:attributeBase o m X.env (eval o X.env)=eval o X.env
  few:((backTo cpos (starEach [e,f] X.env)).all (fun x=>!x.1) && (backToKw cpos (keywordEach [] X.env)).all (fun x=>x.1.isSome)
    && decide (([e,f]:List Expr).length+([]:List Keyword).length+(if ([]:List Keyword).isEmpty then 0 else 1) < 30))=true
  line:(apos.endLine == cpos.line)=true
  trees:backTo cpos (starEach [e,f] X.env)=[(false,eval e X.env),(false,eval f X.env)]
section
variable {X:Cx} {pins:List (Addr × Obj)} {σ:St} {H:Hp} {s:Shared} {a:Addr} {y d:V} {u r:Value} {o:Option V} {A:Around} {E:Value→Shared→Prop}
end
section
variable {X:Cx} {o e f:Expr} {apos cpos:Pos} {td ty tx:TE}
end
section
variable {X:Cx} {pins:List (Addr × Obj)} {σ:St} {H:Hp} {s:Shared} {a:Addr} {kvs:List (Key × V)} {A:Around} {E:Value→Shared→Prop}
end
section
variable {X:Cx} {pins:List (Addr × Obj)} {σ:St} {H:Hp} {s:Shared} {a:Addr} {y:V} {u:Value} {A:Around} {E:Value→Shared→Prop}
end
end L2
set_option linter.all false
namespace MD
open PySem
abbrev kwD (d:Value):List (Str × Value):=[(Str.ofString "default",d)]
theorem args_d (a v:Value):argsOk "max" ⟨[a],kwD v⟩:=by
  unfold argsOk kwD
  kernel_rfl
section
variable {prog:Program} {w:World} {A:Around} {R:Result→Shared→Prop} {It:Addr} {fp wr:List Addr} {n:Nat} {Pr:Nat→Value→Prop} {Sx:Nat→Heap→Prop}
theorem nm:(toString "max" ++ toString ".loop" : String) = "max.loop":=by decide
theorem on (W:Walks prog w A.in1 It fp wr n Pr Sx) (bt:Nat→Nat→Bool) (cm:CmpOf prog w A.in1 .Gt Pr bt) (B:Addr) (nB:B ∉ fp) (d:Value) :
    ∀ (k j:Nat) (s:Shared) (best:Value) (c:Nat),n - (j+1)=k→j+1≤n→Sx (j+1) s.heap→Pr (argBest bt j) best →
    s.heap.get? B=some { cls:=.type "list",dict:=none,data:=.seq #[best,best] c,slots:=#[] } →
    (∀ v h' tk,Pr (argBest bt (n - 1)) v→(∀ b o,b ∉ wr→b≠B→s.heap.get? b=some o→h'.get? b=some o)→R (.ok (.ret v)) { s with heap:=h',toks:=tk }) →
    codeAny (model prog w) A (.builtin "max.loop" ⟨[.ref It,.none,.ref B],kwD d⟩) R s:=by
  have nW:B ∉ wr:=fun z=>nB (W.sub _ z)
  intro k
  induction k with
  | zero =>
    intro j s best c ek ej st pb eB fin
    have en:j+1=n:=by omega
    refine codeAny_builtin PySem.F.entry_max_loop ?_
    rw [Around.under_plainId (PySem.F.plain_max_loop) _]
    show wpAny _ A.in1 (seqItems? (.ref B) >>= _) _ _ s
    refine wpAny_bind (wpAny_seqItems eB rfl ?_)
    show wpAny _ A.in1 (tryCatch (pyNext (.ref It)) _ >>= _) _ _ s
    refine wpAny_bind (wpAny_tryCatch (W.done s _ _ (en ▸ st) fun h' tk kp=>?_))
    have eB':=kp B _ nW eB
    show wpAny _ A.in1 (updateSeq B (fun _=>#[]) >>= _) _ _ _
    refine wpAny_bind ?_
    refine wpAny_updateSeq eB' rfl (wpAny_bind (wpAny_letGo (wpAny_pure ?_)))
    exact fin best _ tk (by rw [← en]; exact pb) fun b o nb nS e=>(Heap.get?_update_other _ _ (Ne.symm nS)).trans (kp b o nb e)
  | succ k ih =>
    intro j s best c ek ej st pb eB fin
    have lt:j+1 < n:=by omega
    refine codeAny_builtin PySem.F.entry_max_loop ?_
    rw [Around.under_plainId (PySem.F.plain_max_loop) _]
    show wpAny _ A.in1 (seqItems? (.ref B) >>= _) _ _ s
    refine wpAny_bind (wpAny_seqItems eB rfl ?_)
    show wpAny _ A.in1 (tryCatch (pyNext (.ref It)) _ >>= _) _ _ s
    refine wpAny_bind (wpAny_tryCatch (W.item (j+1) s _ _ lt st fun v h' tk pv st' kp=>?_))
    have eB':=kp B _ nW eB
    show wpAny _ A.in1 (tryCatch (holding [v,v] (richCompare .Gt v best >>= _)) _ >>= _) _ _ _
    refine wpAny_bind (wpAny_tryCatch (wpAny_holding (wpAny_bind (cm (j+1) (argBest bt j) v best _ _ _ pv pb ?_))))
    refine wpAny_bind (wpAny_holding (wpAny_truthy_bool ?_))
    refine wpAny_bind (wpAny_letGo (wpAny_pure ?_))
    cases eb:bt (j+1) (argBest bt j) with
    | true =>
      rw [if_pos rfl]
      refine wpAny_bind ?_
      refine wpAny_updateSeq eB' rfl (wpAny_bind (wpAny_letGo ?_))
      rw [nm]
      refine wpAny_pure ⟨plainId_quiet PySem.F.plain_max_loop _,ih (j+1) _ v _ (by omega) lt (W.frame _ _ _ st' fun b bf o e=>?_) (by simp only [argBest,eb,if_true]; exact pv) (Heap.get?_update_self _ eB' rfl) fun v' h2 tk2 pv' kp2=>?_⟩
      · exact (Heap.get?_update_other _ _ (fun z:B=b=>nB (by rw [z]; exact bf))).trans e
      · exact fin v' h2 tk2 pv' fun b o nb nS e=>kp2 b o nb nS ((Heap.get?_update_other _ _ (Ne.symm nS)).trans (kp b o nb e))
    | false =>
      rw [if_neg Bool.false_ne_true]
      refine wpAny_bind (wpAny_letGo ?_)
      rw [nm]
      refine wpAny_pure ⟨plainId_quiet PySem.F.plain_max_loop _,ih (j+1) _ best c (by omega) lt st' (by simp only [argBest,eb,Bool.false_eq_true,if_false]; exact pb) eB' fun v' h2 tk2 pv' kp2=>?_⟩
      exact fin v' h2 tk2 pv' fun b o nb nS e=>kp2 b o nb nS (kp b o nb e)
theorem begin_ (W:Walks prog w A.in1 It fp wr n Pr Sx) (bt:Nat→Nat→Bool) (cm:CmpOf prog w A.in1 .Gt Pr bt) (B:Addr) (nB:B ∉ fp) (d:Value) {s:Shared} {c:Nat} (st:Sx 0 s.heap)
    (eB:s.heap.get? B=some { cls:=.type "list",dict:=none,data:=.seq #[] c,slots:=#[] })
    (none_:n=0→∀ h' tk,(∀ b o,b ∉ wr→s.heap.get? b=some o→h'.get? b=some o)→R (.ok (.ret d)) { s with heap:=h',toks:=tk })
    (fin:0 < n→∀ v h' tk,Pr (argBest bt (n - 1)) v→(∀ b o,b ∉ wr→b≠B→s.heap.get? b=some o→h'.get? b=some o)→R (.ok (.ret v)) { s with heap:=h',toks:=tk }) :
    codeAny (model prog w) A (.builtin "max.loop" ⟨[.ref It,.none,.ref B],kwD d⟩) R s:=by
  have nW:B ∉ wr:=fun z=>nB (W.sub _ z)
  refine codeAny_builtin PySem.F.entry_max_loop ?_
  rw [Around.under_plainId (PySem.F.plain_max_loop) _]
  show wpAny _ A.in1 (seqItems? (.ref B) >>= _) _ _ s
  refine wpAny_bind (wpAny_seqItems eB rfl ?_)
  show wpAny _ A.in1 (tryCatch (pyNext (.ref It)) _ >>= _) _ _ s
  by_cases h0:n=0
  · refine wpAny_bind (wpAny_tryCatch (W.done s _ _ (h0 ▸ st) fun h' tk kp=>?_))
    show wpAny _ A.in1 (rule _ >>= _) _ _ _
    exact wpAny_bind (wpAny_rule (wpAny_pure (none_ h0 h' tk kp)))
  · have hn:0 < n:=by omega
    refine wpAny_bind (wpAny_tryCatch (W.item 0 s _ _ hn st fun v h' tk pv st' kp=>?_))
    have eB':=kp B _ nW eB
    show wpAny _ A.in1 (updateSeq B (fun _=>#[v,v]) >>= _) _ _ _
    refine wpAny_bind ?_
    refine wpAny_updateSeq eB' rfl ?_
    rw [nm]
    refine wpAny_pure ⟨plainId_quiet PySem.F.plain_max_loop _,on W bt cm B nB d _ 0 _ v _ rfl hn (W.frame _ _ _ st' fun b bf o e=>?_) pv (Heap.get?_update_self _ eB' rfl) fun v' h2 tk2 pv' kp2=>?_⟩
    · exact (Heap.get?_update_other _ _ (fun z:B=b=>nB (by rw [z]; exact bf))).trans e
    · exact fin hn v' h2 tk2 pv' fun b o nb nS e=>kp2 b o nb nS ((Heap.get?_update_other _ _ (Ne.symm nS)).trans (kp b o nb e))
end
section
variable {prog:Program} {w:World} {A:Around} {E:Value→Shared→Prop} {s:Shared}
theorem tree_kw {id:String} {b:Builtin} {args:List Value} {kw:List (Str × Value)} {Q:Value→Shared→Prop} (h1:builtinKind id=none) (h2:plainId id=true) (h3:entryFor table id=some b) (h4:argsOk id ⟨args,kw⟩)
    (h:wpAny (model prog w) A.in1 (b ⟨args,kw⟩) (fun fin s'=>match fin with
      | .done f=>(match (Except.ok f:Result) with | .ok (.ret v)=>Q v s' | .ok _=>False | .error e=>E e s')
      | .again c'=>c'.quiet=true∧codeAny (model prog w) A c' (fun r s'=>match r with | .ok (.ret v)=>Q v s' | .ok _=>False | .error e=>E e s') s') E s):wpAny (model prog w) A (call (.builtin id) args kw) Q E s:=by
  refine wpAny_call (codeAny_call_builtin h2 h3 ?_)
  simp only [checkBuiltinCall,h1]
  cases e:Manifest.signature? id with
  | none=>exact wpAny_pure h
  | some sg =>
    have h4':Bind.checkArgs id sg ⟨args,kw⟩=pure ():=by simpa only [argsOk,e] using h4
    simp only [h4']
    exact wpAny_pure h
theorem call {x d:Value} {Q:Value→Shared→Prop}
    (h:wpAny (model prog w) A.in1 (pyIter x) (fun it s2=>∃ I fp wr n Pr Sx bt,it=.ref I∧Walks prog w A.in1 I fp wr n Pr Sx∧Sx 0 s2.heap∧(∀ b∈fp,b < s2.heap.objs.size)∧CmpOf prog w A.in1 .Gt Pr bt ∧
      (n=0→∀ h' tk,(∀ b o,b ∉ wr→s2.heap.get? b=some o→h'.get? b=some o)→Q d { s2 with heap:=h',toks:=tk }) ∧
      (0 < n→∀ v h' tk,Pr (argBest bt (n - 1)) v→(∀ b o,b ∉ wr→s2.heap.get? b=some o→h'.get? b=some o)→Q v { s2 with heap:=h',toks:=tk })) E s) :
    wpAny (model prog w) A (PySem.call (.builtin "max") [x] (kwD d)) Q E s:=by
  refine tree_kw PySem.F.kind_max PySem.F.plain_max PySem.F.entry_max (args_d _ _) ?_
  show wpAny _ A.in1 (Builtin.Builtins.bindParams "max" ["key", "default"] 0 ⟨[],kwD d⟩ >>= _) _ _ s
  refine wpAny_bind (wpAny_of_eq (show Builtin.Builtins.bindParams "max" ["key", "default"] 0 ⟨[],kwD d⟩=pure [none,some d] from rfl) ?_)
  refine wpAny_bind (wpAny_pure ?_)
  refine wpAny_bind (wpAny_mono h (fun it s2 h2=>?_) fun _ _ e=>e)
  obtain ⟨I,fp,wr,n,Pr,Sx,bt,rfl,W,st,hf,cm,q0,q1⟩:=h2
  refine wpAny_bind (wpAny_newObj_type ?_)
  have nB:s2.heap.objs.size ∉ fp:=fun z=>Nat.lt_irrefl _ (hf _ z)
  rw [nm]
  refine wpAny_pure ⟨plainId_quiet PySem.F.plain_max_loop _,begin_ W bt cm s2.heap.objs.size nB d (W.frame _ _ _ st fun b _ o e=>Heap.get?_push_of_some _ e) (Heap.get?_push_size _ rfl) (fun z h' tk kp=>?_) fun z v h' tk pv kp=>?_⟩
  · exact q0 z h' tk fun b o nb e=>kp b o nb (Heap.get?_push_of_some _ e)
  · exact q1 z v h' tk pv fun b o nb e=>kp b o nb (Nat.ne_of_lt (Heap.lt_size e)) (Heap.get?_push_of_some _ e)
end
end MD
set_option linter.all false
namespace MQ
open PySem
theorem no_keys:typeLookup (.type "list") "keys" = pure none:=am_miss_of_fast (by decide +kernel)
theorem ask {prog:Program} {w:World} {A:Around} {E:Value→Shared→Prop} {s:Shared} {a:Addr} {xs:Array Value} {k:Nat} {sl:Array (Option Value)} {Q:Option Value→Shared→Prop}
    (hx:s.heap.get? a=some { cls:=.type "list",dict:=none,data:=.seq xs k,slots:=sl }) (hA:A.handled=none)
    (h:∀ h' tk,(∀ b o,s.heap.get? b=some o→h'.get? b=some o)→Q none { s with heap:=h',toks:=tk }):wpAny (model prog w) A (getAttr? (.ref a) "keys") Q E s:=by
  obtain ⟨hp,g,d,tk,os⟩:=s
  have ty:∀ tk',(⟨hp,g,d,tk',os⟩:Shared).TypeIs (.ref a) "list":=fun _=>⟨_,hx,rfl⟩
  have f1:=sub_AttributeError
  have f3:=PySem.F.slot_list_getattribute.lookup
  have f4:=PySem.F.slot_list_getattribute.bind (.ref a)
  have f5:=am_list_getattr_none
  unfold getAttr? getAttrBy? getAttrBy
  repeat (any_goals (first | assumption | exact ty _ | ((with_reducible show wpAny _ _ (PySem.call (Value.builtin "list.__getattribute__") _ _) _ _ _); refine call_meets PySem.F.slot_list_getattribute (ty _) am_entry_list_getattribute (PySem.F.args_list_getattribute_2 _ _) (meets_getattribute_miss_list a xs k sl "keys" _ no_keys (by decide +kernel) (by decide +kernel)) ⟨hx,hA,fun h' tk' e ne=>?_⟩) | wp_step))
  obtain ⟨t',u',he⟩:=ne.there
  show wpAny _ _ (getattributeRaised _ _ _ _ _ _ _) _ _ _
  unfold getattributeRaised
  repeat (any_goals (first | assumption | wp_step))
  exact h _ _ ne.keeps
end MQ
set_option linter.all false
namespace DP
open PySem
section
variable {prog:Program} {w:World} {K:Type} [DecidableEq K] {knd:KeyKind prog w K} {A:Around} {R:Result→Shared→Prop} {It:Addr} {fp wr:List Addr} {n:Nat} {Pr:Nat→Value→Prop} {Sx:Nat→Heap→Prop}
end
end DP
set_option linter.all false
namespace DP
open PySem
section
variable {prog:Program} {w:World} {K:Type} [DecidableEq K] {knd:KeyKind prog w K} {A:Around} {E:Value→Shared→Prop} {s:Shared}
end
end DP
set_option Elab.async false
set_option linter.all false
set_option maxRecDepth 100000
set_option maxHeartbeats 4000000
namespace L2
open PySem PySem.Spec PyProof.Rows
theorem vals_of {xs:List V}:∀ {us:List Value},xs.length=us.length→(∀ (i:Nat) (x:V) (u:Value),xs[i]?=some x→us[i]?=some u→RelV x u)→Vals xs us:=by
  induction xs with
  | nil =>
    intro us hl _
    cases us with
    | nil=>exact .nil
    | cons u us=>cases hl
  | cons x xs ih =>
    intro us hl h
    cases us with
    | nil=>cases hl
    | cons u us=>exact .cons (h 0 x u rfl rfl) (ih (by simpa using hl) fun i y v e1 e2=>h (i+1) y v (by simpa using e1) (by simpa using e2))
theorem rel_key {k:Key} {v:Value} (h:keyIs k v=true):RelV (kV k) v:=by
  rcases keyIs_shape h with ⟨i,t,rfl,rfl⟩ | ⟨x,t,rfl,rfl⟩
  · exact ⟨t,rfl⟩
  · exact ⟨t,rfl⟩
theorem KV.at_ {κ:Type} {kvs:List (κ × V)} {vs:List (κ × Value)} (r:KV kvs vs):∀ (i:Nat) (p:κ × Value),vs[i]?=some p→∃ q:κ × V,kvs[i]?=some q∧q.1=p.1∧RelV q.2 p.2:=by
  induction r with
  | nil=>intro i p h; simp at h
  | cons h1 h2 ih =>
    intro i p h
    cases i with
    | zero =>
      simp at h
      subst h
      exact ⟨_,rfl,h1⟩
    | succ i=>simpa using ih i p (by simpa using h)
theorem call_list_dict {X:Cx} (hc:X.calm=true):CallR X (.type "list") (fun xs H Q=>∃ (p:Addr) (kvs:List (Key × V)),xs=[.ref p]∧H p=some (.dK kvs)∧∀ l,H l=none→Q (.ref l) (upd H l (.lst (kvs.map fun kv=>kV kv.1)))):=by
  intro pins s σ H xs us Q I r h
  obtain ⟨p,kvs,rfl,hp,q⟩:=h
  obtain ⟨u,rfl,rx⟩:=vals1 r
  cases rx
  obtain ⟨hz,lo,vs,rel,dd⟩:=dk_of I.hok hp
  obtain ⟨ep,da⟩:=dd.dictAt
  have hl:vs.length=kvs.length:=rel.length.symm
  refine PySem.W.kdl_call (PySem.W.kdl_dict lo) (I.ok.hd hc) da (by rw [hl]; exact hz) fun h' tk acc c kp e it=>?_
  have va:Vals (kvs.map fun kv=>kV kv.1) acc.toList:=by
    refine vals_of (by rw [List.length_map,← hl,← it.1]; exact Array.length_toList.symm) fun i x u hx hu=>?_
    obtain ⟨k,y,hk,hi⟩:=it.2 i u (by simpa using hu)
    obtain ⟨q',hq,e1,_⟩:=rel.at_ i (k,y) hk
    rw [List.getElem?_map,hq] at hx
    cases hx
    show RelV (kV q'.1) u
    rw [e1]
    exact rel_key hi
  exact ⟨.ref s.heap.objs.size,_,I.laid (t':=tk) kp (Nat.le_refl _) (show ObjOk X.prog X.w _ h' _ (.lst _) from ⟨by rw [List.length_map]; exact hz,acc.toList,c,va,by rw [Array.toArray_toList]; exact e⟩),rfl,q _ I.fresh⟩
def Prs (H:Hp):List V→List (Key × V)→Prop:=Paired fun v kv=>∃ p:Addr,v=.ref p∧H p=some (.tup [kV kv.1,kv.2])
theorem Prs.same {H H':Hp} (e:Same H H') {vs:List V} {kvs:List (Key × V)} (h:Prs H vs kvs):Prs H' vs kvs:=Paired.mapP h fun _ _ ⟨p,a,b⟩=>⟨p,a,e _ _ b⟩
theorem Prs.snoc {H:Hp} {v:V} {kv:Key × V} (hv:∃ p:Addr,v=.ref p∧H p=some (.tup [kV kv.1,kv.2])):∀ {vs:List V} {kvs:List (Key × V)},Prs H vs kvs→Prs H (vs++[v]) (kvs++[kv])
  | _,_,.nil=>.cons hv .nil
  | _,_,.cons h r=>.cons h (Prs.snoc hv r)
theorem Prs.len {H:Hp} {vs:List V} {kvs:List (Key × V)} (h:Prs H vs kvs):vs.length=kvs.length:=Paired.length h
theorem Prs.at_ {H:Hp} {vs:List V} {kvs:List (Key × V)} (r:Prs H vs kvs):∀ (i:Nat) (v:V),vs[i]?=some v→∃ (kv:Key × V) (p:Addr),kvs[i]?=some kv∧v=.ref p∧H p=some (.tup [kV kv.1,kv.2]):=by
  induction r with
  | nil=>intro i p h; simp at h
  | cons h1 h2 ih =>
    intro i v h
    cases i with
    | zero =>
      simp at h
      subst h
      obtain ⟨p,a,b⟩:=h1
      exact ⟨_,p,rfl,a,b⟩
    | succ i=>simpa using ih i v (by simpa using h)
end L2
set_option Elab.async false
set_option linter.all false
set_option maxRecDepth 100000
set_option maxHeartbeats 4000000
namespace L2
open PySem PySem.Spec PyProof.Rows
theorem pre_sub (y z:Str) (i:Nat) (hi:i≤y.length):(decide (i+z.length≤y.length) && Builtin.Str.subAt y z i)=z.cps.toList.isPrefixOf (y.cps.toList.drop i):=by
  rw [Bool.eq_iff_iff,List.isPrefixOf_iff_prefix,List.prefix_iff_eq_take,Bool.and_eq_true,decide_eq_true_eq]
  unfold Builtin.Str.subAt
  have hz:z.cps.toList.length=z.length:=by simp [Str.length]
  have hy:y.cps.toList.length=y.length:=by simp [Str.length]
  have e:(y.cps.extract i (i+z.length)).toList=(y.cps.toList.drop i).take z.length:=by
    rw [Array.toList_extract,List.extract_eq_take_drop]
    congr 1
    omega
  rw [beq_iff_eq]
  constructor
  · rintro ⟨_,h⟩
    rw [hz,← e,h]
  · intro h
    rw [hz] at h
    refine ⟨?_,?_⟩
    · have:=congrArg List.length h
      rw [List.length_take,List.length_drop,hz,hy] at this
      omega
    · apply Array.toList_inj.mp
      rw [e]
      exact h.symm
theorem mt_starts {X:Cx}:MtR X "str.startswith" (fun x xs H Q=>∃ (y z:Str) (i:Nat),x=.str y∧xs=[.str z,.int (i:Nat)]∧i≤y.length∧Q (.bl (z.cps.toList.isPrefixOf (y.cps.toList.drop i))) H):=by
  intro pins s σ H x xs v us Q I rx r h
  obtain ⟨y,z,i,rfl,rfl,hi,q⟩:=h
  obtain ⟨t,rfl⟩:=rx
  obtain ⟨u,u',rfl,⟨t1,rfl⟩,⟨t2,rfl⟩⟩:=vals2 r
  refine SC.startswith3 ?_
  have e:Txt.startswith3 y z (i:Int)=z.cps.toList.isPrefixOf (y.cps.toList.drop i):=by
    have ef:fromIndex y.length (i:Int)=i:=by
      unfold fromIndex
      rw [if_neg (by omega)]
      omega
    unfold Txt.startswith3
    rw [ef]
    exact pre_sub y z i hi
  rw [e]
  exact ⟨.bl _,H,I,rfl,q⟩
theorem call_max3 {X:Cx} (hc:X.calm=true):CallR X (.builtin "max") (fun xs H Q=>∃ i j k:Int,xs=[.int i,.int j,.int k]∧Q (.int (max (max i j) k)) H):=by
  intro pins s σ H xs us Q I r h
  obtain ⟨i,j,k,rfl,q⟩:=h
  cases r with
  | cons r1 r =>
    obtain ⟨u,u',rfl,⟨t2,rfl⟩,⟨t3,rfl⟩⟩:=vals2 r
    obtain ⟨t1,rfl⟩:=r1
    refine max_three_ints (I.ok.hd hc) fun h' tk kp=>?_
    have e:∃ t,(if j > i then (if k > j then Value.int k t3 else .int j t2) else (if k > i then .int k t3 else .int i t1))=.int (max (max i j) k) t:=by
      by_cases h1:j > i
      · rw [if_pos h1]
        by_cases h2:k > j
        · rw [if_pos h2]
          exact ⟨t3,by congr 1; omega⟩
        · rw [if_neg h2]
          exact ⟨t2,by congr 1; omega⟩
      · rw [if_neg h1]
        by_cases h2:k > i
        · rw [if_pos h2]
          exact ⟨t3,by congr 1; omega⟩
        · rw [if_neg h2]
          exact ⟨t1,by congr 1; omega⟩
    obtain ⟨t,e⟩:=e
    rw [e]
    exact ⟨.int _,H,I.kept (t':=tk) kp,⟨_,rfl⟩,q⟩
theorem ints_at {ns:List Int} {its:List Value} (r:Vals (ns.map V.int) its) {i:Nat} {v:Value} (h:its.toArray[i]?=some v):∃ t,v=.int (ns.getD i 0) t:=by
  have h':its[i]?=some v:=by simpa using h
  have hl:=r.length
  have hi:i < its.length:=(List.getElem?_eq_some_iff.mp h').1
  have hb:i < ns.length:=by rw [List.length_map] at hl; omega
  obtain ⟨u,hu,ru⟩:=r.get (i:=i) (x:=V.int ns[i]) (by rw [List.getElem?_map,List.getElem?_eq_getElem hb]; rfl)
  rw [h'] at hu
  cases hu
  obtain ⟨t,rfl⟩:=ru
  refine ⟨t,?_⟩
  rw [List.getD_eq_getElem?_getD,List.getElem?_eq_getElem hb]
  rfl
theorem foldr_max_le {ns:List Int} {m:Int} (h0:0≤m) (h:∀ n∈ns,n≤m):ns.foldr max 0≤m:=by
  induction ns with
  | nil=>exact h0
  | cons a r ih =>
    have h1:=h a List.mem_cons_self
    have h2:=ih fun n hn=>h n (List.mem_cons_of_mem _ hn)
    show max a (r.foldr max 0)≤m
    omega
theorem le_foldr_max {ns:List Int} {n:Int} (h:n∈ns):n≤ns.foldr max 0:=by
  induction ns with
  | nil=>cases h
  | cons a r ih =>
    show n≤max a (r.foldr max 0)
    rcases List.mem_cons.mp h with rfl | h
    · omega
    · have:=ih h; omega
def tMaxD (K:PySem.W.Frag) (te:TE):TE:=fun σ H Q=>te σ H fun x H1=>∃ (l:Addr) (ns:List Int),x=.ref l∧SqL K H1 l (ns.map V.int)∧(∀ n∈ns,0≤n)∧Q (.int (ns.foldr max 0)) H1
theorem pe_maxD {X:Cx} {e:Expr} {te:TE} {p pos cpos kpos:Pos} {j:Nat} (hc:X.calm=true) (hm:X.mg "max" = none) (hg:Gl X "max") (he:PE X e te)
    (hs:backTo pos (starEach [e] X.env)=(false,eval e X.env) :: backTo pos (starEach [] X.env):=by rfl) (hpl:(backTo pos (starEach [e] X.env)).any (·.1)=false:=by rfl)
    (hs':starEach (e :: []) X.env=(false,eval e X.env) :: starEach [] X.env:=by rfl) :
    PE X (.Call (.Name "max" p) [e] [⟨some "default",.Constant (.int 0) j cpos,kpos⟩] pos) (tMaxD X.K te):=by
  intro pins s σ H Q I h
  refine wpAny_Call_Name_kw (ld_blt I hg hm boot_max ?_)
  let Qm:List V→Hp→Prop:=fun vs H1=>match vs with
    | [x]=>∃ (l:Addr) (ns:List Int),x=.ref l∧SqL X.K H1 l (ns.map V.int)∧(∀ n∈ns,0≤n)∧Q (.int (ns.foldr max 0)) H1
    | _=>False
  have h':tCons te tNil σ H Qm:=h
  refine callWith_kw (thn (pa_cons he pa_nil hs' pos pins s σ H Qm I h') fun us s1 ⟨vs,H1,I1,r1,q1⟩=>?_) hs hpl
  refine thn (pk_cons (nm:=some "default") (kpos:=kpos) (pe_int (j:=j) (pos:=cpos)) pk_nil pos pins s1 σ H1 (fun zs H2=>zs=[V.int 0]∧H2=H1) I1 ⟨rfl,rfl⟩) fun ws s2 ⟨zs,H2,I2,rz,ez,eH⟩=>?_
  subst ez
  subst eH
  obtain ⟨w0,rfl,⟨t0,rfl⟩⟩:=vals1 rz
  match vs,r1,q1 with
  | [x],r1,q1 =>
    obtain ⟨u0,rfl,r⟩:=vals1 r1
    obtain ⟨l,ns,rfl,hq,hn,q⟩:=q1
    cases r
    obtain ⟨its,rv,pl,hz⟩:=I2.list hq
    have hl:=rv.length
    rw [List.length_map] at hl
    have hd:X.A.in1.handled=none:=I2.ok.hd hc
    show wpAny _ _ (PySem.call (.builtin "max") [.ref l] (MD.kwD (.int 0 t0))) _ _ _
    refine MD.call (wpAny_pyIter_list pl.isList ?_)
    obtain ⟨o,n,eo,_⟩:=id pl
    have ll:l < s2.heap.objs.size:=Heap.lt_size eo
    have I3:Inv X pins σ H2 { s2 with heap:=s2.heap.push { cls:=.type "list_iterator",data:=.fields #[.ref l,.int 0 0] } }:=I2.kept (t':=s2.toks) fun b o q=>Heap.get?_push_of_some _ q
    obtain ⟨f0,f1,f2,f3,f4,f5⟩:=I2.fpOk (b:=s2.heap.objs.size) (Nat.le_refl _) I2.fresh
    have ev:its.toArray.size=ns.length:=by rw [List.size_toArray,hl]
    refine ⟨s2.heap.objs.size,_,_,_,_,_,fun i k=>decide (ns.getD i 0 > ns.getD k 0),rfl,Walks.list hd s2.heap.objs.size l (Nat.ne_of_lt ll) its.toArray,⟨⟨_,Heap.get?_push_size _ rfl,rfl,rfl⟩,pl.isList.push _⟩,fun b hb=>?_,CmpOf.ints_gt (fun i=>ns.getD i 0) (fun i v hv=>ints_at rv hv),fun z h' tk kp=>?_,fun z v h' tk hv kp=>?_⟩
    · show b < (s2.heap.push _).objs.size
      rw [Heap.size_push]
      rcases List.mem_cons.mp hb with rfl | hb
      · exact Nat.lt_succ_self _
      · rw [List.mem_singleton.mp hb]
        exact Nat.lt_succ_of_lt ll
    · have en:ns=[]:=List.eq_nil_of_length_eq_zero (by rw [← ev]; exact z)
      subst en
      exact ⟨.int 0,H2,I3.turned (it:=s2.heap.objs.size) (fun b o hb e=>kp b o (by simpa using hb) e) f0 f1 f3 f4 f5,⟨_,rfl⟩,q⟩
    · obtain ⟨t,rfl⟩:=ints_at rv hv
      obtain ⟨b1,b2⟩:=argBest_gt (fun i=>ns.getD i 0) (its.toArray.size - 1)
      generalize hk:argBest (fun i k=>decide (ns.getD i 0 > ns.getD k 0)) (its.toArray.size - 1)=k at *
      have hkl:k < ns.length:=by omega
      have ek:ns.getD k 0=ns[k]:=by rw [List.getD_eq_getElem?_getD,List.getElem?_eq_getElem hkl]; rfl
      have em:ns.foldr max 0=ns.getD k 0:=by
        have h1:ns.foldr max 0≤ns.getD k 0:=foldr_max_le (by rw [ek]; exact hn _ (List.getElem_mem hkl)) fun n hn'=>by
          obtain ⟨i,hi,ei⟩:=List.getElem_of_mem hn'
          have:=b2 i (by omega)
          have ei':ns.getD i 0=n:=by rw [List.getD_eq_getElem?_getD,List.getElem?_eq_getElem hi,← ei]; rfl
          rw [ei'] at this
          exact this
        have h2:ns.getD k 0≤ns.foldr max 0:=by rw [ek]; exact le_foldr_max (List.getElem_mem hkl)
        omega
      rw [em] at q
      exact ⟨.int _,H2,I3.turned (it:=s2.heap.objs.size) (fun b o hb e=>kp b o (by simpa using hb) e) f0 f1 f3 f4 f5,⟨_,rfl⟩,q⟩
end L2
set_option linter.all false
namespace M08
def lng (t:List Nat):List (List Nat)→Nat
  | []=>0
  | c :: cs=>max (if c.isPrefixOf t=true then c.length else 0) (lng t cs)
theorem lng_le (t:List Nat):∀ cs,lng t cs≤t.length
  | []=>Nat.zero_le _
  | c :: cs=>by
    have ih:=lng_le t cs
    unfold lng
    split
    · rename_i h
      have:=(List.isPrefixOf_iff_prefix.mp h).length_le
      omega
    · omega
theorem lng_at {t:List Nat} {cs:List (List Nat)} (h:lng t cs≠0):t.take (lng t cs)∈cs:=by
  induction cs with
  | nil=>exact absurd rfl h
  | cons d cs ih =>
    unfold lng at h ⊢
    split at h
    · rename_i hp
      rw [if_pos hp]
      have hd:d=t.take d.length:=List.prefix_iff_eq_take.mp (List.isPrefixOf_iff_prefix.mp hp)
      by_cases hm:lng t cs≤d.length
      · rw [Nat.max_eq_left hm,← hd]
        exact List.mem_cons_self
      · rw [Nat.max_eq_right (by omega)]
        exact List.mem_cons_of_mem _ (ih (by omega))
    · rename_i hp
      rw [if_neg hp,Nat.max_eq_right (Nat.zero_le _)]
      exact List.mem_cons_of_mem _ (ih (by omega))
def ended (ms ks:List (List Nat)) (t:List Nat):Nat:=if lng t ks=0 then lng t ms else 0
def stepN (ms ks:List (List Nat)) (t:List Nat):Nat:=max (max (lng t ks) (ended ms ks t)) 1
def cutN (ms ks:List (List Nat)):Nat→List Nat→List Nat→List (List Nat)
  | _,acc,[]=>if acc=[] then [] else [acc]
  | 0,_,_ :: _=>[]
  | n+1,acc,c :: r =>
    if ended ms ks (c :: r)=0 then cutN ms ks n (acc++(c :: r).take (stepN ms ks (c :: r))) ((c :: r).drop (stepN ms ks (c :: r)))
    else (acc++(c :: r).take (stepN ms ks (c :: r))) :: cutN ms ks n [] ((c :: r).drop (stepN ms ks (c :: r)))
theorem stepN_pos (ms ks:List (List Nat)) (t:List Nat):1≤stepN ms ks t:=Nat.le_max_right _ _
theorem ended_le (ms ks:List (List Nat)) (t:List Nat):ended ms ks t≤t.length:=by
  unfold ended
  split
  · exact lng_le _ _
  · exact Nat.zero_le _
theorem stepN_le {ms ks:List (List Nat)} {t:List Nat} (h:t≠[]):stepN ms ks t≤t.length:=by
  unfold stepN
  have h1:=lng_le t ks
  have h2:=ended_le ms ks t
  have h3:1≤t.length:=List.length_pos_iff.mpr h
  omega
theorem cutN_fuel (ms ks:List (List Nat)):∀ (n m:Nat) (acc t:List Nat),t.length≤n→t.length≤m→cutN ms ks n acc t=cutN ms ks m acc t
  | n,m,acc,[],_,_=>by simp only [cutN]
  | 0,_,_,_ :: _,h,_=>by simp at h
  | _+1,0,_,_ :: _,_,h=>by simp at h
  | n+1,m+1,acc,c :: r,hn,hm=>by
    have h1:=stepN_pos ms ks (c :: r)
    have hl:((c :: r).drop (stepN ms ks (c :: r))).length≤r.length:=by
      rw [List.length_drop,List.length_cons]; omega
    have hn':r.length≤n:=by simpa using hn
    have hm':r.length≤m:=by simpa using hm
    simp only [cutN]
    rw [cutN_fuel ms ks n m _ _ (by omega) (by omega),cutN_fuel ms ks n m _ _ (by omega) (by omega)]
def cut (ms ks:List (List Nat)) (acc t:List Nat):List (List Nat):=cutN ms ks t.length acc t
theorem cut_nil (ms ks:List (List Nat)) (acc:List Nat):cut ms ks acc []=if acc=[] then [] else [acc]:=rfl
theorem cut_on {ms ks:List (List Nat)} {acc t:List Nat} (h:t≠[]) (he:ended ms ks t=0):cut ms ks acc t=cut ms ks (acc++t.take (stepN ms ks t)) (t.drop (stepN ms ks t)):=by
  cases t with
  | nil=>exact absurd rfl h
  | cons c r =>
    unfold cut
    have h1:=stepN_pos ms ks (c :: r)
    have e:(c :: r).length=r.length+1:=rfl
    rw [e]
    simp only [cutN]
    rw [if_pos he]
    exact cutN_fuel ms ks _ _ _ _ (by rw [List.length_drop,List.length_cons]; omega) (Nat.le_refl _)
theorem cut_end {ms ks:List (List Nat)} {acc t:List Nat} (h:t≠[]) (he:ended ms ks t≠0):cut ms ks acc t=(acc++t.take (stepN ms ks t)) :: cut ms ks [] (t.drop (stepN ms ks t)):=by
  cases t with
  | nil=>exact absurd rfl h
  | cons c r =>
    unfold cut
    have h1:=stepN_pos ms ks (c :: r)
    have e:(c :: r).length=r.length+1:=rfl
    rw [e]
    simp only [cutN]
    rw [if_neg he]
    exact congrArg _ (cutN_fuel ms ks _ _ _ _ (by rw [List.length_drop,List.length_cons]; omega) (Nat.le_refl _))
theorem cut_le (ms ks:List (List Nat)):∀ (n:Nat) (acc t:List Nat),t.length≤n→(cut ms ks acc t).length≤t.length+1∧(acc=[]→(cut ms ks acc t).length≤t.length)∧∀ p∈cut ms ks acc t,p≠[]∧p.length≤acc.length+t.length
  | n,acc,[],_=>by
    rw [cut_nil]
    split
    · exact ⟨Nat.zero_le _,fun _=>Nat.zero_le _,fun p hp=>by cases hp⟩
    · rename_i h
      refine ⟨Nat.le_refl _,fun z=>absurd z h,fun p hp=>?_⟩
      have:p=acc:=by simpa using hp
      subst this
      exact ⟨h,by simp⟩
  | 0,_,_ :: _,h=>by simp at h
  | n+1,acc,c :: r,hn=>by
    have h1:=stepN_pos ms ks (c :: r)
    have h2:stepN ms ks (c :: r)≤(c :: r).length:=stepN_le (by simp)
    have hr:r.length≤n:=by simpa using hn
    have hl:((c :: r).drop (stepN ms ks (c :: r))).length=(c :: r).length - stepN ms ks (c :: r):=List.length_drop
    have ht:((c :: r).take (stepN ms ks (c :: r))).length=stepN ms ks (c :: r):=by rw [List.length_take]; omega
    have e:(c :: r).length=r.length+1:=rfl
    by_cases he:ended ms ks (c :: r)=0
    · rw [cut_on (by simp) he]
      obtain ⟨a1,a2,a3⟩:=cut_le ms ks n (acc++(c :: r).take (stepN ms ks (c :: r))) ((c :: r).drop (stepN ms ks (c :: r))) (by omega)
      refine ⟨by omega,fun z=>by omega,fun p hp=>?_⟩
      have:=a3 p hp
      rw [List.length_append] at this
      exact ⟨this.1,by omega⟩
    · rw [cut_end (by simp) he]
      obtain ⟨a1,a2,a3⟩:=cut_le ms ks n [] ((c :: r).drop (stepN ms ks (c :: r))) (by omega)
      have a2':=a2 rfl
      refine ⟨by rw [List.length_cons]; omega,fun z=>by rw [List.length_cons]; omega,fun p hp=>?_⟩
      rcases List.mem_cons.mp hp with rfl | hp
      · refine ⟨fun z=>?_,by rw [List.length_append]; omega⟩
        have:=congrArg List.length z
        rw [List.length_append,ht] at this
        simp at this
        omega
      · have:=a3 p hp
        exact ⟨this.1,by have:=this.2; simp at this; simp only [List.length_cons]; omega⟩
end M08
set_option linter.all false
namespace SLi
open PySem
theorem clip (a b n:Nat):Builtin.Str.strSliceIndices (some (a:Int)) (some (b:Int)) 1 n=Builtin.Str.strSliceIndices (some ((min a n:Nat):Int)) (some ((min b n:Nat):Int)) 1 n:=by
  have e1:¬ ((a:Int) < 0):=by omega
  have e2:¬ ((b:Int) < 0):=by omega
  have e3:¬ (((min a n:Nat):Int) < 0):=by omega
  have e4:¬ (((min b n:Nat):Int) < 0):=by omega
  have h1:max (0:Int) (min (a:Int) (n:Int))=max 0 (min ((min a n:Nat):Int) (n:Int)):=by omega
  have h2:max (0:Int) (min (b:Int) (n:Int))=max 0 (min ((min b n:Nat):Int) (n:Int)):=by omega
  simp only [Builtin.Str.strSliceIndices,e1,e2,e3,e4,if_false,h1,h2]
  rfl
theorem both (x:Str) {a b:Nat} (h:a≤b):Txt.slice x (some (a:Int)) (some (b:Int))=⟨((x.cps.toList.drop a).take (b - a)).toArray⟩:=by
  have hl:x.cps.toList.length=x.length:=by simp [Str.length]
  have e:Txt.slice x (some (a:Int)) (some (b:Int))=Txt.slice x (some ((min a x.length:Nat):Int)) (some ((min b x.length:Nat):Int)):=by
    unfold Txt.slice
    rw [clip]
  rw [e]
  have p:=StrLaws.sliceText_plain (x:=x) (i:=((min a x.length:Nat):Int)) (j:=((min b x.length:Nat):Int)) ⟨by omega,by omega,by omega⟩
  have p':Txt.slice x (some ((min a x.length:Nat):Int)) (some ((min b x.length:Nat):Int))=_:=p
  rw [p']
  congr 1
  have e1:(((min a x.length:Nat):Int)).toNat=min a x.length:=by omega
  have e2:(((min b x.length:Nat):Int) - ((min a x.length:Nat):Int)).toNat=min b x.length - min a x.length:=by omega
  rw [e1,e2]
  congr 1
  by_cases ha:a≤x.length
  · rw [Nat.min_eq_left ha]
    by_cases hb:b≤x.length
    · rw [Nat.min_eq_left hb]
    · rw [Nat.min_eq_right (by omega)]
      rw [List.take_of_length_le (by rw [List.length_drop]; omega),List.take_of_length_le (by rw [List.length_drop]; omega)]
  · rw [Nat.min_eq_right (by omega),List.drop_eq_nil_of_le (by omega),List.drop_eq_nil_of_le (by omega)]
    simp
theorem upto (x:Str) (b:Nat):Txt.slice x none (some (b:Int))=⟨(x.cps.toList.take b).toArray⟩:=by
  have e:Txt.slice x none (some (b:Int))=Txt.slice x (some ((0:Nat):Int)) (some (b:Int)):=by
    unfold Txt.slice
    rw [StrLaws.sliceIdx_none_lo]
    rfl
  rw [e,both x (Nat.zero_le b)]
  simp
theorem from_ (x:Str) (a:Nat):Txt.slice x (some (a:Int)) none=⟨(x.cps.toList.drop a).toArray⟩:=by
  have hl:x.cps.toList.length=x.length:=by simp [Str.length]
  have e:Txt.slice x (some (a:Int)) none=Txt.slice x (some (a:Int)) (some (x.length:Int)):=by
    unfold Txt.slice
    rw [StrLaws.sliceIdx_none_hi]
  rw [e]
  by_cases h:a≤x.length
  · rw [both x h,List.take_of_length_le (by rw [List.length_drop]; omega)]
  · have e2:Txt.slice x (some (a:Int)) (some (x.length:Int))=Txt.slice x (some ((x.length:Nat):Int)) (some (x.length:Int)):=by
      unfold Txt.slice
      rw [clip,clip x.length x.length]
      rw [Nat.min_eq_right (by omega:x.length≤a),Nat.min_self]
    rw [e2,both x (Nat.le_refl _),List.drop_eq_nil_of_le (by omega:x.cps.toList.length≤a),Nat.sub_self]
    simp
end SLi
set_option Elab.async false
set_option linter.all false
set_option maxRecDepth 100000
set_option maxHeartbeats 4000000
namespace L2
open PySem PySem.Spec PyProof.Rows M08
abbrev mkT (r:List Nat):V:=V.str ⟨r.toArray⟩
abbrev sD (r:List Nat):D:=.str ⟨r.toArray⟩
theorem denl_s {H:Hp}:∀ {cs:List (List Nat)} {vs:List V},DenL H vs (cs.map sD)→vs=cs.map mkT
  | [],[],_=>rfl
  | _ :: _,_ :: _,h=>by
    rw [List.map_cons,denl_s h.2]
    exact congrArg (· :: _) h.1
  | [],_ :: _,h=>h.elim
  | _ :: _,[],h=>h.elim
theorem denl_of (H:Hp):∀ cs:List (List Nat),DenL H (cs.map mkT) (cs.map sD)
  | []=>trivial
  | _ :: cs=>⟨rfl,denl_of H cs⟩
def lvD (ms ks:List (List Nat)):D:=.tup [.tup (ms.map sD),.tup (ks.map sD)]
theorem den_lv {H:Hp} {v:V} {ms ks:List (List Nat)} (h:Den H v (lvD ms ks)):∃ p pm pk:Addr,v=.ref p∧H p=some (.tup [.ref pm,.ref pk])∧H pm=some (.tup (ms.map mkT))∧H pk=some (.tup (ks.map mkT)):=by
  obtain ⟨p,vs,rfl,hp,hd⟩:=den_tup h
  match vs,hd with
  | [a,b],hd =>
    obtain ⟨pm,us,rfl,hpm,hd1⟩:=den_tup hd.1
    obtain ⟨pk,ws,rfl,hpk,hd2⟩:=den_tup hd.2.1
    rw [denl_s hd1] at hpm
    rw [denl_s hd2] at hpk
    exact ⟨p,pm,pk,rfl,hp,hpm,hpk⟩
  | [],hd=>exact hd.elim
  | [_],hd=>exact hd.2.elim
  | _ :: _ :: _ :: _,hd=>exact hd.2.2.elim
theorem den_mk {H:Hp} {p pm pk:Addr} {ms ks:List (List Nat)} (hp:H p=some (.tup [.ref pm,.ref pk])) (hm:H pm=some (.tup (ms.map mkT))) (hk:H pk=some (.tup (ks.map mkT))):Den H (.ref p) (lvD ms ks) :=
  ⟨p,_,rfl,hp,⟨pm,_,rfl,hm,denl_of H ms⟩,⟨pk,_,rfl,hk,denl_of H ks⟩,trivial⟩
structure OkC (cs:List (List Nat)):Prop where
  few:cs.length≤100
  size:∀ c∈cs,1≤c.length∧c.length≤8
theorem at_T {cs:List (List Nat)} {i:Nat} (hi:i < cs.length):(cs.map mkT)[i]?=some (mkT cs[i]):=by
  rw [List.getElem?_map,List.getElem?_eq_getElem hi]
  rfl
theorem lenT (r:List Nat):(⟨r.toArray⟩:Str).length=r.length:=by simp [Str.length]
def lensN (t:List Nat) (cs:List (List Nat)) (j:Nat):List Int:=((cs.take j).filter fun c=>c.isPrefixOf t).map fun c=>(c.length:Int)
theorem lensN_succ {t:List Nat} {cs:List (List Nat)} {j:Nat} (hj:j < cs.length):lensN t cs (j+1)=lensN t cs j++(if cs[j].isPrefixOf t=true then [(cs[j].length:Int)] else []):=by
  unfold lensN
  rw [List.take_add_one,List.getElem?_eq_getElem hj,List.filter_append,List.map_append]
  congr 1
  by_cases h:cs[j].isPrefixOf t=true
  · simp [h]
  · simp [h]
theorem lensN_le (t:List Nat) (cs:List (List Nat)) (j:Nat):(lensN t cs j).length≤cs.length:=by
  unfold lensN
  rw [List.length_map]
  refine Nat.le_trans (List.length_filter_le _ _) ?_
  rw [List.length_take]
  omega
theorem lens_max (t:List Nat):∀ cs:List (List Nat),((cs.filter fun c=>c.isPrefixOf t).map fun c=>(c.length:Int)).foldr max 0=((lng t cs:Nat):Int)
  | []=>rfl
  | c :: cs=>by
    have ih:=lens_max t cs
    unfold lng
    by_cases h:c.isPrefixOf t=true
    · rw [List.filter_cons,if_pos h,List.map_cons,List.foldr_cons,ih,if_pos h]
      omega
    · rw [List.filter_cons,if_neg h,ih,if_neg h]
      omega
theorem slice_bo (t:List Nat) {a b:Nat} (h:a≤b):Txt.slice ⟨t.toArray⟩ (some (a:Int)) (some (b:Int))=⟨((t.drop a).take (b - a)).toArray⟩:=by
  rw [SLi.both _ h]
theorem slice_fr (t:List Nat) (a:Nat):Txt.slice ⟨t.toArray⟩ (some (a:Int)) none=⟨(t.drop a).toArray⟩:=by
  rw [SLi.from_]
theorem cat_T (a b:List Nat):(⟨a.toArray⟩:Str)++⟨b.toArray⟩=⟨(a++b).toArray⟩:=by
  show Str.mk (a.toArray++b.toArray)=_
  simp
theorem str_T (x:Str):x=⟨x.cps.toList.toArray⟩:=by
  cases x
  simp
theorem atI_zero {α:Type} (x:α) (xs:List α):atI (x :: xs) 0=some x:=atI_nat (xs:=x :: xs) (j:=0) rfl
def treeD:List (List (List Nat) × List (List Nat))→List Nat→D
  | [],t=>sD t
  | l :: ls,t=>.tup ((cut l.1 l.2 [] t).map (treeD ls))
end L2
set_option Elab.async false
set_option linter.all false
set_option maxRecDepth 100000
set_option maxHeartbeats 4000000
namespace L2
open PySem PySem.Spec PyProof.Rows M08
end L2
namespace M08
end M08
namespace M05
def nmN:Nat→Nat→List Nat
  | 0,_=>[]
  | f+1,r=>if r=0 then [] else nmN f ((r - 1) / 26)++[97+(r - 1) % 26]
def nm (r:Nat):List Nat:=nmN r r
end M05
set_option linter.all false
namespace M05
end M05
set_option Elab.async false
set_option linter.all false
set_option maxRecDepth 100000
set_option maxHeartbeats 4000000
namespace L2
open PySem PySem.Spec PyProof.Rows
def rCat2:R2:=fun x y H Q=>∃ (a b:Addr) (xs ys:List V),x=.ref a∧y=.ref b∧H a=some (.tup xs)∧H b=some (.tup ys)∧xs.length+ys.length≤sizeLine∧∀ (q:Addr) (H':Hp),Same H H'→H' q=some (.tup (xs++ys))→Q (.ref q) H'
theorem op_catT2 {X:Cx}:OpR X (binaryOp .Add) rCat2:=by
  intro pins s σ H x y v u Q I rx ry h
  obtain ⟨a,b,xs,ys,rfl,rfl,ha,hb,hz,q⟩:=h
  cases xs with
  | cons x1 xs =>
    refine op_catT pins s σ H (.ref a) (.ref b) v u Q I rx ry ⟨a,b,_,_,rfl,rfl,SqT.of ha,SqT.of hb,by simp,hz,fun z=>?_,fun z p hp=>q p _ (same_new hp _) upd_same⟩
    refine q a H (Same.refl H) ?_
    rw [ha,z,List.append_nil]
  | nil =>
    cases rx
    cases ry
    obtain ⟨its,r1,p1,_⟩:=I.tuple (SqT.of (K:=X.K) ha)
    obtain ⟨its2,r2,p2,_⟩:=I.tuple (SqT.of (K:=X.K) hb)
    cases r1
    obtain ⟨⟨cls,dd,data,sl⟩,ho,hc,n,hd⟩:=id p1
    obtain ⟨⟨cls2,dd2,data2,sl2⟩,ho2,hc2,n2,hd2⟩:=id p2
    simp only at hc hd hc2 hd2
    subst hc hd hc2 hd2
    refine concat_meets ⟨_,ho,rfl⟩ ⟨_,ho2,rfl⟩ noFill_tuple_add seq_tuple_add PySem.F.slot_tuple_add PySem.F.entry_tuple_add (PySem.F.args_tuple_add_2 _ _) (tuple_addW0 a b _ its2.toArray n n2 dd dd2 sl sl2 rfl) ⟨ho,ho2,?_⟩
    exact ⟨.ref b,H,I,rfl,q b H (Same.refl H) hb⟩
end L2
set_option Elab.async false
set_option linter.all false
set_option maxRecDepth 100000
set_option maxHeartbeats 4000000
namespace ET
open PySem
open Sem (wp)
open AutoSeq1 (wpAny_loadPart')
theorem drawsT {prog:Program} {w:World} {A:Around} (hd:A.handled=none) (it t:Addr) (ne:t≠it) (its:Array Value) :
    Draws prog w A it [it,t] its.size (fun i v=>its[i]?=some v) (fun i h=>h.IsTupleIter it t i∧h.IsTuple t its) where
  live:=fun _ _ st=>by
    obtain ⟨⟨o,ho,_⟩,_⟩:=st
    exact ⟨o,ho⟩
  frame:=fun _ _ _ st k=>⟨st.1.at fun o e=>k it (by simp) o e,st.2.at fun o e=>k t (by simp) o e⟩
  item:=fun i s Q E hi st q=>by
    refine ZT.tup_item st.1 st.2 (x:=its[i]) (by simp [hi]) fun g ti sb=>?_
    exact q _ g s.toks (by simp [hi]) ⟨ti,st.2.extBut sb.extBut ne⟩ sb
  done:=fun s Q E st q=>ZT.tup_end hd st.1 st.2 (by simp) q
theorem enum_newT (t:Addr) (us:Array Value):Meets (Builtin.«enumerate.__new__» ⟨[.type "enumerate",.ref t],[]⟩) (fun _ R s=>s.heap.IsTuple t us ∧
      R (.ok (.ret (.ref (s.heap.push { cls:=.type "tuple_iterator",data:=.fields #[.ref t,.int 0 0] }).objs.size)))
        { s with heap:=(s.heap.push { cls:=.type "tuple_iterator",data:=.fields #[.ref t,.int 0 0] }).push { cls:=.type "enumerate",data:=.fields #[.none,.bool false,.ref s.heap.objs.size,rawInt 0,.none,.none] } }):=by
  refine .of_wp fun prog w A R s h=>?_
  obtain ⟨hp,g,d,tk,os⟩:=s
  obtain ⟨u1,h⟩:=h
  have u1':Heap.IsTuple (Shared.heap ⟨hp,g,d,tk,os⟩) t us:=u1
  have sub:=sub_enumerate
  wp_walk
  refine wpAny_stack_any fun st=>wpAny_pure ?_
  split
  · rename_i c _ _ _ _ _
    cases (c == Value.type "enumerate")
    all_goals
      wp_walk using wpAny_pyIter_tuple u1'
      exact ⟨_,rfl,h⟩
  · wp_walk using wpAny_pyIter_tuple u1'
    exact ⟨_,rfl,h⟩
theorem call_enumT {prog:Program} {w:World} {A:Around} {E:Value→Shared→Prop} {s:Shared} {t:Addr} {us:Array Value} {Q:Value→Shared→Prop} (u1:s.heap.IsTuple t us)
    (k:∀ g,IsEnum g (s.heap.objs.size+1) s.heap.objs.size 0 .none→g.IsTupleIter s.heap.objs.size t 0→(∀ c o,s.heap.get? c=some o→g.get? c=some o)→Q (.ref (s.heap.objs.size+1)) { s with heap:=g }) :
    wpAny (model prog w) A (call (.type "enumerate") [.ref t]) Q E s:=by
  refine callType_new F.called_enumerate (by decide) (F.typeCall_enumerate_1 _) (F.newCall_enumerate_1 _) (fun obj=>F.args_object_init_2 obj _) F.entry_enumerate_new (enum_newT t us) ⟨u1,?_⟩
  have n1:(ZT.zh1 s.heap t).objs.size=s.heap.objs.size+1:=Heap.size_push ..
  have p1:((ZT.zh1 s.heap t).push { cls:=.type "enumerate",data:=.fields #[.none,.bool false,.ref s.heap.objs.size,rawInt 0,.none,.none] }).get? (ZT.zh1 s.heap t).objs.size=some _:=Heap.get?_push_size _ rfl
  rw [n1] at p1
  show _∧_
  rw [n1]
  exact ⟨⟨_,p1,rfl⟩,k _ p1 ⟨_,Heap.get?_push_of_some _ (Heap.get?_push_size _ rfl),rfl,rfl⟩ fun c o q=>Heap.get?_push_of_some _ (Heap.get?_push_of_some _ q)⟩
theorem enum_endT {prog:Program} {w:World} {A:Around} {E:Value→Shared→Prop} {s:Shared} {e it t:Addr} {i:Nat} {j:Int} {us:Array Value} {old:Value} {Q:Option Value→Shared→Prop} (hd:A.handled=none)
    (ee:IsEnum s.heap e it j old) (ti:s.heap.IsTupleIter it t i) (tt:s.heap.IsTuple t us) (tx:us[i]?=none) (k:∀ g,Heap.ExtBut it s.heap g→Q none { s with heap:=g }):wpAny (model prog w) A (pyNext (.ref e)) Q E s:=by
  have ty:s.TypeIs (.ref e) "enumerate":=⟨_,ee,rfl⟩
  unfold pyNext
  refine wpAny_bind (wpAny_attempt (wpAny_callSpecial?_slot (name:=Str.ofString "__next__") ty F.slot_enumerate_next (wpAny_call_entry F.slot_enumerate_next ty F.entry_enumerate_next ?_ (F.args_enumerate_next_1 _))))
  show wpAny _ _ (field (.ref e) 2 >>= _) _ _ _
  refine wpAny_bind (wpAny_field ee rfl (x:=.ref it) rfl (wpAny_bind (ZT.tup_end hd ti tt tx fun g x eb hx=>?_)))
  obtain ⟨o,ho,c⟩:=hx
  exact wpAny_bind (wpAny_isInstance (T:="StopIteration") (b:=true) ⟨o,ho,c⟩ isSubtype_stop (wpAny_pure (k _ eb)))
end ET
namespace L2
open PySem PySem.Spec PyProof.Rows
def IteT (K:PySem.W.Frag) (a:Addr):It :=
  ⟨fun i H=>∃ xs x,SqT K H a xs∧xs[i]?=some x,fun i H v H'=>∃ t x,v=.ref t∧H t=none∧H'=upd H t (.tup [.int (i:Nat),x])∧∀ xs,SqT K H a xs→xs[i]?=some x,fun i H=>∃ xs,SqT K H a xs∧xs.length≤i⟩
theorem turn_enumT {P:Program} {w:World} {K:PySem.W.Frag} {elts:List Expr} {k1:Nat} {p1:Pos} (a e it:Addr) (hne:e≠it) (hae:a≠e) (hai:a≠it) :
    Turn P w K (.Tuple elts k1 p1) (IteT K a) [e,it] e (fun i h=>(∃ old,IsEnum h e it ((i:Nat):Int) old)∧h.IsTupleIter it a i) where
  mem:=by simp
  obj:=fun i h st b hb=>by
    obtain ⟨⟨old,he⟩,o,ho,c,d⟩:=st
    have hb':b=e∨b=it:=by simpa using hb
    rcases hb' with rfl | rfl
    · exact ⟨_,he,fun v z=>by
        have z':Data.fields _=Data.cell v:=z
        cases z'⟩
    · exact ⟨o,ho,fun v z=>by rw [d] at z; cases z⟩
  keep:=fun i h h' st k=>by
    obtain ⟨⟨old,he⟩,hit⟩:=st
    exact ⟨⟨old,k e (by simp) _ he⟩,hit.at fun o q=>k it (by simp) o q⟩
  item:=by
    intro X hP hw hK hc i pins s σ H E I hf st hg
    subst hP hw hK
    obtain ⟨xs,x,hq,hx⟩:=hg
    obtain ⟨its,rv,p,hz⟩:=I.tuple hq
    obtain ⟨u,hu,ru⟩:=rv.get hx
    obtain ⟨⟨old,he⟩,hit⟩:=st
    have fe:=hf e (by simp)
    have fi:=hf it (by simp)
    obtain ⟨oi,hoi,_⟩:=id hit
    have pT:s.heap.IsTuple a its.toArray:=p
    have hlt:i < its.toArray.size:=by
      have:=(List.getElem?_eq_some_iff.mp hu).1
      simpa using this
    refine wpAny_pyNext_enum_itemD (ET.drawsT (A:=X.A.in1) (I.ok.hd hc) it a hai its.toArray) he ⟨hit,pT⟩ hlt hne (by simp [hne,Ne.symm hae]) fun x' h1 tk hx' heo hst1 ht1 hz1 hk1=>?_
    have ex:x'=u:=by
      have:its.toArray[i]?=some u:=by simpa using hu
      exact Option.some.inj (hx'.symm.trans this)
    subst ex
    refine ⟨_,rfl,wpAny_letOwnedTupleGo_enum heo fun h2 he2 hs2=>?_⟩
    have hs2':Heap.SameBut e h1 h2:=hs2
    have hel:e < s.heap.objs.size:=Heap.lt_size he
    have I1:Inv X pins σ (upd H s.heap.objs.size (.tup [.int (i:Nat),x])) { s with heap:=h2,toks:=tk+1 } :=
      I.turnedT (its:=[.int i tk,x']) (fun b o h1' h2' q=>hs2'.extBut b o h1' (hk1 b o h1' h2' q)) fe fi ⟨_,he⟩ ⟨_,hoi⟩ (.cons ⟨_,rfl⟩ (.cons ru .nil)) (by show 2≤sizeLine; decide) ((hs2'.2 _ (Nat.ne_of_gt hel)).trans ht1)
    refine ⟨.ref s.heap.objs.size,_,I1,rfl,⟨s.heap.objs.size,x,rfl,I.fresh,rfl,fun ys hy=>by rw [I.tuple_inj hy hq]; exact hx⟩,⟨⟨x',?_⟩,hst1.1.extBut hs2'.extBut (Ne.symm hne)⟩,fun b hb=>?_⟩
    · have e3:(((i+1:Nat)):Int)=(i:Int)+1:=by push_cast; rfl
      rw [e3]
      exact he2
    · have hb':b=e∨b=it:=by simpa using hb
      have hbl:b≠s.heap.objs.size:=by
        rcases hb' with rfl | rfl
        · exact Nat.ne_of_lt (Heap.lt_size he)
        · exact Nat.ne_of_lt (Heap.lt_size hoi)
      rw [upd_ne hbl]
      exact (hf b hb).1
  done:=by
    intro X hP hw hK hc i pins s σ H E I hf st hg
    subst hP hw hK
    obtain ⟨xs,hq,hx⟩:=hg
    obtain ⟨its,rv,p,hz⟩:=I.tuple hq
    obtain ⟨⟨old,he⟩,hit⟩:=st
    obtain ⟨f0,f1,f2,f3,f4,f5⟩:=hf it (by simp)
    have hl:=rv.length
    have pT:s.heap.IsTuple a its.toArray:=p
    exact ET.enum_endT (I.ok.hd hc) he hit pT (by simp; omega) fun h' eb=>⟨rfl,I.turned (t':=s.toks) (fun b o hb e=>eb b o hb e) f0 f1 f3 f4 f5⟩
  self:=fun A i s Q E st h=>by
    obtain ⟨⟨old,he⟩,hit⟩:=st
    exact wpAny_pyIter_enum he h
def iEnumT (K:PySem.W.Frag) (ta:TA):TI:=fun σ H R=>ta σ H fun vs H1=>∃ a,vs=[.ref a]∧(∃ xs,SqT K H1 a xs)∧R (IteT K a) H1
theorem pi_enumT {X:Cx} {elts:List Expr} {k1:Nat} {p1:Pos} {a:Expr} {ta:TA} {p pos:Pos} (hg:Gl X "enumerate") (hm:X.mg "enumerate" = none) (ha:PA X [a] ta) (hs:starEach [a] X.env=[(false,eval a X.env)]:=by rfl)
    (hb:bootBuiltins "enumerate" = some (.type "enumerate"):=by first | exact boot_enumerate | exact PySem.boot_enumerate | rfl):PI X (.Tuple elts k1 p1) (.Call (.Name "enumerate" p) [a] [] pos) (iEnumT X.K ta):=by
  intro pins s σ H R I h
  refine Call_ (ld_blt I hg hm hb (PyProof.Rows.callWith_type1 (thn (ha pos pins s σ H _ I h) fun us s1 ⟨vs,H1,I1,r1,q1⟩=>?_) hs rfl))
  obtain ⟨l,e,⟨xs,hq⟩,q⟩:=q1
  subst e
  cases r1 with
  | cons r rr =>
    cases rr
    cases r
    obtain ⟨its,rv,pl,hz⟩:=I1.tuple hq
    have pT:s1.heap.IsTuple l its.toArray:=pl
    have hll:l < s1.heap.objs.size:=by
      obtain ⟨o,ho,_⟩:=pT
      exact Heap.lt_size ho
    refine ET.call_enumT pT fun h' he hit hk=>?_
    refine wpAny_pyIter_enum he ?_
    have I2:Inv X pins σ H1 { s1 with heap:=h' }:=I1.kept (t':=s1.toks) hk
    refine ⟨s1.heap.objs.size+1,[s1.heap.objs.size+1,s1.heap.objs.size],_,_,H1,rfl,I2,turn_enumT l _ _ (Nat.succ_ne_self _) (Nat.ne_of_lt (Nat.lt_succ_of_lt hll)) (Nat.ne_of_lt hll),⟨⟨_,he⟩,hit⟩,fun b hb=>?_,q⟩
    have hb':b=s1.heap.objs.size+1∨b=s1.heap.objs.size:=by simpa using hb
    rcases hb' with rfl | rfl
    · exact I1.fpOk (Nat.le_succ _) (I1.hok.fresh (Nat.le_succ _))
    · exact I1.fpOk (Nat.le_refl _) (I1.hok.fresh (Nat.le_refl _))
theorem for_enumT {K:PySem.W.Frag} {a:Addr} {xs:List V} {g:TG} {tb:TS} {D:Ends} {σ:St} {H:Hp} (Pv:Nat→St→Hp→Prop) (h0:Pv 0 σ H) (hl:∀ i σ H,i≤xs.length→Pv i σ H→SqT K H a xs)
    (hs:∀ i x t σ H,xs[i]?=some x→Pv i σ H→H t=none→g (.ref t) σ (upd H t (.tup [.int (i:Nat),x])) fun σ2 H2=>tb { D with nx:=Pv (i+1),ct:=Pv (i+1),bk:=D.nx } σ2 H2) (hd:∀ σ H,Pv xs.length σ H→D.nx σ H) :
    ∃ W:Nat→Nat→St→Hp→Prop,(∃ m,W 0 m σ H)∧∀ i m σ H,W i m σ H →
      ((IteT K a).stop i H∧D.nx σ H)∨((IteT K a).go i H∧∃ N:St→Hp→Prop,(∀ σ' H',N σ' H'→∃ m',m' < m∧W (i+1) m' σ' H')∧∀ x H',(IteT K a).yld i H x H'→g x σ H' fun σ2 H2=>tb { D with nx:=N,ct:=N,bk:=D.nx } σ2 H2):=by
  refine ⟨fun i m σ H=>m=xs.length - i∧i≤xs.length∧Pv i σ H,⟨xs.length,by simp,Nat.zero_le _,h0⟩,?_⟩
  rintro i m σ H ⟨rfl,hi,p⟩
  have q:=hl i σ H hi p
  by_cases hlt:i < xs.length
  · refine .inr ⟨⟨xs,xs[i],q,by simp [hlt]⟩,Pv (i+1),fun σ' H' p'=>⟨xs.length - (i+1),by omega,rfl,hlt,p'⟩,fun v H' y=>?_⟩
    obtain ⟨t,x,rfl,ht,rfl,y⟩:=y
    exact hs i x t σ _ (y xs q) p ht
  · have e:i=xs.length:=by omega
    subst e
    exact .inl ⟨⟨xs,q,Nat.le_refl _⟩,hd σ H p⟩
theorem getItem_tuple_all {prog:Program} {w:World} {A:Around} {E:Value→Shared→Prop} {s:Shared} {t sl:Addr} {items:Array Value} {vl vu:Value} {lo hi:Option Int} {Q:Value→Shared→Prop} (ht:IsTup s.heap t items) (hs:s.heap.IsSliceOf sl vl vu .none) (pl:IsPart vl lo) (pu:IsPart vu hi)
    (hw:HT.sIx items.size 0 lo=0∧HT.sIx items.size items.size hi=items.size) (h:Q (.ref t) s):wpAny (model prog w) A (getItem (.ref t) (.ref sl)) Q E s:=by
  obtain ⟨os,hos,hcs,hds⟩:=id hs
  have hTs:s.TypeIs (.ref sl) "slice":=⟨os,hos,hcs⟩
  unfold getItem
  try with_reducible refine wpAny_holding ?_
  first | refine wpAny_bind (wpAny_pure ?_) | skip
  refine wpAny_bind (wpAny_sequenceKey ht.typeIs (by decide) ?_)
  refine wpAny_bind (wpAny_callSpecial?_slot (name:=Str.ofString "__getitem__") ht.typeIs PyProof.Rows.slot_tuple_getitem
    (wpAny_call_entry PyProof.Rows.slot_tuple_getitem ht.typeIs PyProof.Rows.entry_tuple_getitem ?_ (PyProof.Rows.args_tuple_getitem _ _)))
  show wpAny _ _ (Builtin.Tuple.tupleItemsOf (.ref t) >>= _) _ _ s
  refine wpAny_bind (PyProof.Rows.tupleItemsOf_ ht ?_)
  refine wpAny_bind (wpAny_typeOf hTs ?_)
  rw [if_pos (by decide)]
  refine wpAny_bind (HT.sliceApplied_gen hs pl pu ?_)
  have hno:(((HT.sIx items.size 0 lo:Nat):Int) == 0 && (1:Int) == 1 && (HT.sIx items.size items.size hi - HT.sIx items.size 0 lo) == items.size)=true:=by
    rw [hw.1,hw.2]
    simp
  show wpAny _ _ (if (((HT.sIx items.size 0 lo:Nat):Int) == 0 && (1:Int) == 1 && (HT.sIx items.size items.size hi - HT.sIx items.size 0 lo) == items.size)=true then _ else _) _ _ s
  rw [if_pos hno]
  refine wpAny_bind (m:=Builtin.Tuple.tupleIsExact _) (wpAny_bind (wpAny_typeOf ht.typeIs (wpAny_pure ?_)))
  rw [if_pos (by decide)]
  exact wpAny_bind (wpAny_rule (wpAny_pure ⟨_,rfl,wpAny_pure h⟩))
def rSlTw (K:PySem.W.Frag):V→Option Int→Option Int→Hp→VK→Prop:=fun x lo hi H Q=>∃ a xs,x=.ref a∧H a=some (.tup xs)∧∀ (p:Addr) (H':Hp),Same H H'→H' p=some (.tup (cutV xs lo hi))→Q (.ref p) H'
theorem sl_tupW {X:Cx}:SlR X (rSlTw X.K):=by
  intro pins s σ H x v vl vu lo hi sl Q I rx hs pl pu h
  obtain ⟨a,xs,rfl,hx,q⟩:=h
  by_cases hw:HT.sIx xs.length 0 lo=0∧HT.sIx xs.length xs.length hi=xs.length
  · cases rx
    obtain ⟨its,r,ht,hz⟩:=I.tuple (SqT.of hx)
    have hlen:its.toArray.size=xs.length:=by rw [List.size_toArray]; exact r.length.symm
    refine ⟨"tuple",_,PyProof.Rows.slot_tuple_getitem.lookup,ht.typeIs,?_⟩
    refine getItem_tuple_all ht hs pl pu (by rw [hlen]; exact hw) ⟨.ref a,H,I,rfl,q a H (Same.refl H) ?_⟩
    rw [hx]
    unfold cutV
    rw [hw.1,hw.2,List.drop_zero,Nat.sub_zero,List.take_length]
  · exact sl_tup pins s σ H _ v vl vu lo hi sl Q I rx hs pl pu ⟨a,xs,rfl,SqT.of hx,hw,fun p hp=>q p _ (same_new hp _) upd_same⟩
end L2
set_option Elab.async false
set_option linter.all false
set_option maxRecDepth 100000
set_option maxHeartbeats 4000000
namespace L2
open PySem PySem.Spec PyProof.Rows
end L2
set_option Elab.async false
set_option linter.all false
set_option maxRecDepth 100000
set_option maxHeartbeats 4000000
namespace DR
open PySem PySem.W
open Sem (wp)
def Raw (g:Heap) (d:Addr) (es:Array DictEntry) (ep:Nat):Prop:=∃ o,g.get? d=some o∧o.ExactDict∧o.data=.dict es ep
section
variable {prog:Program} {w:World} {A:Around} {E:Value→Shared→Prop} {s:Shared} {it dd:Addr} {es:Array DictEntry} {i ep:Nat}
theorem Raw.typeIs (r:Raw s.heap dd es ep):s.TypeIs (.ref dd) "dict":=by
  obtain ⟨o,eo,ec,ed⟩:=r
  exact ⟨o,eo,ec.1⟩
theorem Raw.lt {g:Heap} (r:Raw g dd es ep):dd < g.objs.size:=by
  obtain ⟨o,eo,_⟩:=r
  exact Heap.lt_size eo
theorem Raw.at {g g':Heap} (r:Raw g dd es ep) (k:∀ o,g.get? dd=some o→g'.get? dd=some o):Raw g' dd es ep:=by
  obtain ⟨o,eo,x⟩:=r
  exact ⟨o,k o eo,x⟩
end
end DR
namespace L2
open PySem PySem.Spec PyProof.Rows
end L2
set_option Elab.async false
set_option linter.all false
set_option maxRecDepth 100000
set_option maxHeartbeats 4000000
namespace SX
open PySem PySem.Spec PyProof.Rows
def have_ {K:Type} [DecidableEq K] (val:Nat→K) (i:Nat) (k:K):Bool:=((List.range i).map val).any fun y=>decide (y=k)
theorem have_succ {K:Type} [DecidableEq K] (val:Nat→K) (i:Nat) (k:K):have_ val (i+1) k=(have_ val i k || decide (k=val i)):=by
  unfold have_
  rw [List.range_succ,List.map_append,List.any_append]
  congr 1
  simp [eq_comm]
def many {K:Type} [DecidableEq K] (val:Nat→K):Nat→Nat
  | 0=>0
  | i+1=>if have_ val i (val i)=true then many val i else many val i+1
theorem many_le {K:Type} [DecidableEq K] (val:Nat→K):∀ i,many val i≤i
  | 0=>Nat.le_refl _
  | i+1=>by
    have:=many_le val i
    unfold many
    split <;> omega
section
variable {prog:Program} {w:World} {A:Around} {R:Result→Shared→Prop} {I:Addr} {fp wr:List Addr} {G:Array GenState→Array GenState→Prop} {n:Nat} {P:Nat→Value→Prop} {St:Nat→Shared→Prop} {K:Type} [DecidableEq K] {knd:KeyKind prog w K}
theorem fill (W:WalksS prog w A.in1 I fp wr G n P St) (S:Addr) (nf:S ∉ fp) (val:Nat→K) (hv:∀ i v,P i v→knd.is (val i) v=true∧v.scannable=true) (room:n+1 < scanBound) :
    ∀ (k i:Nat) (s:Shared),n - i=k→i≤n→St i s→s.heap.SetOf knd S (have_ val i) (many val i)→(∀ s',Moved (S :: wr) G s s'→s'.heap.SetOf knd S (have_ val n) (many val n)→R (.ok (.ret .none)) s') →
      codeAny (model prog w) A (.builtin "set.update.loop" ⟨[.ref S,.ref I],[]⟩) R s:=by
  have nw:S ∉ wr:=fun z=>nf (W.sub _ z)
  have sub:∀ b∈wr,b∈S :: wr:=fun b z=>List.mem_cons_of_mem _ z
  intro k
  induction k with
  | zero =>
    intro i s ek le st hS q
    have e:i=n:=by omega
    subst e
    refine codeAny_builtin F.entry_set_update_loop ?_
    rw [Around.under_plainId F.plain_set_update_loop _]
    show wpAny _ A.in1 (pyNext (.ref I) >>= _) _ _ _
    refine wpAny_bind (W.done s _ _ st fun s' mv=>?_)
    show wpAny _ A.in1 (ret Value.none) _ _ _
    refine wpAny_pure (q s' (mv.mono sub) ?_)
    obtain ⟨o,es,ep,t,eo,rest⟩:=hS
    exact ⟨o,es,ep,t,mv.heap S _ nw eo,rest⟩
  | succ k ih =>
    intro i s ek le st hS q
    have lt:i < n:=by omega
    refine codeAny_builtin F.entry_set_update_loop ?_
    rw [Around.under_plainId F.plain_set_update_loop _]
    show wpAny _ A.in1 (pyNext (.ref I) >>= _) _ _ _
    refine wpAny_bind (W.item i s _ _ lt st fun v s' hP st' mv=>?_)
    obtain ⟨hk,hsc⟩:=hv i v hP
    have hS':s'.heap.SetOf knd S (have_ val i) (many val i):=by
      obtain ⟨o,es,ep,tb,eo,rest⟩:=hS
      exact ⟨o,es,ep,tb,mv.heap S _ nw eo,rest⟩
    show wpAny _ A.in1 (holding [v] (setAdd S v) >>= _) _ _ _
    refine wpAny_bind (wpAny_holding ?_)
    unfold setAdd
    refine wpAny_holding (wpAny_bind (knd.pyHash hk ?_))
    refine wpAny_setAddHashed_of (knd:=knd) (s:={ s' with toks:=s'.toks+1 }) hk hsc hS' (Nat.lt_of_le_of_lt (Nat.succ_le_succ (many_le val i)) (by omega)) fun g sb hS2=>?_
    have hSi:g.SetOf knd S (have_ val (i+1)) (many val (i+1)):=by
      have e:(fun k'=>have_ val i k' || decide (k'=val i))=have_ val (i+1):=funext fun k'=>(have_succ val i k').symm
      rw [← e]
      exact hS2
    refine wpAny_pure ⟨plainId_quiet F.plain_set_update_loop _,ih (i+1) _ (by omega) lt (W.frame _ s' _ _ st' (Nat.le_succ _) fun b hb o e=>?_) hSi fun s'' mv2 hS''=>?_⟩
    · rw [sb.2 b fun z=>nf (z ▸ hb)]
      exact e
    · refine q s'' (Moved.trans W.gtrans ((mv.mono sub).then_heap (Nat.le_succ _) fun b o hb e=>?_) mv2) hS''
      rw [sb.2 b fun z=>hb (by rw [z]; exact List.mem_cons_self)]
      exact e
end
end SX
set_option Elab.async false
set_option linter.all false
set_option maxRecDepth 100000
set_option maxHeartbeats 4000000
namespace L2
open PySem PySem.Spec PyProof.Rows
end L2
set_option Elab.async false
set_option linter.all false
set_option maxRecDepth 100000
set_option maxHeartbeats 4000000
namespace L2
open PySem PySem.Spec PyProof.Rows
theorem den_rel {X:Cx} {pins:List (Addr × Obj)} {σ:St} {H:Hp} {s:Shared} (I:Inv X pins σ H s):∀ (n:Nat) (d:D) (A:Around) (x y:V) (v u:Value),Shal n d→Den H x d→Den H y d→RelV x v→RelV y u→A.units+n < cLine→SeqAt.EqAt A s v u true
  | _,.non,A,x,y,v,u,hs,hx,hy,rx,ry,hu=>absurd rfl hs.ne
  | _,.bl b,A,x,y,v,u,hs,hx,hy,rx,ry,hu=>by
    have e1:x=.bl b:=hx
    have e2:y=.bl b:=hy
    subst e1
    subst e2
    cases rx
    cases ry
    exact SeqAt.EqAt.same _
  | _,.int i,A,x,y,v,u,hs,hx,hy,rx,ry,hu=>by
    have e1:x=.int i:=hx
    have e2:y=.int i:=hy
    subst e1
    subst e2
    obtain ⟨t,rfl⟩:=rx
    obtain ⟨t',rfl⟩:=ry
    have:=SeqAt.EqAt.int_int (A:=A) (s:=s) i t i t'
    simpa using this
  | _,.str z,A,x,y,v,u,hs,hx,hy,rx,ry,hu=>by
    have e1:x=.str z:=hx
    have e2:y=.str z:=hy
    subst e1
    subst e2
    obtain ⟨t,rfl⟩:=rx
    obtain ⟨t',rfl⟩:=ry
    have:=SeqAt.EqAt.str_str (A:=A) (s:=s) z t z t'
    simpa using this
  | 0,.tup ds,A,x,y,v,u,hs,hx,hy,rx,ry,hu=>absurd rfl (hs.2 ds)
  | n+1,.tup ds,A,x,y,v,u,hs,hx,hy,rx,ry,hu=>by
    obtain ⟨a,vs,rfl,ha,hda⟩:=den_tup hx
    obtain ⟨b,us,rfl,hb,hdb⟩:=den_tup hy
    cases rx
    cases ry
    by_cases hab:a=b
    · subst hab
      exact SeqAt.EqAt.same _
    · obtain ⟨its,r1,p1,_⟩:=I.tuple (SqT.of (K:=X.K) ha)
      obtain ⟨its2,r2,p2,_⟩:=I.tuple (SqT.of (K:=X.K) hb)
      have l1:=hda.len
      have l2:=hdb.len
      have m1:=r1.length
      have m2:=r2.length
      have key:=SeqAt.EqAt.of_refs hab (SeqAt.RcAt.tuples (A:=A) (s:=s) (e:=fun _=>true) p1 p2 (by omega) fun j h1 h2=>?_)
      · have e:((List.range (min its.toArray.size its2.toArray.size)).all (fun _=>true) && its.toArray.size == its2.toArray.size)=true:=by
          simp
          omega
        rw [e] at key
        exact key
      · have hj1:j < vs.length:=by simpa [m1] using h1
        have hj2:j < us.length:=by simpa [m2] using h2
        obtain ⟨d1,g1,b1⟩:=hda.at_ (List.getElem?_eq_getElem hj1)
        obtain ⟨d2,g2,b2⟩:=hdb.at_ (List.getElem?_eq_getElem hj2)
        rw [g1] at g2
        cases g2
        obtain ⟨w1,hw1,rw1⟩:=r1.get (List.getElem?_eq_getElem hj1)
        obtain ⟨w2,hw2,rw2⟩:=r2.get (List.getElem?_eq_getElem hj2)
        have q1:its.toArray[j]=w1:=by
          have:=(List.getElem?_eq_some_iff.mp hw1).2
          simpa using this
        have q2:its2.toArray[j]=w2:=by
          have:=(List.getElem?_eq_some_iff.mp hw2).2
          simpa using this
        rw [q1,q2]
        exact den_rel I n d1 A.in1 _ _ _ _ ((hs.2 ds rfl).2 d1 (List.mem_of_getElem? g1)) b1 b2 rw1 rw2 (by first | (simp only [Around.in1]; omega) | omega)
end L2
set_option Elab.async false
set_option linter.all false
set_option maxRecDepth 100000
set_option maxHeartbeats 4000000
namespace ZZ
open PySem
open Sem (wp)
section
variable {prog:Program} {w:World} {A:Around} {E:Value→Shared→Prop} {s:Shared}
end
end ZZ
namespace L2
open PySem PySem.Spec PyProof.Rows
end L2
set_option Elab.async false
set_option linter.all false
set_option maxRecDepth 100000
set_option maxHeartbeats 4000000
namespace L2
open PySem PySem.Spec PyProof.Rows
end L2
set_option Elab.async false
set_option linter.all false
set_option maxRecDepth 100000
set_option maxHeartbeats 4000000
namespace L2
open PySem PySem.Spec PyProof.Rows
end L2
set_option Elab.async false
set_option linter.all false
set_option maxRecDepth 100000
set_option maxHeartbeats 1000000
namespace SO
open PySem PySem.W PyProof.Rows
variable {O:KeyOrd} {key:Nat→O.α} {N:Nat}
def KN (key:Nat→O.α) (p:Array Nat) (i:Nat):O.α:=key (p.getD i 0)
def SortedN (key:Nat→O.α) (p:Array Nat) (k:Nat):Prop:=∀ i j,i≤j→j < k→O.kle (KN key p i) (KN key p j)
def FallN (key:Nat→O.α) (p:Array Nat) (k:Nat):Prop:=∀ i j,i≤j→j < k→O.kle (KN key p j) (KN key p i)
def InN (N:Nat) (p:Array Nat):Prop:=p.toList.Perm (List.range N)
theorem InN.size {p:Array Nat} (h:InN N p):p.size=N:=by simpa using h.length_eq
theorem InN.lt {p:Array Nat} (h:InN N p) {i:Nat} (hi:i < N):p.getD i 0 < N:=by
  have hs:i < p.size:=by rw [h.size]; exact hi
  have e:p.getD i 0=p[i]:=by simp [Array.getD,hs]
  rw [e]
  exact List.mem_range.mp (h.mem_iff.mp (by simp))
theorem InN.of {p q:Array Nat} (h:InN N p) (g:q.Perm p):InN N q:=(Array.perm_iff_toList_perm.mp g).trans h
theorem KN_congr {p q:Array Nat} {i j:Nat} (h:p[i]?=q[j]?):KN key p i=KN key q j:=by
  unfold KN
  rw [Array.getD_eq_getD_getElem?,Array.getD_eq_getD_getElem?,h]
theorem KN_bubble {p:Array Nat} {src d:Nat} (hs:src < p.size) (hd:d≤src) (k:Nat) :
    KN key (bubble p src d) k=if k=src - d then KN key p src else if src - d < k∧k≤src then KN key p (k - 1) else KN key p k:=by
  have e:=getElem?_bubble hs d hd k
  by_cases h1:k=src - d
  · rw [if_pos h1] at e ⊢; exact KN_congr e
  · rw [if_neg h1] at e ⊢
    by_cases h2:src - d < k∧k≤src
    · rw [if_pos h2] at e ⊢; exact KN_congr e
    · rw [if_neg h2] at e ⊢; exact KN_congr e
theorem KN_rev {p:Array Nat} {i j:Nat} (hj:j≤p.size) (k:Nat):KN key (kas_rev p i j) k=if i≤k∧k < j then KN key p (i+j - 1 - k) else KN key p k:=by
  have e:=getElem?_mirror_all (i:=i) hj k
  unfold kas_rev
  by_cases h1:i≤k∧k < j
  · rw [if_pos h1] at e ⊢; exact KN_congr e
  · rw [if_neg h1] at e ⊢; exact KN_congr e
theorem KN_rev_equal {p:Array Nat} {i j:Nat} (hj:j≤p.size) (heq:∀ k,i≤k→k < j→KN key p k=KN key p (j - 1)) (k:Nat):KN key (kas_rev p i j) k=KN key p k:=by
  rw [KN_rev hj]
  split
  · rw [heq _ (by omega) (by omega),heq k (by omega) (by omega)]
  · rfl
theorem InN.rev {p:Array Nat} (h:InN N p) (i j:Nat):InN N (kas_rev p i j):=h.of (mirror_perm _ _ _ _)
section
variable {cmp:Nat→Nat→(Bool→Shared→Prop)→Shared→Prop} {s:Shared}
def Cmp (key:Nat→O.α) (N:Nat) (cmp:Nat→Nat→(Bool→Shared→Prop)→Shared→Prop) (s:Shared):Prop :=
  ∀ (i j:Nat) (C:Bool→Shared→Prop),i < N→j < N→C (O.blt (key i) (key j)) s→cmp i j C s
theorem ask {α:Type} {p:Array Nat} {i j:Nat} {k:Bool→KasT α} {G:α→Shared→Prop} (hc:Cmp key N cmp s) (hp:InN N p) (hi:i < N) (hj:j < N)
    (h:(k (O.blt (KN key p i) (KN key p j))).kasWp cmp G s):(KasT.ask (p.getD i 0) (p.getD j 0) k).kasWp cmp G s :=
  hc _ _ _ (hp.lt hi) (hp.lt hj) h
theorem asc {p:Array Nat} {G:Nat→Shared→Prop} {nrem:Nat} (hc:Cmp key N cmp s) (hp:InN N p) (hN:nrem≤N):∀ (f n:Nat),1≤n→n+f=nrem→SortedN key p n →
    (∀ m,n≤m→m≤nrem→SortedN key p m→(m=nrem∨O.klt (KN key p m) (KN key p (m - 1)))→G m s)→(kas_asc p f n).kasWp cmp G s
  | 0,n,h1,hf,hs,h=>h n (Nat.le_refl _) (by omega) hs (.inl (by omega))
  | f+1,n,h1,hf,hs,h=>by
    unfold kas_asc
    refine ask hc hp (by omega) (by omega) ?_
    cases hl:O.blt (KN key p n) (KN key p (n - 1)) with
    | true =>
      rw [if_pos rfl]
      exact h n (Nat.le_refl _) (by omega) hs (.inr hl)
    | false =>
      rw [if_neg (by simp)]
      refine asc hc hp hN f (n+1) (by omega) (by omega) (fun i j hij hj=>?_) fun m a b c d=>h m (by omega) b c d
      by_cases hjx:j < n
      · exact hs i j hij hjx
      · have hj':j=n:=by omega
        subst hj'
        by_cases hi':i=j
        · subst hi'; exact KeyOrd.kle_refl _
        · exact KeyOrd.kle_trans (hs i (j - 1) (by omega) (by omega)) hl
theorem desc {G:Array Nat × Nat × Nat→Shared→Prop} {nrem:Nat} (hc:Cmp key N cmp s) (hN:nrem≤N):∀ (f:Nat) (p:Array Nat) (n q:Nat),InN N p→1≤n→n+f=nrem→FallN key p n→q+1≤n →
    (∀ i,n - (q+1)≤i→i < n→KN key p i=KN key p (n - 1)) →
    (∀ p m q,InN N p→n≤m→m≤nrem→FallN key p m→q+1≤m→(∀ i,m - (q+1)≤i→i < m→KN key p i=KN key p (m - 1))→G (p,m,q) s)→(kas_desc f p n q).kasWp cmp G s
  | 0,p,n,q,hp,h1,hf,hs,hq,he,h=>h p n q hp (Nat.le_refl _) (by omega) hs hq he
  | f+1,p,n,q,hp,h1,hf,hs,hq,he,h=>by
    unfold kas_desc
    have hsz:n≤p.size:=by rw [hp.size]; omega
    refine ask hc hp (by omega) (by omega) ?_
    cases hl:O.blt (KN key p n) (KN key p (n - 1)) with
    | true =>
      rw [if_pos rfl]
      have step1:∀ xs:Array Nat,(∀ k,KN key xs k=KN key p k)→FallN key xs (n+1):=by
        intro xs hk i j hij hj
        rw [hk,hk]
        by_cases hjx:j < n
        · exact hs i j hij hjx
        · have hj':j=n:=by omega
          subst hj'
          by_cases hi':i=j
          · subst hi'; exact KeyOrd.kle_refl _
          · exact KeyOrd.kle_trans (KeyOrd.kle_of_klt hl) (hs i (j - 1) (by omega) (by omega))
      by_cases hneq:q > 0
      · rw [if_pos hneq]
        exact desc hc hN f _ (n+1) 0 (hp.rev _ _) (by omega) (by omega) (step1 _ (KN_rev_equal hsz he)) (by omega) (fun i a b=>by congr 1; omega) fun p m q x a b c d e=>h p m q x (by omega) b c d e
      · rw [if_neg hneq]
        exact desc hc hN f _ (n+1) 0 hp (by omega) (by omega) (step1 _ fun _=>rfl) (by omega) (fun i a b=>by congr 1; omega) fun p m q x a b c d e=>h p m q x (by omega) b c d e
    | false =>
      rw [if_neg (by simp)]
      refine ask hc hp (by omega) (by omega) ?_
      cases hg:O.blt (KN key p (n - 1)) (KN key p n) with
      | true =>
        rw [if_pos rfl]
        exact h p n q hp (Nat.le_refl _) (by omega) hs hq he
      | false =>
        rw [if_neg (by simp)]
        have heqx:KN key p n=KN key p (n - 1):=KeyOrd.kle_antisymm hg hl
        refine desc hc hN f p (n+1) (q+1) hp (by omega) (by omega) (fun i j hij hj=>?_) (by omega) (fun i a b=>?_) fun p m q x a b c d e=>h p m q x (by omega) b c d e
        · by_cases hjx:j < n
          · exact hs i j hij hjx
          · have hj':j=n:=by omega
            subst hj'
            by_cases hi':i=j
            · subst hi'; exact KeyOrd.kle_refl _
            · rw [heqx]; exact hs i (j - 1) (by omega) (by omega)
        · rw [show n+1 - 1=n by omega]
          by_cases hix:i=n
          · subst hix; rfl
          · rw [heqx]; exact he i (by omega) (by omega)
theorem tail3 {p:Array Nat} {n nrem:Nat} {G:Nat × Array Nat→Shared→Prop} (hc:Cmp key N cmp s) (hp:InN N p) (hN:nrem≤N) (h1:1≤n) (hn:n≤nrem) (hs:FallN key p n)
    (h:∀ m q,InN N q→1≤m→m≤nrem→SortedN key q m→G (m,q) s):(kas_tail3 n nrem p).kasWp cmp G s:=by
  unfold kas_tail3
  rw [KasT.kasWp_bind]
  have hsz:n≤p.size:=by rw [hp.size]; omega
  refine asc (nrem:=nrem) hc (hp.rev _ _) hN _ n h1 (by omega) (fun i j hij hj=>?_) fun m a b c _=>h m _ (hp.rev _ _) (by omega) b c
  rw [KN_rev hsz,KN_rev hsz,if_pos (by omega),if_pos (by omega)]
  exact hs _ _ (by omega) (by omega)
theorem descPart {p:Array Nat} {n nrem:Nat} {G:Nat × Array Nat→Shared→Prop} (hc:Cmp key N cmp s) (hp:InN N p) (hN:nrem≤N) (hn:n+1≤nrem) (hs:FallN key p (n+1))
    (h:∀ m q,InN N q→1≤m→m≤nrem→SortedN key q m→G (m,q) s):(kas_descPart n nrem p).kasWp cmp G s:=by
  unfold kas_descPart
  rw [KasT.kasWp_bind]
  refine desc (nrem:=nrem) hc hN _ p (n+1) 0 hp (by omega) (by omega) hs (by omega) (fun i a b=>by congr 1; omega) fun p' m q hp' hm1 hm2 hf hq he=>?_
  dsimp only
  have hsz:m≤p'.size:=by rw [hp'.size]; omega
  by_cases hneq:q > 0
  · rw [if_pos hneq]
    refine tail3 hc (hp'.rev _ _) hN (by omega) hm2 (fun i j hij hj=>?_) h
    rw [KN_rev_equal hsz he,KN_rev_equal hsz he]
    exact hf i j hij hj
  · rw [if_neg hneq]
    exact tail3 hc hp' hN (by omega) hm2 hf h
theorem count {p:Array Nat} {nrem:Nat} {G:Nat × Array Nat→Shared→Prop} (hc:Cmp key N cmp s) (hp:InN N p) (hN:nrem≤N) (h1:1≤nrem)
    (h:∀ m q,InN N q→1≤m→m≤nrem→SortedN key q m→G (m,q) s):(kas_count nrem p).kasWp cmp G s:=by
  unfold kas_count
  rw [KasT.kasWp_bind]
  refine asc (nrem:=nrem) hc hp hN _ 1 (Nat.le_refl _) (by omega) (fun i j hij hj=>by have:i=j:=(by omega); subst this; exact KeyOrd.kle_refl _) fun n hn1 hn2 hsn hor=>?_
  by_cases hnn:n=nrem
  · rw [if_pos (by simpa using hnn)]
    exact h n p hp hn1 hn2 hsn
  · rw [if_neg (by simpa using hnn)]
    have hlt:O.klt (KN key p n) (KN key p (n - 1)):=hor.resolve_left hnn
    by_cases hgt:n > 1
    · rw [if_pos hgt]
      refine ask hc hp (by omega) (by omega) ?_
      cases hrose:O.blt (KN key p 0) (KN key p (n - 1)) with
      | true =>
        rw [if_pos rfl]
        exact h n p hp hn1 hn2 hsn
      | false =>
        rw [if_neg (by simp)]
        have hsz:n≤p.size:=by rw [hp.size]; omega
        have hall:∀ k,0≤k→k < n→KN key p k=KN key p (n - 1):=by
          intro k _ hk
          have a1:=hsn 0 k (by omega) hk
          have a2:=hsn k (n - 1) (by omega) (by omega)
          exact KeyOrd.kle_antisymm a2 (KeyOrd.kle_trans hrose a1)
        refine descPart hc (hp.rev _ _) hN (by omega) (fun i j hij hj=>?_) h
        rw [KN_rev_equal hsz hall,KN_rev_equal hsz hall]
        by_cases hjn:j < n
        · rw [hall i (by omega) (by omega),hall j (by omega) hjn]; exact KeyOrd.kle_refl _
        · have hj':j=n:=by omega
          subst hj'
          by_cases hi':i=j
          · subst hi'; exact KeyOrd.kle_refl _
          · rw [hall i (by omega) (by omega)]; exact KeyOrd.kle_of_klt hlt
    · rw [if_neg hgt]
      have hn1':n=1:=by omega
      subst hn1'
      refine descPart hc hp hN (by omega) (fun i j hij hj=>?_) h
      by_cases hi':i=j
      · subst hi'; exact KeyOrd.kle_refl _
      · have hi0:i=0:=by omega
        have hj1:j=1:=by omega
        subst hi0; subst hj1
        exact KeyOrd.kle_of_klt hlt
theorem place {p:Array Nat} {k:Nat} {G:Nat→Shared→Prop} (hc:Cmp key N cmp s) (hp:InN N p) (hk:k < N) (hs:SortedN key p k):∀ (f l r:Nat),l≤r→r≤k→r - l≤f →
    (∀ i,i < l→O.kle (KN key p i) (KN key p k))→(∀ i,r≤i→i < k→O.klt (KN key p k) (KN key p i)) →
    (∀ l,l≤k→(∀ i,i < l→O.kle (KN key p i) (KN key p k))→(∀ i,l≤i→i < k→O.klt (KN key p k) (KN key p i))→G l s)→(kas_place p k f l r).kasWp cmp G s
  | 0,l,r,hlr,hrk,hf,hlo,hhi,h=>by
    have e:l=r:=by omega
    subst e
    exact h l hrk hlo hhi
  | f+1,l,r,hlr,hrk,hf,hlo,hhi,h=>by
    unfold kas_place
    by_cases hge:l ≥ r
    · rw [if_pos hge]
      have e:l=r:=by omega
      subst e
      exact h l hrk hlo hhi
    · rw [if_neg hge]
      refine ask hc hp hk (by omega) ?_
      cases hl:O.blt (KN key p k) (KN key p ((l+r) / 2)) with
      | true =>
        rw [if_pos rfl]
        exact place hc hp hk hs f l ((l+r) / 2) (by omega) (by omega) (by omega) hlo (fun i a b=>KeyOrd.klt_of_klt_of_kle hl (hs _ _ a b)) h
      | false =>
        rw [if_neg (by simp)]
        exact place hc hp hk hs f ((l+r) / 2+1) r (by omega) (by omega) (by omega) (fun i a=>KeyOrd.kle_trans (hs i ((l+r) / 2) (by omega) (by omega)) hl) hhi h
theorem bin {n:Nat} {G:Array Nat→Shared→Prop} (hc:Cmp key N cmp s) (hN:n≤N):∀ (f:Nat) (p:Array Nat) (k:Nat),InN N p→k+f=n→SortedN key p k →
    (∀ p,InN N p→SortedN key p n→G p s)→(kas_bin f p k).kasWp cmp G s
  | 0,p,k,hp,hf,hs,h=>h p hp (by rw [show n=k by omega]; exact hs)
  | f+1,p,k,hp,hf,hs,h=>by
    unfold kas_bin
    rw [KasT.kasWp_bind]
    refine place hc hp (by omega) hs k 0 k (by omega) (Nat.le_refl _) (by omega) (fun i a=>by omega) (fun i a b=>by omega) fun l hlk hlo hhi=>?_
    refine bin hc hN f _ (k+1) (hp.of (bubble_perm _ _ _)) (by omega) (fun i j hij hj=>?_) h
    have hks:k < p.size:=by rw [hp.size]; omega
    rw [KN_bubble hks (by omega),KN_bubble hks (by omega),show k - (k - l)=l by omega]
    repeat' split
    all_goals first
      | (exfalso; omega)
      | exact KeyOrd.kle_refl _
      | exact hlo _ (by omega)
      | exact KeyOrd.kle_of_klt (hhi _ (by omega) (by omega))
      | exact hs _ _ (by omega) (by omega)
theorem sort {G:Array Nat→Shared→Prop} (hc:Cmp key N cmp s) (h1:1≤N) (h:∀ p,InN N p→SortedN key p N→G p s):(kas_sort N).kasWp cmp G s:=by
  unfold kas_sort
  rw [KasT.kasWp_bind]
  refine count hc (show InN N _ by unfold InN; simp) (Nat.le_refl _) h1 fun m q hq hm1 hm2 hs=>?_
  dsimp only
  by_cases hlt:m < N
  · rw [if_pos hlt,show max m 1=m by omega]
    exact bin hc (Nat.le_refl _) _ q m hq (by omega) hs h
  · rw [if_neg hlt]
    obtain rfl:m=N:=by omega
    exact h q hq hs
end
section
variable {prog:Program} {w:World} {A:Around} {E:Value→Shared→Prop} {s:Shared}
def Keeps (h h':Heap):Prop:=∀ b o,h.get? b=some o→h'.get? b=some o
end
end SO
set_option Elab.async false
set_option linter.all false
set_option maxRecDepth 100000
set_option maxHeartbeats 4000000
namespace PySem.SeqAt
open AutoSeq1 (wpAny_loadPart')
open MeetsSeq MeetsSeq2 MeetsSeq3 SeqRoads2
def LtAt (A:Around) (s:Shared) (y x:Value) (b:Bool):Prop :=
  ∀ (prog:Program) (w:World) (E:Value→Shared→Prop) (Q:Value→Shared→Prop),Q (.bool b) s→wpAny (model prog w) A (richCompare .Lt y x) Q E s
def lexR (e f:Nat→Bool) (fin:Bool):List Nat→Bool
  | []=>fin
  | i :: r=>if e i=true then lexR e f fin r else f i
theorem tuple_ltAt (l b:Addr) (items items2:Array Value) (n n2:Nat) (dd dd2:Option Addr) (sl sl2:Array (Option Value)) (e f:Nat→Bool) :
    Meets (Builtin.«tuple.__lt__» ⟨[.ref l,.ref b],[]⟩)
      (fun A R s=>s.heap.get? l=some { cls:=.type "tuple",dict:=dd,data:=.seq items n,slots:=sl }∧s.heap.get? b=some { cls:=.type "tuple",dict:=dd2,data:=.seq items2 n2,slots:=sl2 } ∧
        (∀ j (h1:j < items.size) (h2:j < items2.size),EqAt A.in1 s items[j] items2[j] (e j))∧(∀ j (h1:j < items.size) (h2:j < items2.size),e j=false→LtAt A.in1 s items[j] items2[j] (f j)) ∧
        R (.ok (.ret (.bool (lexR e f (decide (items.size < items2.size)) (List.range (min items.size items2.size)))))) s) :=
  .of_wp fun prog w A R s h=>by
    obtain ⟨hp,g,d,tk,os⟩:=s; obtain ⟨hl,hb,he,hf,h⟩:=h
    have f2:=AutoSeq1.sub_tuple_tuple
    have hZ:(items.toList.zip items2.toList).length=min items.size items2.size:=by simp
    wp_walk using wpAny_loadPart' hl,wpAny_loadPart' hb,wpAny_forIn_list _ (fun rest b s'=>b.1=none∧s'=⟨hp,g,d,tk,os⟩∧∃ i,rest=(items.toList.zip items2.toList).drop i ∧
      R (.ok (.ret (.bool (lexR e f (decide (items.size < items2.size)) ((List.range (min items.size items2.size)).drop i))))) ⟨hp,g,d,tk,os⟩) _
    case turn =>
      rintro ⟨y,x⟩ rest b s' ⟨hb',rfl,i,hz,hR⟩
      have hlt:i < (items.toList.zip items2.toList).length:=by
        rcases Nat.lt_or_ge i (items.toList.zip items2.toList).length with h' | h'
        · exact h'
        · rw [List.drop_of_length_le h'] at hz; cases hz
      have hm:i < min items.size items2.size:=hZ ▸ hlt
      have h1:i < items.size:=Nat.lt_of_lt_of_le hm (Nat.min_le_left _ _)
      have h2:i < items2.size:=Nat.lt_of_lt_of_le hm (Nat.min_le_right _ _)
      rw [List.drop_eq_getElem_cons hlt] at hz
      injection hz with hyx hrest
      have hy:y=items[i]:=by have:=congrArg Prod.fst hyx; simpa using this
      have hx:x=items2[i]:=by have:=congrArg Prod.snd hyx; simpa using this
      subst hy hx
      have hd:(List.range (min items.size items2.size)).drop i=i :: (List.range (min items.size items2.size)).drop (i+1):=by simp [List.drop_eq_getElem_cons,hm]
      rw [hd] at hR
      refine wpAny_bind (he i h1 h2 prog w _ _ ?_)
      cases hy:e i with
      | true =>
        have hR':R (.ok (.ret (.bool (lexR e f (decide (items.size < items2.size)) ((List.range (min items.size items2.size)).drop (i+1)))))) ⟨hp,g,d,tk,os⟩:=by
          have:lexR e f (decide (items.size < items2.size)) (i :: (List.range (min items.size items2.size)).drop (i+1))=lexR e f (decide (items.size < items2.size)) ((List.range (min items.size items2.size)).drop (i+1)):=by
            show (if e i=true then _ else _)=_
            rw [if_pos hy]
          rw [this] at hR
          exact hR
        wp_walk
        exact ⟨rfl,rfl,i+1,hrest,hR'⟩
      | false =>
        have hR':R (.ok (.ret (.bool (f i)))) ⟨hp,g,d,tk,os⟩:=by
          have:lexR e f (decide (items.size < items2.size)) (i :: (List.range (min items.size items2.size)).drop (i+1))=f i:=by
            show (if e i=true then _ else _)=_
            rw [if_neg (by simp [hy])]
          rw [this] at hR
          exact hR
        simp only [Bool.not_false,if_true]
        refine wpAny_bind (wpAny_rule (wpAny_bind (hf i h1 h2 hy prog w _ _ ?_)))
        wp_walk
        exact ⟨_,rfl,hR'⟩
    case fin =>
      rintro ⟨b1,b2⟩ s' ⟨hb',rfl,i,hz,hR⟩
      simp only at hb'
      subst hb'
      have hge:min items.size items2.size≤i:=by
        rcases Nat.lt_or_ge i (items.toList.zip items2.toList).length with h' | h'
        · rw [List.drop_eq_getElem_cons h'] at hz; cases hz
        · exact hZ ▸ h'
      rw [List.drop_of_length_le (by simpa using hge)] at hR
      wp_walk
      exact ⟨_,rfl,by simpa [Builtin.Tuple.tupleCompareSizes,lexR] using hR⟩
    case h =>
      exact ⟨rfl,rfl,0,rfl,by simpa using h⟩
section
variable {A:Around} {s:Shared}
theorem LtAt.tuples {l b:Addr} {items items2:Array Value} {e f:Nat→Bool} (hl:s.heap.IsTuple l items) (hb:s.heap.IsTuple b items2) (hu:A.units < cLine)
    (he:∀ j (h1:j < items.size) (h2:j < items2.size),EqAt A.in1 s items[j] items2[j] (e j)) (hf:∀ j (h1:j < items.size) (h2:j < items2.size),e j=false→LtAt A.in1 s items[j] items2[j] (f j)) :
    LtAt A s (.ref l) (.ref b) (lexR e f (decide (items.size < items2.size)) (List.range (min items.size items2.size))):=fun prog w E Q h=>by
  obtain ⟨⟨cls,dd,data,sl⟩,ho,hc,n,hd⟩:=id hl
  obtain ⟨⟨cls2,dd2,data2,sl2⟩,ho2,hc2,n2,hd2⟩:=id hb
  simp only at hc hd hc2 hd2
  subst hc hd hc2 hd2
  exact richCompare_meets_room (op:=.Lt) ⟨_,ho,rfl⟩ ⟨_,ho2,rfl⟩ F.slot_tuple_lt F.entry_tuple_lt (F.args_tuple_lt_2 _ _) (tuple_ltAt l b items items2 n n2 dd dd2 sl sl2 e f)
    ⟨ho,ho2,he,hf,show Value.bool (lexR e f (decide (items.size < items2.size)) (List.range (min items.size items2.size)))≠Value.notImplemented∧Q (.bool (lexR e f (decide (items.size < items2.size)) (List.range (min items.size items2.size)))) s from ⟨(fun x=>nomatch x),h⟩⟩ hu
end
end PySem.SeqAt
set_option Elab.async false
set_option linter.all false
set_option maxRecDepth 100000
set_option maxHeartbeats 400000
namespace L2
open PySem PySem.Spec PyProof.Rows
def rankD:D→Nat
  | .non=>0 | .bl _=>1 | .int _=>2 | .str _=>3 | .tup _=>4
open Classical in
noncomputable def eqD (a b:D):Bool:=decide (a=b)
theorem str_ext {x y:Str} (e:x.cps.toList=y.cps.toList):x=y:=by
  cases x; cases y
  simp only at e
  congr
  exact Array.toList_inj.mp e
theorem eqD_eq {a b:D} (h:eqD a b=true):a=b:=@of_decide_eq_true _ (Classical.propDecidable _) h
theorem eqD_self (d:D):eqD d d=true:=@decide_eq_true _ (Classical.propDecidable _) rfl
theorem eqD_iff {a b:D}:eqD a b=true↔a=b:=⟨eqD_eq,fun h=>by subst h; exact eqD_self _⟩
theorem eqD_no {a b:D} (h:eqD a b=false):a≠b:=fun e=>by
  rw [eqD_iff.mpr e] at h
  cases h
def klt:D→D→Bool
  | .bl a=>fun e=>match e with | .bl b=>!a && b | _=>false
  | .int a=>fun e=>match e with | .int b=>decide (a < b) | _=>false
  | .str x=>fun e=>match e with | .str y=>decide (x.cps.toList < y.cps.toList) | _=>false
  | _=>fun _=>false
def dlt0 (a b:D):Bool:=decide (rankD a < rankD b) || klt a b
mutual
noncomputable def dlt:D→D→Bool
  | .tup xs=>fun e=>match e with | .tup ys=>dltL xs ys | _=>false
  | .non=>dlt0 .non
  | .bl b=>dlt0 (.bl b)
  | .int i=>dlt0 (.int i)
  | .str x=>dlt0 (.str x)
noncomputable def dltL:List D→List D→Bool
  | []=>fun ys=>match ys with | []=>false | _ :: _=>true
  | x :: xs=>fun ys=>match ys with | []=>false | y :: ys=>if eqD x y=true then dltL xs ys else dlt x y
end
theorem dlt_int (a b:Int):dlt (.int a) (.int b)=decide (a < b):=rfl
theorem dlt_str (x y:Str):dlt (.str x) (.str y)=decide (x.cps.toList < y.cps.toList):=rfl
theorem dlt_tt (xs ys:List D):dlt (.tup xs) (.tup ys)=dltL xs ys:=rfl
theorem dltL_nc (y:D) (ys:List D):dltL [] (y :: ys)=true:=rfl
theorem dltL_cn (x:D) (xs:List D):dltL (x :: xs) []=false:=rfl
theorem dltL_cc (x y:D) (xs ys:List D):dltL (x :: xs) (y :: ys)=if eqD x y=true then dltL xs ys else dlt x y:=rfl
theorem str_tri {x y:Str} (h1:¬ x.cps.toList < y.cps.toList) (h2:¬ y.cps.toList < x.cps.toList):x=y :=
  str_ext (List.le_antisymm (List.not_lt.mp h2) (List.not_lt.mp h1))
theorem ff {P:Prop} (h:false=true):P:=Bool.noConfusion h
theorem klt_e {P:D→D→Prop} (h1:P (.bl false) (.bl true)) (h2:∀ i j:Int,i < j→P (.int i) (.int j)) (h3:∀ x y:Str,x.cps.toList < y.cps.toList→P (.str x) (.str y)):∀ {a b:D},klt a b=true→P a b:=by
  intro a b h
  cases a with
  | bl p =>
    cases b with
    | bl q=>cases p <;> cases q <;> first | exact h1 | exact ff h
    | non=>exact ff h
    | int _=>exact ff h
    | str _=>exact ff h
    | tup _=>exact ff h
  | int p =>
    cases b with
    | int q=>exact h2 p q (of_decide_eq_true h)
    | non=>exact ff h
    | bl _=>exact ff h
    | str _=>exact ff h
    | tup _=>exact ff h
  | str p =>
    cases b with
    | str q=>exact h3 p q (of_decide_eq_true h)
    | non=>exact ff h
    | bl _=>exact ff h
    | int _=>exact ff h
    | tup _=>exact ff h
  | non=>exact ff h
  | tup _=>exact ff h
theorem klt_rank {a b:D} (h:klt a b=true):rankD a=rankD b∧rankD a < 4:=klt_e (P:=fun a b=>rankD a=rankD b∧rankD a < 4) ⟨rfl,by decide⟩ (fun _ _ _=>⟨rfl,by show 2 < 4; decide⟩) (fun _ _ _=>⟨rfl,by show 3 < 4; decide⟩) h
theorem klt_tr {a b c:D} (h:klt a b=true):klt b c=true→klt a c=true:=klt_e (P:=fun a b=>klt b c=true→klt a c=true) (fun h=>by cases c <;> exact ff h)
  (fun i j hij h=>by
    cases c with
    | int k=>exact decide_eq_true (Int.lt_trans hij (of_decide_eq_true h))
    | _=>exact ff h)
  (fun x y hxy h=>by
    cases c with
    | str z=>exact decide_eq_true (List.lt_trans hxy (of_decide_eq_true h))
    | _=>exact ff h) h
theorem dlt0_e {a b:D} (h:dlt0 a b=true):rankD a < rankD b∨klt a b=true:=(Bool.or_eq_true _ _ ▸ h:_∨_).imp of_decide_eq_true id
theorem dlt0_r {a b:D} (h:rankD a < rankD b):dlt0 a b=true:=by unfold dlt0; rw [decide_eq_true h]; rfl
theorem dlt0_k {a b:D} (h:klt a b=true):dlt0 a b=true:=by unfold dlt0; rw [h,Bool.or_true]
theorem dlt_0:∀ {a:D} (b:D),rankD a < 4→dlt a b=dlt0 a b
  | .non,_,_=>rfl
  | .bl _,_,_=>rfl
  | .int _,_,_=>rfl
  | .str _,_,_=>rfl
  | .tup _,_,h=>absurd h (by show ¬ 4 < 4; decide)
theorem tup_lt {xs:List D} {b:D} (h:dlt (.tup xs) b=true):∃ ys,b=.tup ys∧dltL xs ys=true:=by
  cases b with
  | tup ys=>exact ⟨ys,rfl,h⟩
  | _=>exact ff h
theorem tup_of {a:D} (h:¬ rankD a < 4):∃ xs,a=.tup xs:=by
  cases a with
  | tup xs=>exact ⟨xs,rfl⟩
  | non=>exact absurd (show 0 < 4 by decide) h
  | bl _=>exact absurd (show 1 < 4 by decide) h
  | int _=>exact absurd (show 2 < 4 by decide) h
  | str _=>exact absurd (show 3 < 4 by decide) h
theorem dlt_rank {a b:D} (h:dlt a b=true):rankD a≤rankD b:=by
  by_cases ha:rankD a < 4
  · rw [dlt_0 b ha] at h
    rcases dlt0_e h with h | h
    · omega
    · exact Nat.le_of_eq (klt_rank h).1
  · obtain ⟨xs,rfl⟩:=tup_of ha
    obtain ⟨ys,rfl,_⟩:=tup_lt h
    exact Nat.le_refl _
theorem tr0 {a b c:D} (ha:rankD a < 4) (h1:dlt a b=true) (h2:dlt b c=true):dlt a c=true:=by
  rw [dlt_0 _ ha] at h1 ⊢
  have hr:=dlt_rank h2
  rcases dlt0_e h1 with h | h
  · exact dlt0_r (Nat.lt_of_lt_of_le h hr)
  · have hk:=klt_rank h
    rw [dlt_0 _ (by rw [← hk.1]; exact hk.2)] at h2
    rcases dlt0_e h2 with q | q
    · exact dlt0_r (by rw [hk.1]; exact q)
    · exact dlt0_k (klt_tr h q)
theorem tot0:∀ {a:D} (b:D),rankD a < 4→dlt a b=false→dlt b a=false→a=b:=by
  intro a b ha h1 h2
  rw [dlt_0 _ ha] at h1
  have k1:¬ rankD a < rankD b:=fun z=>by rw [dlt0_r z] at h1; cases h1
  have hb:rankD b < 4:=by omega
  rw [dlt_0 _ hb] at h2
  have k2:¬ rankD b < rankD a:=fun z=>by rw [dlt0_r z] at h2; cases h2
  have q1:klt a b=false:=by
    cases h:klt a b with
    | false=>rfl
    | true=>rw [dlt0_k h] at h1; cases h1
  have q2:klt b a=false:=by
    cases h:klt b a with
    | false=>rfl
    | true=>rw [dlt0_k h] at h2; cases h2
  have e:rankD a=rankD b:=by omega
  clear h1 h2 k1 k2 hb
  cases a with
  | non=>cases b <;> first | rfl | exact absurd e (Nat.ne_of_beq_eq_false rfl)
  | bl p =>
    cases b with
    | bl q=>cases p <;> cases q <;> first | rfl | exact ff q1.symm | exact ff q2.symm
    | _=>exact absurd e (Nat.ne_of_beq_eq_false rfl)
  | int p =>
    cases b with
    | int q=>exact congrArg D.int (Int.le_antisymm (Int.not_lt.mp (of_decide_eq_false q2)) (Int.not_lt.mp (of_decide_eq_false q1)))
    | _=>exact absurd e (Nat.ne_of_beq_eq_false rfl)
  | str p =>
    cases b with
    | str q=>exact congrArg D.str (str_tri (of_decide_eq_false q1) (of_decide_eq_false q2))
    | _=>exact absurd e (Nat.ne_of_beq_eq_false rfl)
  | tup _=>exact absurd ha (by show ¬ 4 < 4; decide)
mutual
theorem dlt_irr:∀ d:D,dlt d d=false
  | .non=>rfl
  | .bl b=>by cases b <;> rfl
  | .int i=>decide_eq_false (Int.lt_irrefl i)
  | .str x=>decide_eq_false (List.lt_irrefl _)
  | .tup xs=>dltL_irr xs
theorem dltL_irr:∀ ds:List D,dltL ds ds=false
  | []=>rfl
  | d :: ds=>by rw [dltL_cc,if_pos (eqD_self d)]; exact dltL_irr ds
end
mutual
theorem dlt_tot:∀ a b:D,dlt a b=false→dlt b a=false→a=b
  | .non,b,h1,h2=>tot0 b (by show 0 < 4; decide) h1 h2
  | .bl x,b,h1,h2=>tot0 b (by show 1 < 4; decide) h1 h2
  | .int x,b,h1,h2=>tot0 b (by show 2 < 4; decide) h1 h2
  | .str x,b,h1,h2=>tot0 b (by show 3 < 4; decide) h1 h2
  | .tup xs,b,h1,h2=>by
    by_cases hb:rankD b < 4
    · exact (tot0 (.tup xs) hb h2 h1).symm
    · obtain ⟨ys,rfl⟩:=tup_of hb
      exact congrArg D.tup (dltL_tot xs ys h1 h2)
theorem dltL_tot:∀ a b:List D,dltL a b=false→dltL b a=false→a=b
  | [],[],_,_=>rfl
  | [],_ :: _,h1,_=>ff h1.symm
  | _ :: _,[],_,h2=>ff h2.symm
  | x :: xs,y :: ys,h1,h2=>by
    rw [dltL_cc] at h1 h2
    cases he:eqD x y with
    | true =>
      have e:=eqD_eq he
      subst e
      rw [if_pos he] at h1 h2
      rw [dltL_tot xs ys h1 h2]
    | false =>
      rw [if_neg (fun z=>eqD_no he (eqD_eq z))] at h1
      rw [if_neg (fun z=>eqD_no he (eqD_eq z).symm)] at h2
      exact absurd (dlt_tot x y h1 h2) (eqD_no he)
end
mutual
theorem dlt_tr:∀ a b c:D,dlt a b=true→dlt b c=true→dlt a c=true
  | .non,b,c,h1,h2=>tr0 (by show 0 < 4; decide) h1 h2
  | .bl x,b,c,h1,h2=>tr0 (by show 1 < 4; decide) h1 h2
  | .int x,b,c,h1,h2=>tr0 (by show 2 < 4; decide) h1 h2
  | .str x,b,c,h1,h2=>tr0 (by show 3 < 4; decide) h1 h2
  | .tup xs,b,c,h1,h2=>by
    obtain ⟨ys,rfl,q1⟩:=tup_lt h1
    obtain ⟨zs,rfl,q2⟩:=tup_lt h2
    exact dltL_tr xs ys zs q1 q2
theorem dltL_tr:∀ a b c:List D,dltL a b=true→dltL b c=true→dltL a c=true
  | [],[],_,h1,_=>ff h1
  | [],_ :: _,[],_,h2=>ff h2
  | [],_ :: _,_ :: _,_,_=>rfl
  | _ :: _,[],_,h1,_=>ff h1
  | _ :: _,_ :: _,[],_,h2=>ff h2
  | x :: xs,y :: ys,z :: zs,h1,h2=>by
    rw [dltL_cc] at h1 h2 ⊢
    cases hxy:eqD x y with
    | true =>
      have e:=eqD_eq hxy
      subst e
      rw [if_pos hxy] at h1
      cases hxz:eqD x z with
      | true =>
        rw [if_pos hxz] at h2
        rw [if_pos rfl]
        exact dltL_tr xs ys zs h1 h2
      | false =>
        rw [if_neg (fun z=>eqD_no hxz (eqD_eq z))] at h2
        rw [if_neg Bool.false_ne_true]
        exact h2
    | false =>
      rw [if_neg (fun z=>eqD_no hxy (eqD_eq z))] at h1
      cases hyz:eqD y z with
      | true =>
        have e:=eqD_eq hyz
        subst e
        rw [if_neg (fun z=>eqD_no hxy (eqD_eq z))]
        exact h1
      | false =>
        rw [if_neg (fun z=>eqD_no hyz (eqD_eq z))] at h2
        have g:=dlt_tr x y z h1 h2
        rw [if_neg]
        · exact g
        · intro z'
          have e:=eqD_eq z'
          subst e
          rw [dlt_irr] at g
          cases g
end
noncomputable def ordD:KeyOrd where
  α:=D
  blt:=dlt
  irrefl:=dlt_irr
  trans:=dlt_tr
  negTrans:=fun a b c h=>by
    cases h1:dlt a b with
    | true=>exact .inl rfl
    | false =>
      cases h2:dlt b a with
      | true=>exact .inr (dlt_tr b a c h2 h)
      | false =>
        have e:=dlt_tot a b h1 h2
        subst e
        exact .inr h
  total:=dlt_tot
end L2
set_option Elab.async false
set_option linter.all false
set_option maxRecDepth 100000
set_option maxHeartbeats 200000
namespace L2
open PySem PySem.Spec PyProof.Rows
def UpD (ds:List D):Prop:=ds.Pairwise fun a b=>dlt b a=false
theorem upD_unique {xs ys:List D} (hx:UpD xs) (hy:UpD ys) (h:xs.Perm ys):xs=ys :=
  h.eq_of_pairwise (fun a b _ _ h1 h2=>dlt_tot a b h2 h1) hx hy
mutual
def Sim:D→D→Prop
  | .int _=>fun e=>match e with | .int _=>True | _=>False
  | .str _=>fun e=>match e with | .str _=>True | _=>False
  | .tup xs=>fun e=>match e with | .tup ys=>SimL xs ys | _=>False
  | _=>fun _=>False
def SimL:List D→List D→Prop
  | []=>fun _=>True
  | x :: xs=>fun ys=>match ys with | []=>True | y :: ys=>Sim x y∧SimL xs ys
end
theorem Sim_t {xs ys:List D} (h:SimL xs ys):Sim (.tup xs) (.tup ys):=h
theorem Sim_t' {xs ys:List D} (h:Sim (.tup xs) (.tup ys)):SimL xs ys:=h
theorem SimL_c {x y:D} {xs ys:List D} (h:Sim x y) (k:SimL xs ys):SimL (x :: xs) (y :: ys):=⟨h,k⟩
theorem SimL_c' {x y:D} {xs ys:List D} (h:SimL (x :: xs) (y :: ys)):Sim x y∧SimL xs ys:=h
theorem SimL_n (ys:List D):SimL [] ys:=trivial
theorem SimL_m (xs:List D):SimL xs []:=by cases xs <;> exact trivial
theorem SimL.at_:∀ {xs ys:List D} {i:Nat} {x y:D},SimL xs ys→xs[i]?=some x→ys[i]?=some y→Sim x y
  | [],_,i,x,y,_,hx,_=>by simp at hx
  | _ :: _,[],i,x,y,_,_,hy=>by simp at hy
  | a :: xs,b :: ys,0,x,y,h,hx,hy=>by
    simp at hx hy
    subst hx; subst hy
    exact (SimL_c' h).1
  | a :: xs,b :: ys,i+1,x,y,h,hx,hy=>by
    exact SimL.at_ (i:=i) (SimL_c' h).2 (by simpa using hx) (by simpa using hy)
mutual
theorem Den.det {H:Hp}:∀ {d e:D} {v:V},Den H v d→Den H v e→d=e
  | .non,e,v,h1,h2=>by
    have:v=.non:=h1
    subst this
    cases e with
    | non=>rfl
    | tup ds=>obtain ⟨p,vs,z,_⟩:=den_tup h2; cases z
    | bl b=>exact absurd (show V.non=.bl b from h2) (fun z=>nomatch z)
    | int b=>exact absurd (show V.non=.int b from h2) (fun z=>nomatch z)
    | str b=>exact absurd (show V.non=.str b from h2) (fun z=>nomatch z)
  | .bl b,e,v,h1,h2=>by
    have:v=.bl b:=h1
    subst this
    cases e with
    | bl c=>have z:V.bl b=.bl c:=h2; cases z; rfl
    | tup ds=>obtain ⟨p,vs,z,_⟩:=den_tup h2; cases z
    | non=>exact absurd (show V.bl b=.non from h2) (fun z=>nomatch z)
    | int c=>exact absurd (show V.bl b=.int c from h2) (fun z=>nomatch z)
    | str c=>exact absurd (show V.bl b=.str c from h2) (fun z=>nomatch z)
  | .int b,e,v,h1,h2=>by
    have:v=.int b:=h1
    subst this
    cases e with
    | int c=>have z:V.int b=.int c:=h2; cases z; rfl
    | tup ds=>obtain ⟨p,vs,z,_⟩:=den_tup h2; cases z
    | non=>exact absurd (show V.int b=.non from h2) (fun z=>nomatch z)
    | bl c=>exact absurd (show V.int b=.bl c from h2) (fun z=>nomatch z)
    | str c=>exact absurd (show V.int b=.str c from h2) (fun z=>nomatch z)
  | .str b,e,v,h1,h2=>by
    have:v=.str b:=h1
    subst this
    cases e with
    | str c=>have z:V.str b=.str c:=h2; cases z; rfl
    | tup ds=>obtain ⟨p,vs,z,_⟩:=den_tup h2; cases z
    | non=>exact absurd (show V.str b=.non from h2) (fun z=>nomatch z)
    | bl c=>exact absurd (show V.str b=.bl c from h2) (fun z=>nomatch z)
    | int c=>exact absurd (show V.str b=.int c from h2) (fun z=>nomatch z)
  | .tup ds,e,v,h1,h2=>by
    obtain ⟨p,vs,rfl,hp,hd⟩:=den_tup h1
    cases e with
    | tup es =>
      obtain ⟨q,us,z,hq,he⟩:=den_tup h2
      cases z
      rw [hp] at hq
      cases hq
      rw [DenL.det hd he]
    | non=>exact absurd (show V.ref p=.non from h2) (fun z=>nomatch z)
    | bl c=>exact absurd (show V.ref p=.bl c from h2) (fun z=>nomatch z)
    | int c=>exact absurd (show V.ref p=.int c from h2) (fun z=>nomatch z)
    | str c=>exact absurd (show V.ref p=.str c from h2) (fun z=>nomatch z)
theorem DenL.det {H:Hp}:∀ {ds es:List D} {vs:List V},DenL H vs ds→DenL H vs es→ds=es
  | [],[],_,_,_=>rfl
  | [],_ :: _,[],_,h=>h.elim
  | [],_ :: _,_ :: _,h,_=>h.elim
  | _ :: _,[],[],h,_=>h.elim
  | _ :: _,[],_ :: _,_,h=>h.elim
  | _ :: _,_ :: _,[],h,_=>h.elim
  | d :: ds,e :: es,v :: vs,h1,h2=>by rw [Den.det h1.1 h2.1,DenL.det h1.2 h2.2]
end
open SeqAt (lexR)
theorem lexR_map (e f:Nat→Bool) (fin:Bool):∀ r:List Nat,lexR e f fin (r.map Nat.succ)=lexR (fun i=>e (i+1)) (fun i=>f (i+1)) fin r
  | []=>rfl
  | i :: r=>by
    show (if e (i+1)=true then lexR e f fin (r.map Nat.succ) else f (i+1))=_
    rw [lexR_map e f fin r]
    rfl
theorem lexR_dlt:∀ xs ys:List D,lexR (fun j=>eqD (xs.getD j .non) (ys.getD j .non)) (fun j=>dlt (xs.getD j .non) (ys.getD j .non)) (decide (xs.length < ys.length)) (List.range (min xs.length ys.length))=dltL xs ys
  | [],[]=>rfl
  | [],y :: ys=>by rw [dltL_nc]; simp [lexR]
  | x :: xs,[]=>by rw [dltL_cn]; simp [lexR]
  | x :: xs,y :: ys=>by
    have ih:=lexR_dlt xs ys
    rw [dltL_cc,show min (x :: xs).length (y :: ys).length=min xs.length ys.length+1 by simp only [List.length_cons]; omega,List.range_succ_eq_map]
    show (if eqD x y=true then lexR _ _ _ ((List.range (min xs.length ys.length)).map Nat.succ) else dlt x y)=_
    rw [lexR_map]
    have ed:decide ((x :: xs).length < (y :: ys).length)=decide (xs.length < ys.length):=by simp
    rw [ed]
    cases he:eqD x y with
    | true =>
      rw [if_pos rfl,if_pos rfl]
      simpa using ih
    | false =>
      rw [if_neg (by simp),if_neg (by simp)]
theorem allR_eq:∀ xs ys:List D,((List.range (min xs.length ys.length)).all (fun j=>eqD (xs.getD j .non) (ys.getD j .non)) && xs.length == ys.length)=eqD (.tup xs) (.tup ys):=by
  intro xs ys
  rw [Bool.eq_iff_iff,eqD_iff]
  constructor
  · intro h
    simp only [Bool.and_eq_true,List.all_eq_true,List.mem_range,beq_iff_eq] at h
    obtain ⟨h1,h2⟩:=h
    congr 1
    apply List.ext_getElem h2
    intro i a b
    have:=eqD_iff.mp (h1 i (by omega))
    simpa [List.getD_eq_getElem?_getD,a,b] using this
  · intro h
    injection h with h
    subst h
    simp [eqD_iff]
end L2
set_option Elab.async false
set_option linter.all false
set_option maxRecDepth 100000
set_option maxHeartbeats 200000
namespace L2
open PySem PySem.Spec PyProof.Rows
section
variable {X:Cx} {pins:List (Addr × Obj)} {σ:St} {H:Hp} {s:Shared}
theorem tup_keep {h h':Heap} {a:Addr} {its:Array Value} (k:SO.Keeps h h') (t:h.IsTuple a its):h'.IsTuple a its:=by
  obtain ⟨o,e,r⟩:=t
  exact ⟨o,k _ _ e,r⟩
theorem eq_intD {s':Shared} {i j:Int} {A:Around} {x y:V} {v u:Value} (hx:Den H x (.int i)) (hy:Den H y (.int j)) (rx:RelV x v) (ry:RelV y u):SeqAt.EqAt A s' v u (eqD (.int i) (.int j)):=by
  have e1:x=.int i:=hx
  have e2:y=.int j:=hy
  subst e1
  subst e2
  obtain ⟨t,rfl⟩:=rx
  obtain ⟨t',rfl⟩:=ry
  have key:=SeqAt.EqAt.int_int (A:=A) (s:=s') i t j t'
  have e:(i == j)=eqD (.int i) (.int j):=by
    rw [Bool.eq_iff_iff,eqD_iff,beq_iff_eq]
    exact ⟨fun z=>by rw [z],fun z=>by injection z⟩
  rw [← e]
  exact key
theorem eq_strD {s':Shared} {i j:Str} {A:Around} {x y:V} {v u:Value} (hx:Den H x (.str i)) (hy:Den H y (.str j)) (rx:RelV x v) (ry:RelV y u):SeqAt.EqAt A s' v u (eqD (.str i) (.str j)):=by
  have e1:x=.str i:=hx
  have e2:y=.str j:=hy
  subst e1
  subst e2
  obtain ⟨t,rfl⟩:=rx
  obtain ⟨t',rfl⟩:=ry
  have key:=SeqAt.EqAt.str_str (A:=A) (s:=s') i t j t'
  have e:(i == j)=eqD (.str i) (.str j):=by
    rw [Bool.eq_iff_iff,eqD_iff,beq_iff_eq]
    exact ⟨fun z=>by rw [z],fun z=>by injection z⟩
  rw [← e]
  exact key
theorem lt_intD {s':Shared} {i j:Int} {A:Around} {x y:V} {v u:Value} (hx:Den H x (.int i)) (hy:Den H y (.int j)) (rx:RelV x v) (ry:RelV y u):SeqAt.LtAt A s' v u (dlt (.int i) (.int j)):=by
  have e1:x=.int i:=hx
  have e2:y=.int j:=hy
  subst e1
  subst e2
  obtain ⟨t,rfl⟩:=rx
  obtain ⟨t',rfl⟩:=ry
  intro prog w E Q h
  rw [dlt_int] at h
  exact PyProof.Rows.lt_int h
theorem lt_strD {s':Shared} {i j:Str} {A:Around} {x y:V} {v u:Value} (hx:Den H x (.str i)) (hy:Den H y (.str j)) (rx:RelV x v) (ry:RelV y u):SeqAt.LtAt A s' v u (dlt (.str i) (.str j)):=by
  have e1:x=.str i:=hx
  have e2:y=.str j:=hy
  subst e1
  subst e2
  obtain ⟨t,rfl⟩:=rx
  obtain ⟨t',rfl⟩:=ry
  intro prog w E Q h
  rw [dlt_str] at h
  exact PyProof.Rows.lt_str h
def CmpD (H:Hp) (s':Shared) (n:Nat):Prop :=
  ∀ (d e:D) (A:Around) (x y:V) (v u:Value),Shal n d→Shal n e→Sim d e→Den H x d→Den H y e→RelV x v→RelV y u→A.units+n < cLine→SeqAt.EqAt A s' v u (eqD d e)∧SeqAt.LtAt A s' v u (dlt d e)
theorem cmpD_tup (I:Inv X pins σ H s) {s':Shared} (kp:SO.Keeps s.heap s'.heap) {n:Nat} (ih:CmpD H s' n) {ds es:List D} {A:Around} {x y:V} {v u:Value} (hs:Shal (n+1) (.tup ds)) (hs2:Shal (n+1) (.tup es))
    (hm:Sim (.tup ds) (.tup es)) (hx:Den H x (.tup ds)) (hy:Den H y (.tup es)) (rx:RelV x v) (ry:RelV y u) (hu:A.units+(n+1) < cLine):SeqAt.EqAt A s' v u (eqD (.tup ds) (.tup es))∧SeqAt.LtAt A s' v u (dlt (.tup ds) (.tup es)):=by
  obtain ⟨a,vs,rfl,ha,hda⟩:=den_tup hx
  obtain ⟨b,us,rfl,hb,hdb⟩:=den_tup hy
  cases rx
  cases ry
  obtain ⟨its,r1,p1,_⟩:=I.tuple (SqT.of (K:=X.K) ha)
  obtain ⟨its2,r2,p2,_⟩:=I.tuple (SqT.of (K:=X.K) hb)
  have l1:=hda.len
  have l2:=hdb.len
  have m1:=r1.length
  have m2:=r2.length
  replace hm:=Sim_t' hm
  have both:∀ j (h1:j < its.toArray.size) (h2:j < its2.toArray.size),SeqAt.EqAt A.in1 s' its.toArray[j] its2.toArray[j] (eqD (ds.getD j .non) (es.getD j .non))∧SeqAt.LtAt A.in1 s' its.toArray[j] its2.toArray[j] (dlt (ds.getD j .non) (es.getD j .non)):=by
    intro j h1 h2
    have hj1:j < vs.length:=by simpa [m1] using h1
    have hj2:j < us.length:=by simpa [m2] using h2
    obtain ⟨d1,g1,b1⟩:=hda.at_ (List.getElem?_eq_getElem hj1)
    obtain ⟨d2,g2,b2⟩:=hdb.at_ (List.getElem?_eq_getElem hj2)
    obtain ⟨w1,hw1,rw1⟩:=r1.get (List.getElem?_eq_getElem hj1)
    obtain ⟨w2,hw2,rw2⟩:=r2.get (List.getElem?_eq_getElem hj2)
    have q1:its.toArray[j]=w1:=by
      have:=(List.getElem?_eq_some_iff.mp hw1).2
      simpa using this
    have q2:its2.toArray[j]=w2:=by
      have:=(List.getElem?_eq_some_iff.mp hw2).2
      simpa using this
    rw [q1,q2]
    rw [List.getD_eq_getElem?_getD,List.getD_eq_getElem?_getD,g1,g2]
    have s1:=(hs.2 ds rfl).2 d1 (List.mem_of_getElem? g1)
    have s2:=(hs2.2 es rfl).2 d2 (List.mem_of_getElem? g2)
    exact ih d1 d2 A.in1 _ _ _ _ s1 s2 (hm.at_ g1 g2) b1 b2 rw1 rw2 (by first | (simp only [Around.in1]; omega) | omega)
  constructor
  · by_cases hab:a=b
    · subst hab
      have e:=Den.det hx hy
      rw [eqD_iff.mpr e]
      exact SeqAt.EqAt.same _
    · have key:=SeqAt.EqAt.of_refs hab (SeqAt.RcAt.tuples (A:=A) (s:=s') (e:=fun j=>eqD (ds.getD j .non) (es.getD j .non)) (tup_keep kp p1) (tup_keep kp p2) (by omega) fun j h1 h2=>(both j h1 h2).1)
      have q:=allR_eq ds es
      rw [show ds.length=its.toArray.size by simp; omega,show es.length=its2.toArray.size by simp; omega] at q
      rw [q] at key
      exact key
  · have key:=SeqAt.LtAt.tuples (A:=A) (s:=s') (e:=fun j=>eqD (ds.getD j .non) (es.getD j .non)) (f:=fun j=>dlt (ds.getD j .non) (es.getD j .non)) (tup_keep kp p1) (tup_keep kp p2) (by omega)
      (fun j h1 h2=>(both j h1 h2).1) (fun j h1 h2 _=>(both j h1 h2).2)
    have q:=lexR_dlt ds es
    rw [show ds.length=its.toArray.size by simp; omega,show es.length=its2.toArray.size by simp; omega] at q
    rw [q] at key
    rw [dlt_tt]
    exact key
theorem sim_cases {P:D→D→Prop} (hi:∀ i j,P (.int i) (.int j)) (hs:∀ i j,P (.str i) (.str j)) (ht:∀ xs ys,SimL xs ys→P (.tup xs) (.tup ys)):∀ {d e:D},Sim d e→P d e:=by
  intro d e h
  cases d <;> cases e <;> first | exact hi _ _ | exact hs _ _ | exact ht _ _ (Sim_t' h) | exact False.elim h
theorem cmpD (I:Inv X pins σ H s) {s':Shared} (kp:SO.Keeps s.heap s'.heap):∀ n:Nat,CmpD H s' n:=by
  intro n
  induction n with
  | zero =>
    intro d e A x y v u hs hs2 hm
    revert hs hs2
    refine sim_cases (P:=fun d e=>Shal 0 d→Shal 0 e→Den H x d→Den H y e→RelV x v→RelV y u→A.units+0 < cLine→SeqAt.EqAt A s' v u (eqD d e)∧SeqAt.LtAt A s' v u (dlt d e)) ?_ ?_ ?_ hm
    · exact fun i j _ _ hx hy rx ry _=>⟨eq_intD hx hy rx ry,lt_intD hx hy rx ry⟩
    · exact fun i j _ _ hx hy rx ry _=>⟨eq_strD hx hy rx ry,lt_strD hx hy rx ry⟩
    · exact fun xs ys _ hs _ _ _ _ _ _=>absurd rfl (hs.2 xs)
  | succ n ih =>
    intro d e A x y v u hs hs2 hm
    revert hs hs2
    refine sim_cases (P:=fun d e=>Shal (n+1) d→Shal (n+1) e→Den H x d→Den H y e→RelV x v→RelV y u→A.units+(n+1) < cLine→SeqAt.EqAt A s' v u (eqD d e)∧SeqAt.LtAt A s' v u (dlt d e)) ?_ ?_ ?_ hm
    · exact fun i j _ _ hx hy rx ry _=>⟨eq_intD hx hy rx ry,lt_intD hx hy rx ry⟩
    · exact fun i j _ _ hx hy rx ry _=>⟨eq_strD hx hy rx ry,lt_strD hx hy rx ry⟩
    · exact fun xs ys hm hs hs2 hx hy rx ry hu=>cmpD_tup I kp ih hs hs2 (Sim_t hm) hx hy rx ry hu
end
end L2
set_option Elab.async false
set_option linter.all false
set_option maxRecDepth 100000
set_option maxHeartbeats 400000
namespace SO
open PySem PySem.W PyProof.Rows
section
variable {prog:Program} {w:World} {A:Around} {E:Value→Shared→Prop} {s:Shared}
theorem katlex {b fin:Bool} {Q:Bool→Shared→Prop} {e f:Nat→Bool}:∀ (l:List (Value × Value)) (i:Nat),(∀ j p q,l[j]?=some (p,q)→SeqAt.EqAt A s p q (e (i+j))) →
    (∀ j p q,l[j]?=some (p,q)→e (i+j)=false→∀ (Q:Bool→Shared→Prop) (E:Value→Shared→Prop),Q (f (i+j)) s→wpAny (model prog w) A (oneLt' (b && (i+j) == 0) p q) Q E s) →
    Q (SeqAt.lexR e f fin (List.range' i l.length)) s→KatLex prog w A b fin Q l i s
  | [],i,_,_,h=>kat_nil h
  | (p,q) :: l,i,he,hf,h=>by
    refine kat_cons ((he 0 p q rfl) prog w _ _ ?_)
    rw [Nat.add_zero]
    have h':Q (if e i=true then SeqAt.lexR e f fin (List.range' (i+1) l.length) else f i) s:=h
    cases hy:e i with
    | true =>
      rw [hy,if_pos rfl] at h'
      exact kat_yes (katlex l (i+1) (fun j p q z=>by rw [show i+1+j=i+(j+1) by omega]; exact he (j+1) p q (by simpa using z)) (fun j p q z=>by rw [show i+1+j=i+(j+1) by omega]; exact hf (j+1) p q (by simpa using z)) h')
    | false =>
      rw [hy,if_neg (by simp)] at h'
      exact kat_no (by have:=hf 0 p q rfl (by simpa using hy) Q (fun _ _=>False) (by simpa using h'); simpa using this)
end
end SO
namespace L2
open PySem PySem.Spec PyProof.Rows
open SeqAt (lexR)
def Hom (ds:List D):Prop:=(∀ a∈ds,∀ b∈ds,Sim a b)∧((∀ d∈ds,∃ i,d=.int i)∨(∀ d∈ds,∃ x,d=.str x)∨(∀ d∈ds,∃ e r,d=.tup (e :: r)))
theorem denL_map {H:Hp} {vs:List V} {ds:List D} (h:DenL H vs ds):∀ l:List Nat,(∀ i∈l,i < ds.length)→DenL H (l.map fun i=>vs.getD i .non) (l.map fun i=>ds.getD i .non)
  | [],_=>trivial
  | i :: l,hl=>by
    refine ⟨?_,denL_map h l fun j hj=>hl j (.tail _ hj)⟩
    have hi:i < vs.length:=by rw [h.len]; exact hl i (.head _)
    obtain ⟨d,hd,r⟩:=h.at_ (List.getElem?_eq_getElem hi)
    dsimp only
    rw [List.getD_eq_getElem?_getD,List.getD_eq_getElem?_getD,hd,List.getElem?_eq_getElem hi]
    exact r
theorem vals_map {vs:List V} {its:List Value} (h:Vals vs its):∀ l:List Nat,(∀ i∈l,i < vs.length)→Vals (l.map fun i=>vs.getD i .non) (l.map fun i=>its.getD i Value.none)
  | [],_=>.nil
  | i :: l,hl=>by
    refine .cons ?_ (vals_map h l fun j hj=>hl j (.tail _ hj))
    have hi:i < vs.length:=hl i (.head _)
    obtain ⟨d,hd,r⟩:=h.get (List.getElem?_eq_getElem hi)
    dsimp only
    rw [List.getD_eq_getElem?_getD,List.getD_eq_getElem?_getD,hd,List.getElem?_eq_getElem hi]
    exact r
section
variable {X:Cx} {pins:List (Addr × Obj)} {σ:St} {H:Hp} {s:Shared}
theorem at3 {vs:List V} {ds:List D} {its:List Value} (hd:DenL H vs ds) (r:Vals vs its) {i:Nat} (hi:i < ds.length):∃ (x:V) (v:Value),vs[i]?=some x∧its[i]?=some v∧its.getD i Value.none=v∧Den H x (ds.getD i .non)∧RelV x v∧ds.getD i .non∈ds:=by
  have hv:i < vs.length:=by rw [hd.len]; exact hi
  obtain ⟨d,g,b⟩:=hd.at_ (List.getElem?_eq_getElem hv)
  obtain ⟨u,hu,ru⟩:=r.get (List.getElem?_eq_getElem hv)
  have e:ds.getD i .non=d:=by rw [List.getD_eq_getElem?_getD,g]; rfl
  rw [e]
  exact ⟨_,u,List.getElem?_eq_getElem hv,hu,by rw [List.getD_eq_getElem?_getD,hu]; rfl,b,ru,List.mem_of_getElem? g⟩
theorem one_false {s':Shared} {prog:Program} {w:World} {A:Around} {v u:Value} {b:Bool} (h:SeqAt.LtAt A s' v u b) (Q:Bool→Shared→Prop) (E:Value→Shared→Prop) (q:Q b s'):wpAny (model prog w) A (oneLt' false v u) Q E s' :=
  PySem.W.kat_one v u (h prog w E _ q)
theorem one_true {s':Shared} {prog:Program} {w:World} {A:Around} {x y:V} {d e:D} {v u:Value} (hm:Sim d e) (hd:Den H x d) (he:Den H y e) (rx:RelV x v) (ry:RelV y u) (nt:∀ ds,d≠.tup ds) (Q:Bool→Shared→Prop) (E:Value→Shared→Prop) (q:Q (dlt d e) s') :
    wpAny (model prog w) A (oneLt' true v u) Q E s':=by
  revert hd he nt q
  refine sim_cases (P:=fun d e=>Den H x d→Den H y e→(∀ ds,d≠.tup ds)→Q (dlt d e) s'→wpAny (model prog w) A (oneLt' true v u) Q E s') ?_ ?_ ?_ hm
  · intro i j hx hy _ q
    have e1:x=.int i:=hx
    have e2:y=.int j:=hy
    subst e1
    subst e2
    obtain ⟨t,rfl⟩:=rx
    obtain ⟨t',rfl⟩:=ry
    rw [dlt_int] at q
    exact oneLt_int q
  · intro i j hx hy _ q
    have e1:x=.str i:=hx
    have e2:y=.str j:=hy
    subst e1
    subst e2
    obtain ⟨t,rfl⟩:=rx
    obtain ⟨t',rfl⟩:=ry
    rw [dlt_str] at q
    exact oneLt_str q
  · intro xs ys _ _ _ nt _
    exact absurd rfl (nt xs)
theorem looks_of {M:Model} {x:V} {v:Value} {d:D} (I:Inv X pins σ H s) {h':Heap} (kp:SO.Keeps s.heap h') (hd:Den H x d) (rx:RelV x v):(∀ i,d=.int i→PySem.W.Looks M h' (typeOf v) (.type "int"))∧(∀ i,d=.str i→PySem.W.Looks M h' (typeOf v) (.type "str")) ∧
    (∀ ds,d=.tup ds→PySem.W.Looks M h' (typeOf v) (.type "tuple")):=by
  refine ⟨fun i e=>?_,fun i e=>?_,fun ds e=>?_⟩
  · subst e
    have e1:x=.int i:=hd
    subst e1
    obtain ⟨t,rfl⟩:=rx
    exact PySem.W.Looks.of_pure rfl
  · subst e
    have e1:x=.str i:=hd
    subst e1
    obtain ⟨t,rfl⟩:=rx
    exact PySem.W.Looks.of_pure rfl
  · subst e
    obtain ⟨a,vs,rfl,ha,hda⟩:=den_tup hd
    cases rx
    obtain ⟨its,r1,⟨o,eo,ec,_⟩,_⟩:=I.tuple (SqT.of (K:=X.K) ha)
    rw [← ec]
    exact (PySem.W.Looks.ld (kp _ _ eo)).andThen .now
def tyD:D→Value
  | .int _=>.type "int"
  | .str _=>.type "str"
  | _=>.type "tuple"
theorem tyD_sim {d e:D} (h:Sim d e):tyD d=tyD e:=sim_cases (P:=fun d e=>tyD d=tyD e) (fun _ _=>rfl) (fun _ _=>rfl) (fun _ _ _=>rfl) h
theorem tyD_self (d:D):(tyD d == tyD d)=true:=by cases d <;> rfl
theorem tyD_tup {d e:D} (hm:Sim d e) (h:(tyD d != .type "tuple")=true):∀ ds,d≠.tup ds:=by
  intro ds z
  subst z
  exact absurd (show (Value.type "tuple" != Value.type "tuple")=true from h) (by decide)
theorem looks_ty {M:Model} {x:V} {v:Value} {d e:D} (I:Inv X pins σ H s) {h':Heap} (kp:SO.Keeps s.heap h') (hm:Sim d e) (hd:Den H x d) (rx:RelV x v):PySem.W.Looks M h' (typeOf v) (tyD d):=by
  obtain ⟨a,b,c⟩:=looks_of (M:=M) I kp hd rx
  revert a b c
  exact sim_cases (P:=fun d e=>(∀ i,d=.int i→PySem.W.Looks M h' (typeOf v) (.type "int"))→(∀ i,d=.str i→PySem.W.Looks M h' (typeOf v) (.type "str"))→(∀ ds,d=.tup ds→PySem.W.Looks M h' (typeOf v) (.type "tuple"))→PySem.W.Looks M h' (typeOf v) (tyD d))
    (fun i _ a _ _=>a i rfl) (fun i _ _ b _=>b i rfl) (fun xs _ _ _ _ c=>c xs rfl) hm
theorem kat_tups (I:Inv X pins σ H s) {h':Heap} (kp:SO.Keeps s.heap h'):∀ {vs:List V} {ds:List D} {its:List Value},DenL H vs ds→Vals vs its→(∀ d∈ds,∃ e r,d=.tup (e :: r)) →
    ∃ fs,PySem.W.KatTups h' its fs∧fs.length=its.length∧∀ v∈fs,∃ (x:V) (d:D) (r:List D),Den H x d∧RelV x v∧D.tup (d :: r)∈ds
  | [],[],_,_,.nil,_=>⟨[],trivial,rfl,fun v hv=>by cases hv⟩
  | x :: vs,d :: ds,_,hd,.cons r rr,ht=>by
    obtain ⟨fs,k,l,m⟩:=kat_tups I kp hd.2 rr fun d hd=>ht d (.tail _ hd)
    obtain ⟨e,r0,rfl⟩:=ht d (.head _)
    obtain ⟨a,ws,rfl,ha,hda⟩:=den_tup hd.1
    cases r
    obtain ⟨its1,r1,⟨o,eo,ec,n,ed⟩,_⟩:=I.tuple (SqT.of (K:=X.K) ha)
    match ws,its1,hda,r1,ed with
    | w0 :: ws,_ :: its1,hda,.cons q0 q,ed =>
      refine ⟨_ :: fs,PySem.W.KatTups.cons (kp _ _ eo) ec ed (by simp; rfl) k,by simp [l],fun v hv=>?_⟩
      rcases List.mem_cons.mp hv with rfl | hv
      · exact ⟨w0,e,r0,hda.1,q0,.head _⟩
      · obtain ⟨x,d,r,z1,z2,z3⟩:=m v hv
        exact ⟨x,d,r,z1,z2,.tail _ z3⟩
    | [],_,hda,_,_=>exact hda.elim
end
end L2
set_option Elab.async false
set_option linter.all false
set_option maxRecDepth 100000
set_option maxHeartbeats 1000000
namespace SO
open PySem PySem.W PyProof.Rows
def gallop':Bool→Keyed→Array Keyed→Nat→Nat→Nat→StateT SortSt Sem (Option Nat):=sortPriv% PySem.Builtin.gallop
def beyond' (left:Bool) (key:Keyed) (arr:Array Keyed) (base:Nat) (i:Nat):StateT SortSt Sem (Option Bool):=do
  let x ← elem' arr (base+i)
  if left then lt' x key else return (← lt' key x).map (!·)
def search' (left:Bool) (key:Keyed) (arr:Array Keyed) (base n lo hi:Nat):StateT SortSt Sem (Option Nat):=do
  let mut lo:=lo
  let mut hi:=hi
  for _ in [0:n] do
    if lo ≥ hi then break
    let m:=lo+(hi - lo) / 2
    let some more ← beyond' left key arr base m | return none
    if more then lo:=m+1 else hi:=m
  return some hi
theorem gallop'_eq (left:Bool) (key:Keyed) (arr:Array Keyed) (base n hint:Nat):gallop' left key arr base n hint=(do
  let some right ← beyond' left key arr base hint | return none
  if right then
    let mut lastofs:=0
    let mut ofs:=1
    let maxofs:=n - hint
    for _ in [0:n] do
      if ofs ≥ maxofs then break
      let some more ← beyond' left key arr base (hint+ofs) | return none
      if !more then break
      lastofs:=ofs
      ofs:=2 * ofs+1
    search' left key arr base n (hint+lastofs+1) (hint+min ofs maxofs)
  else
    let mut lastofs:=0
    let mut ofs:=1
    let maxofs:=hint+1
    for _ in [0:n] do
      if ofs ≥ maxofs then break
      let some found ← beyond' left key arr base (hint - ofs) | return none
      if found then break
      lastofs:=ofs
      ofs:=2 * ofs+1
    search' left key arr base n (hint+1 - min ofs maxofs) (hint - lastofs)):=rfl
section
variable {O:KeyOrd} {key:Nat→O.α} {N:Nat} {prog:Program} {w:World} {A:Around} {E:Value→Shared→Prop} {s:Shared} {κ:SortKind} {it:Array Keyed} {st:SortSt}
def BelowN (N:Nat) (q:Array Nat):Prop:=∀ i,i < q.size→q.getD i 0 < N
theorem getD_lt {q:Array Nat} {i:Nat} (h:i < q.size):q.getD i 0=q[i]:=by simp [Array.getD,h]
theorem map_get {q:Array Nat} {i:Nat} (h:i < q.size):(q.map (kas_item it))[i]?=some (kas_item it (q.getD i 0)):=by
  rw [getD_lt h]; simp [h]
theorem wlt {i j:Nat} {Q:Option Bool→SortSt→Prop} (hc:Cmp key N (kas_cmp prog w A κ it) s) (hi:i < N) (hj:j < N) (hk:kindOf st=κ) (h:Q (some (O.blt (key i) (key j))) st) :
    wpS (model prog w) A E s (lt' (kas_item it i) (kas_item it j)) Q st:=by
  rw [lt'_eq]
  refine wpS_bind (wpS_get ?_)
  rw [hk]
  exact wpS_bind (wpS_lift (wpAny_attempt (wpAny_mono (hc i j _ hi hj ⟨rfl,wpS_pure h⟩) (fun _ _ x=>x) fun _ _ f=>f.elim)))
theorem welem {q:Array Nat} {i:Nat} {Q:Keyed→SortSt→Prop} (h:i < q.size) (hq:Q (kas_item it (q.getD i 0)) st):wpS (model prog w) A E s (elem' (q.map (kas_item it)) i) Q st:=by
  rw [elem'_eq,map_get h]
  exact wpS_pure hq
def Bey (key:Nat→O.α) (left:Bool) (k:Nat) (q:Array Nat) (base i:Nat):Bool:=if left then O.blt (key (q.getD (base+i) 0)) (key k) else !O.blt (key k) (key (q.getD (base+i) 0))
theorem wbeyond {left:Bool} {k base i:Nat} {q:Array Nat} {Q:Option Bool→SortSt→Prop} (hc:Cmp key N (kas_cmp prog w A κ it) s) (hq:BelowN N q) (hk:k < N) (hκ:kindOf st=κ) (hi:base+i < q.size) (h:Q (some (Bey key left k q base i)) st) :
    wpS (model prog w) A E s (beyond' left (kas_item it k) (q.map (kas_item it)) base i) Q st:=by
  unfold beyond'
  refine wpS_bind (welem hi ?_)
  cases left with
  | true =>
    rw [if_pos rfl]
    exact wlt hc (hq _ hi) hk hκ h
  | false =>
    rw [if_neg (by simp)]
    exact wpS_bind (wlt hc hk (hq _ hi) hκ (wpS_pure h))
theorem wgallop {left:Bool} {k base n hint:Nat} {q:Array Nat} {Q:Option Nat→SortSt→Prop} (hc:Cmp key N (kas_cmp prog w A κ it) s) (hq:BelowN N q) (hk:k < N) (hκ:kindOf st=κ) (hn:base+n≤q.size) (hh:hint < n)
    (mono:∀ i j,i≤j→j < n→Bey key left k q base j=true→Bey key left k q base i=true)
    (h:∀ r,r≤n→(∀ j,j < r→Bey key left k q base j=true)→(∀ j,r≤j→j < n→Bey key left k q base j=false)→Q (some r) st) :
    wpS (model prog w) A E s (gallop' left (kas_item it k) (q.map (kas_item it)) base n hint) Q st:=by
  rw [gallop'_eq]
  generalize hβ:Bey key left k q base=β at mono h
  have wb:∀ {i:Nat} {Q:Option Bool→SortSt→Prop},i < n→Q (some (β i)) st→wpS (model prog w) A E s (beyond' left (kas_item it k) (q.map (kas_item it)) base i) Q st:=fun {i Q} hi h=>wbeyond hc hq hk hκ (by omega) (by rw [hβ]; exact h)
  have no:∀ {i j},i≤j→j < n→β i=false→β j=false:=fun {i j} hij hj hi=>by
    cases e:β j with
    | false=>rfl
    | true=>rw [mono i j hij hj e] at hi; cases hi
  have fin:∀ lo hi,lo≤hi→hi≤n→(∀ j,j < lo→β j=true)→(∀ j,hi≤j→j < n→β j=false) →
      wpS (model prog w) A E s (search' left (kas_item it k) (q.map (kas_item it)) base n lo hi) Q st:=by
    intro lo hi hlh hhn h1 h2
    unfold search'
    refine wpS_bind (wpS_mono (wpS_forRange (I:=fun (x:Nat) (c:Option (Option Nat) × Nat × Nat) (st':SortSt)=>st'=st∧c.1=none∧c.2.1≤c.2.2∧c.2.2≤n∧c.2.2 - c.2.1+x≤n∧(∀ j,j < c.2.1→β j=true)∧∀ j,c.2.2≤j→j < n→β j=false)
      (Q:=fun (c:Option (Option Nat) × Nat × Nat) (st':SortSt)=>st'=st∧c.1=none∧c.2.1=c.2.2∧c.2.2≤n∧(∀ j,j < c.2.1→β j=true)∧∀ j,c.2.2≤j→j < n→β j=false) ?step ?fin ⟨rfl,rfl,hlh,hhn,by dsimp only; omega,h1,h2⟩) ?post)
    case step =>
      rintro x ⟨c0,l,r⟩ st' _ hx ⟨rfl,e0,i1,i2,i3,i4,i5⟩
      dsimp only at *
      subst e0
      by_cases hlr:l ≥ r
      · rw [if_pos hlr]
        exact wpS_pure ⟨rfl,rfl,by dsimp only; omega,i2,i4,i5⟩
      · rw [if_neg hlr]
        refine wpS_bind (wb (by omega) ?_)
        dsimp only
        cases hb:β (l+(r - l) / 2) with
        | true =>
          rw [if_pos rfl]
          exact wpS_pure ⟨rfl,rfl,by dsimp only; omega,i2,by dsimp only; omega,(fun j hj=>mono j _ (by dsimp only at hj; omega) (by omega) hb),i5⟩
        | false =>
          rw [if_neg (by simp)]
          exact wpS_pure ⟨rfl,rfl,by dsimp only; omega,by dsimp only; omega,by dsimp only; omega,i4,fun j hj hjn=>no hj hjn hb⟩
    case fin =>
      rintro ⟨c0,l,r⟩ st' ⟨rfl,e0,i1,i2,i3,i4,i5⟩
      dsimp only at *
      exact ⟨rfl,e0,by omega,i2,i4,i5⟩
    case post =>
      rintro ⟨c0,l,r⟩ st' ⟨rfl,e0,e1,i2,i4,i5⟩
      dsimp only at *
      subst e0 e1
      exact wpS_pure (h l i2 i4 i5)
  refine wpS_bind (wb hh ?_)
  dsimp only
  cases hr:β hint with
  | true =>
    rw [if_pos rfl]
    refine wpS_bind (wpS_mono (wpS_forRange (I:=fun (x:Nat) (c:Option (Option Nat) × Nat × Nat) (st':SortSt)=>st'=st∧c.1=none∧c.2.1 < c.2.2∧x < c.2.2∧hint+c.2.1 < n∧β (hint+c.2.1)=true)
      (Q:=fun (c:Option (Option Nat) × Nat × Nat) (st':SortSt)=>st'=st∧c.1=none∧c.2.1 < c.2.2∧hint+c.2.1 < n∧β (hint+c.2.1)=true∧(n - hint≤c.2.2∨(hint+c.2.2 < n∧β (hint+c.2.2)=false))) ?step ?fin ⟨rfl,rfl,by dsimp only; omega,by dsimp only; omega,by dsimp only; omega,hr⟩) ?post)
    case step =>
      rintro x ⟨c0,l,o⟩ st' _ hx ⟨rfl,e0,i1,i2,i3,i4⟩
      dsimp only at *
      subst e0
      by_cases hlr:o ≥ n - hint
      · rw [if_pos hlr]
        exact wpS_pure ⟨rfl,rfl,i1,i3,i4,.inl hlr⟩
      · rw [if_neg hlr]
        refine wpS_bind (wb (by omega) ?_)
        dsimp only
        cases hb:β (hint+o) with
        | true =>
          rw [if_neg (by simp)]
          exact wpS_pure ⟨rfl,rfl,by dsimp only; omega,by dsimp only; omega,by dsimp only; omega,hb⟩
        | false =>
          rw [if_pos (by rfl)]
          exact wpS_pure ⟨rfl,rfl,i1,i3,i4,.inr ⟨by dsimp only; omega,hb⟩⟩
    case fin =>
      rintro ⟨c0,l,o⟩ st' ⟨rfl,e0,i1,i2,i3,i4⟩
      dsimp only at *
      exact ⟨rfl,e0,i1,i3,i4,.inl (by omega)⟩
    case post =>
      rintro ⟨c0,l,o⟩ st' ⟨rfl,e0,i1,i3,i4,i5⟩
      dsimp only at *
      subst e0
      dsimp only
      refine fin (hint+l+1) (hint+min o (n - hint)) (by omega) (by omega) (fun j hj=>mono j _ (by omega) i3 i4) fun j hj hjn=>?_
      rcases i5 with i5 | ⟨i5,i6⟩
      · omega
      · exact no (by omega) hjn i6
  | false =>
    rw [if_neg (by simp)]
    refine wpS_bind (wpS_mono (wpS_forRange (I:=fun (x:Nat) (c:Option (Option Nat) × Nat × Nat) (st':SortSt)=>st'=st∧c.1=none∧c.2.1 < c.2.2∧x < c.2.2∧c.2.1≤hint∧β (hint - c.2.1)=false)
      (Q:=fun (c:Option (Option Nat) × Nat × Nat) (st':SortSt)=>st'=st∧c.1=none∧c.2.1 < c.2.2∧c.2.1≤hint∧β (hint - c.2.1)=false∧(hint+1≤c.2.2∨(c.2.2≤hint∧β (hint - c.2.2)=true))) ?step ?fin ⟨rfl,rfl,by dsimp only; omega,by dsimp only; omega,by dsimp only; omega,hr⟩) ?post)
    case step =>
      rintro x ⟨c0,l,o⟩ st' _ hx ⟨rfl,e0,i1,i2,i3,i4⟩
      dsimp only at *
      subst e0
      by_cases hlr:o ≥ hint+1
      · rw [if_pos hlr]
        exact wpS_pure ⟨rfl,rfl,i1,i3,i4,.inl hlr⟩
      · rw [if_neg hlr]
        refine wpS_bind (wb (by omega) ?_)
        dsimp only
        cases hb:β (hint - o) with
        | true =>
          rw [if_pos (by rfl)]
          exact wpS_pure ⟨rfl,rfl,i1,i3,i4,.inr ⟨by dsimp only; omega,hb⟩⟩
        | false =>
          rw [if_neg (by simp)]
          exact wpS_pure ⟨rfl,rfl,by dsimp only; omega,by dsimp only; omega,by dsimp only; omega,hb⟩
    case fin =>
      rintro ⟨c0,l,o⟩ st' ⟨rfl,e0,i1,i2,i3,i4⟩
      dsimp only at *
      exact ⟨rfl,e0,i1,i3,i4,.inl (by omega)⟩
    case post =>
      rintro ⟨c0,l,o⟩ st' ⟨rfl,e0,i1,i3,i4,i5⟩
      dsimp only at *
      subst e0
      dsimp only
      refine fin (hint+1 - min o (hint+1)) (hint - l) (by omega) (by omega) (fun j hj=>?_) fun j hj hjn=>no hj hjn i4
      rcases i5 with i5 | ⟨i5,i6⟩
      · omega
      · exact mono j _ (by omega) (by omega) i6
end
end SO
set_option Elab.async false
set_option linter.all false
set_option maxRecDepth 100000
set_option maxHeartbeats 1000000
namespace SO
open PySem PySem.W PyProof.Rows
def setMinGallop':Nat→StateT SortSt Sem Unit:=sortPriv% PySem.Builtin.setMinGallop
theorem setMinGallop'_eq (g:Nat):setMinGallop' g=modify fun st=>SortSt.mk' (kindOf st) (arrOf st) (pendingOf st) g (failedOf st):=rfl
abbrev arr (it:Array Keyed) (l:List Nat):Array Keyed:=l.toArray.map (kas_item it)
section
variable {it:Array Keyed}
theorem arr_size (l:List Nat):(arr it l).size=l.length:=by simp
theorem arr_push (l:List Nat) (x:Nat):(arr it l).push (kas_item it x)=arr it (l++[x]):=by simp [arr]
theorem arr_app (l m:List Nat):arr it l++arr it m=arr it (l++m):=by simp [arr]
theorem arr_drop (l:List Nat) (i:Nat):(arr it l).extract i (arr it l).size=arr it (l.drop i):=by
  apply Array.ext_getElem?
  intro k
  simp [arr,Array.getElem?_extract]
  by_cases h:k < l.length - i
  · simp [h,show i+k < l.length by omega]
  · simp [h,show l.length≤i+k by omega]
theorem arr_part (l:List Nat) (i k:Nat) (h:i+k≤l.length):(arr it l).extract i (i+k)=arr it ((l.drop i).take k):=by
  apply Array.ext_getElem?
  intro j
  simp [arr,Array.getElem?_extract,List.getElem?_take]
theorem arr_take (l:List Nat) (k:Nat):(arr it l).extract 0 k=arr it (l.take k):=by
  apply Array.ext_getElem?
  intro j
  simp [arr,Array.getElem?_extract,List.getElem?_take]
theorem arr_rev (l:List Nat):(arr it l).reverse=arr it l.reverse:=by simp [arr]
theorem toA_getD (l:List Nat) (i:Nat):l.toArray.getD i 0=l.getD i 0:=by simp [Array.getD_eq_getD_getElem?,List.getD_eq_getElem?_getD]
theorem getD_of {l:List Nat} {i:Nat} (h:i < l.length):l.getD i 0=l[i]:=by simp [List.getD_eq_getElem?_getD,h]
end
section
variable {O:KeyOrd} {key:Nat→O.α} {N:Nat} {prog:Program} {w:World} {A:Around} {E:Value→Shared→Prop} {s:Shared} {κ:SortKind} {it:Array Keyed} {st:SortSt}
abbrev Up (key:Nat→O.α) (l:List Nat):Prop:=l.Pairwise fun x y=>O.kle (key x) (key y)
structure Mg (key:Nat→O.α) (As Bs o ra rb:List Nat):Prop where
  perm:(o++(ra++rb)).Perm (As++Bs)
  so:Up key o
  le:∀ x∈o,∀ y∈ra++rb,O.kle (key x) (key y)
  sa:Up key ra
  sb:Up key rb
variable {As Bs o ra rb xs ra' rb':List Nat}
theorem Mg.takeAs (m:Mg key As Bs o ra rb) (e:ra=xs++ra') (h:∀ x∈xs,∀ y∈rb,O.kle (key x) (key y)):Mg key As Bs (o++xs) ra' rb:=by
  subst e
  have sa:=List.pairwise_append.mp m.sa
  refine ⟨(by rw [List.append_assoc,← List.append_assoc xs]; exact m.perm),List.pairwise_append.mpr ⟨m.so,sa.1,fun x hx y hy=>m.le x hx y (by simp [hy])⟩,fun x hx y hy=>?_,sa.2.1,m.sb⟩
  rcases List.mem_append.mp hx with hx | hx
  · exact m.le x hx y (by rcases List.mem_append.mp hy with z | z <;> simp [z])
  · rcases List.mem_append.mp hy with z | z
    · exact sa.2.2 x hx y z
    · exact h x hx y z
theorem Mg.takeBs (m:Mg key As Bs o ra rb) (e:rb=xs++rb') (h:∀ x∈xs,∀ y∈ra,O.kle (key x) (key y)):Mg key As Bs (o++xs) ra rb':=by
  subst e
  have sb:=List.pairwise_append.mp m.sb
  refine ⟨List.Perm.trans ?_ m.perm,List.pairwise_append.mpr ⟨m.so,sb.1,fun x hx y hy=>m.le x hx y (by simp [hy])⟩,fun x hx y hy=>?_,m.sa,sb.2.1⟩
  · rw [List.append_assoc]
    refine List.Perm.append_left o ?_
    rw [← List.append_assoc,← List.append_assoc]
    exact (List.perm_append_comm).append_right rb'
  · rcases List.mem_append.mp hx with hx | hx
    · exact m.le x hx y (by rcases List.mem_append.mp hy with z | z <;> simp [z])
    · rcases List.mem_append.mp hy with z | z
      · exact h x hx y z
      · exact sb.2.2 x hx y z
def Merged (key:Nat→O.α) (it:Array Keyed) (As Bs:List Nat) (r:Array Keyed):Prop:=∃ l:List Nat,r=arr it l∧l.Perm (As++Bs)∧Up key l
theorem Mg.doneA (m:Mg key As Bs o ra []):Merged key it As Bs (arr it o++arr it ra++arr it []):=by
  refine ⟨o++ra,by rw [arr_app,arr_app,List.append_nil],by simpa using m.perm,List.pairwise_append.mpr ⟨m.so,m.sa,fun x hx y hy=>m.le x hx y (by simp [hy])⟩⟩
theorem Mg.doneB (m:Mg key As Bs o [] rb):Merged key it As Bs (arr it o++arr it []++arr it rb):=by
  refine ⟨o++rb,by rw [arr_app,arr_app,List.append_nil],by simpa using m.perm,List.pairwise_append.mpr ⟨m.so,m.sb,fun x hx y hy=>m.le x hx y (by simp [hy])⟩⟩
theorem Mg.lastA (m:Mg key As Bs o ra rb) (h:∀ x∈ra,∀ y∈rb,O.kle (key y) (key x)):Merged key it As Bs (arr it o++arr it rb++arr it ra):=by
  refine ⟨o++rb++ra,by rw [arr_app,arr_app],List.Perm.trans ?_ m.perm,List.pairwise_append.mpr ⟨List.pairwise_append.mpr ⟨m.so,m.sb,fun x hx y hy=>m.le x hx y (by simp [hy])⟩,m.sa,fun x hx y hy=>?_⟩⟩
  · rw [List.append_assoc]; exact List.perm_append_comm.append_left o
  · rcases List.mem_append.mp hx with z | z
    · exact m.le x z y (by simp [hy])
    · exact h y hy x z
theorem drop_cons {l:List Nat} {i:Nat} (h:i < l.length):l.drop i=[l.getD i 0]++l.drop (i+1):=by
  rw [getD_of h,List.drop_eq_getElem_cons h]; rfl
theorem drop_split (l:List Nat) (i k:Nat):l.drop i=(l.drop i).take k++l.drop (i+k):=by
  rw [← List.drop_drop]; exact (List.take_append_drop k (l.drop i)).symm
theorem up_drop {l:List Nat} (h:Up key l) {i:Nat} (hi:i < l.length):∀ x∈l.drop i,O.kle (key (l.getD i 0)) (key x):=fun x hx=>by
  rw [drop_cons hi] at hx
  rcases List.mem_append.mp hx with z | z
  · rw [List.mem_singleton.mp z]; exact KeyOrd.kle_refl _
  · have:=h.sublist (List.drop_sublist i l)
    rw [drop_cons hi] at this
    exact (List.pairwise_append.mp this).2.2 _ (by simp) x z
theorem mem_part {l:List Nat} {i k x:Nat} (h:x∈(l.drop i).take k):∃ j,j < k∧i+j < l.length∧x=l.getD (i+j) 0:=by
  obtain ⟨j,hj,e⟩:=List.getElem_of_mem h
  simp at hj
  refine ⟨j,by omega,by omega,?_⟩
  rw [getD_of (by omega)]
  simpa using e.symm
theorem up_le {l:List Nat} (h:Up key l) {i j:Nat} (hij:i≤j) (hj:j < l.length):O.kle (key (l.getD i 0)) (key (l.getD j 0)):=by
  rcases Nat.lt_or_ge i j with z | z
  · rw [getD_of (by omega),getD_of hj]
    exact List.pairwise_iff_getElem.mp h i j (by omega) hj z
  · have:i=j:=by omega
    subst this; exact KeyOrd.kle_refl _
def Stay (st st':SortSt):Prop:=kindOf st'=kindOf st∧arrOf st'=arrOf st∧pendingOf st'=pendingOf st∧failedOf st'=failedOf st
theorem Stay.refl (st:SortSt):Stay st st:=⟨rfl,rfl,rfl,rfl⟩
theorem Stay.trans {a b c:SortSt} (h:Stay a b) (g:Stay b c):Stay a c:=⟨g.1.trans h.1,g.2.1.trans h.2.1,g.2.2.1.trans h.2.2.1,g.2.2.2.trans h.2.2.2⟩
theorem wsetMin {g:Nat} {Q:Unit→SortSt→Prop} (h:∀ st',Stay st st'→Q () st'):wpS (model prog w) A E s (setMinGallop' g) Q st:=by
  rw [setMinGallop'_eq]
  exact wpS_modify (h _ ⟨rfl,rfl,rfl,rfl⟩)
theorem belowN {l:List Nat} (h:∀ x∈l,x < N):BelowN N l.toArray:=fun i hi=>by
  rw [toA_getD,getD_of (by simpa using hi)]
  exact h _ (List.getElem_mem _)
theorem welemL {l:List Nat} {i:Nat} {Q:Keyed→SortSt→Prop} (h:i < l.length) (hq:Q (kas_item it (l.getD i 0)) st):wpS (model prog w) A E s (elem' (arr it l) i) Q st:=by
  refine welem (q:=l.toArray) (by simpa using h) ?_
  rw [toA_getD]; exact hq
theorem wgal {left:Bool} {k base n hint:Nat} {l:List Nat} {Q:Option Nat→SortSt→Prop} (hc:Cmp key N (kas_cmp prog w A κ it) s) (hl:∀ x∈l,x < N) (hk:k < N) (hκ:kindOf st=κ) (hn:base+n≤l.length) (hh:hint < n) (hup:Up key l)
    (h:∀ r,r≤n→(∀ j,j < r→if left then O.klt (key (l.getD (base+j) 0)) (key k) else O.kle (key (l.getD (base+j) 0)) (key k))→(∀ j,r≤j→j < n→if left then O.kle (key k) (key (l.getD (base+j) 0)) else O.klt (key k) (key (l.getD (base+j) 0)))→Q (some r) st) :
    wpS (model prog w) A E s (gallop' left (kas_item it k) (arr it l) base n hint) Q st:=by
  have hsz:l.toArray.size=l.length:=by simp
  refine wgallop hc (belowN hl) hk hκ (by rw [hsz]; exact hn) hh (fun i j hij hj hb=>?_) fun r hr h1 h2=>h r hr (fun j hj=>?_) fun j hj hjn=>?_
  · have:=up_le hup (i:=base+i) (j:=base+j) (by omega) (by omega)
    unfold Bey at hb ⊢
    rw [toA_getD] at hb ⊢
    cases left with
    | true =>
      rw [if_pos rfl] at hb ⊢
      exact KeyOrd.klt_of_kle_of_klt this hb
    | false =>
      rw [if_neg (by simp)] at hb ⊢
      have hb':O.kle (key (l.getD (base+j) 0)) (key k):=by unfold KeyOrd.kle; simpa using hb
      have:=KeyOrd.kle_trans this hb'
      unfold KeyOrd.kle at this
      rw [this]
      rfl
  · have hb:=h1 j hj
    unfold Bey at hb
    rw [toA_getD] at hb
    cases left with
    | true=>rw [if_pos rfl] at hb ⊢; exact hb
    | false=>rw [if_neg (by simp)] at hb ⊢; unfold KeyOrd.kle; simpa using hb
  · have hb:=h2 j hj hjn
    unfold Bey at hb
    rw [toA_getD] at hb
    cases left with
    | true=>rw [if_pos rfl] at hb ⊢; exact hb
    | false=>rw [if_neg (by simp)] at hb ⊢; unfold KeyOrd.klt; simpa using hb
end
end SO
set_option Elab.async false
set_option linter.all false
set_option maxRecDepth 100000
set_option maxHeartbeats 2000000
namespace SO
open PySem PySem.W PyProof.Rows
def mergeLo':Array Keyed→Array Keyed→StateT SortSt Sem (Array Keyed):=sortPriv% PySem.Builtin.mergeLo
theorem mergeLo'_eq (a b:Array Keyed):mergeLo' a b=(do
  rule "list.sort.merge-lo"
  let total:=a.size+b.size
  let done (out:Array Keyed) (ia ib:Nat):=out++a.extract ia a.size++b.extract ib b.size
  let lastOfA (out:Array Keyed) (ia ib:Nat):=out++b.extract ib b.size++a.extract ia a.size
  let mut out:Array Keyed:=#[← elem' b 0]
  let mut ia:=0
  let mut ib:=1
  if ib == b.size then return done out ia ib
  if ia+1 == a.size then return lastOfA out ia ib
  let mut minGallop:=gallopOf (← get)
  for _ in [0:total] do
    let mut acount:=0
    let mut bcount:=0
    for _ in [0:total] do
      let some bWins ← lt' (← elem' b ib) (← elem' a ia) | return done out ia ib
      if bWins then
        out:=out.push (← elem' b ib); ib:=ib+1; bcount:=bcount+1; acount:=0
        if ib == b.size then return done out ia ib
        if bcount ≥ minGallop then break
      else
        out:=out.push (← elem' a ia); ia:=ia+1; acount:=acount+1; bcount:=0
        if ia+1 == a.size then return lastOfA out ia ib
        if acount ≥ minGallop then break
    rule "list.sort.gallop"
    minGallop:=minGallop+1
    for _ in [0:total] do
      if minGallop > 1 then minGallop:=minGallop - 1
      setMinGallop' minGallop
      let some k ← gallop' false (← elem' b ib) a ia (a.size - ia) 0 | return done out ia ib
      acount:=k
      if k > 0 then
        out:=out++a.extract ia (ia+k); ia:=ia+k
        if ia+1 == a.size then return lastOfA out ia ib
        if ia == a.size then return done out ia ib
      out:=out.push (← elem' b ib); ib:=ib+1
      if ib == b.size then return done out ia ib
      let some k ← gallop' true (← elem' a ia) b ib (b.size - ib) 0 | return done out ia ib
      bcount:=k
      if k > 0 then
        out:=out++b.extract ib (ib+k); ib:=ib+k
        if ib == b.size then return done out ia ib
      out:=out.push (← elem' a ia); ia:=ia+1
      if ia+1 == a.size then return lastOfA out ia ib
      if acount < 7 && bcount < 7 then break
    minGallop:=minGallop+1
    setMinGallop' minGallop
  unsupported "internal:list.sort.merge-bound"):=rfl
section
variable {O:KeyOrd} {key:Nat→O.α} {N:Nat} {prog:Program} {w:World} {A:Around} {E:Value→Shared→Prop} {s:Shared} {κ:SortKind} {it:Array Keyed} {st:SortSt} {As Bs o:List Nat} {ia ib:Nat}
theorem lo_stepB (m:Mg key As Bs o (As.drop ia) (Bs.drop ib)) (hb:ib < Bs.length) (sA:Up key As) (hle:∀ x∈As.drop ia,O.kle (key (Bs.getD ib 0)) (key x)):Mg key As Bs (o++[Bs.getD ib 0]) (As.drop ia) (Bs.drop (ib+1)) :=
  m.takeBs (drop_cons hb) fun x hx y hy=>by rw [List.mem_singleton.mp hx]; exact hle y hy
theorem lo_stepA (m:Mg key As Bs o (As.drop ia) (Bs.drop ib)) (ha:ia < As.length) (hle:∀ y∈Bs.drop ib,O.kle (key (As.getD ia 0)) (key y)):Mg key As Bs (o++[As.getD ia 0]) (As.drop (ia+1)) (Bs.drop ib) :=
  m.takeAs (drop_cons ha) fun x hx y hy=>by rw [List.mem_singleton.mp hx]; exact hle y hy
abbrev LoSt:=Option (Array Keyed) × Array Keyed × Nat × Nat × Nat × Nat
def JLo (key:Nat→O.α) (it:Array Keyed) (As Bs:List Nat) (out:Array Keyed) (ia ib:Nat):Prop:=∃ o,out=arr it o∧Mg key As Bs o (As.drop ia) (Bs.drop ib)∧ia+1 < As.length∧ib < Bs.length
theorem wmergeLo {Q:Array Keyed→SortSt→Prop} (hc:Cmp key N (kas_cmp prog w A κ it) s) (hA:∀ x∈As,x < N) (hB:∀ x∈Bs,x < N) (hκ:kindOf st=κ) (sA:Up key As) (sB:Up key Bs) (nA:0 < As.length) (nB:0 < Bs.length)
    (first:O.klt (key (Bs.getD 0 0)) (key (As.getD 0 0))) (last:∀ y∈Bs,O.klt (key y) (key (As.getD (As.length - 1) 0))) (h:∀ r st',Stay st st'→Merged key it As Bs r→Q r st') :
    wpS (model prog w) A E s (mergeLo' (arr it As) (arr it Bs)) Q st:=by
  have gA:∀ i,i < As.length→As.getD i 0 < N:=fun i hi=>by rw [getD_of hi]; exact hA _ (List.getElem_mem _)
  have gB:∀ i,i < Bs.length→Bs.getD i 0 < N:=fun i hi=>by rw [getD_of hi]; exact hB _ (List.getElem_mem _)
  have retB:∀ o ia ib,Mg key As Bs o (As.drop ia) (Bs.drop ib)→ib=Bs.length→Merged key it As Bs (arr it o++(arr it As).extract ia As.length++(arr it Bs).extract ib Bs.length):=fun o ia ib m e=>by
    have e1:=arr_drop (it:=it) As ia
    have e2:=arr_drop (it:=it) Bs ib
    rw [arr_size] at e1 e2
    rw [e1,e2]
    rw [e,List.drop_length] at m ⊢
    exact m.doneA
  have retA:∀ o ia ib,Mg key As Bs o (As.drop ia) (Bs.drop ib)→ia=As.length→Merged key it As Bs (arr it o++(arr it As).extract ia As.length++(arr it Bs).extract ib Bs.length):=fun o ia ib m e=>by
    have e1:=arr_drop (it:=it) As ia
    have e2:=arr_drop (it:=it) Bs ib
    rw [arr_size] at e1 e2
    rw [e1,e2]
    rw [e,List.drop_length] at m ⊢
    exact m.doneB
  have retL:∀ o ia ib,Mg key As Bs o (As.drop ia) (Bs.drop ib)→ia+1=As.length→Merged key it As Bs (arr it o++(arr it Bs).extract ib Bs.length++(arr it As).extract ia As.length):=fun o ia ib m e=>by
    have e1:=arr_drop (it:=it) As ia
    have e2:=arr_drop (it:=it) Bs ib
    rw [arr_size] at e1 e2
    rw [e1,e2]
    refine m.lastA fun x hx y hy=>?_
    rw [drop_cons (by omega),show ia+1=As.length by omega,List.drop_length,List.append_nil] at hx
    rw [List.mem_singleton.mp hx,show ia=As.length - 1 by omega]
    exact KeyOrd.kle_of_klt (last y (List.mem_of_mem_drop hy))
  rw [mergeLo'_eq]
  refine wpS_bind (wpS_lift (wpAny_rule ⟨rfl,?_⟩))
  dsimp only
  simp only [arr_size]
  refine wpS_bind (welemL nB ?_)
  have m0:Mg key As Bs [Bs.getD 0 0] (As.drop 0) (Bs.drop 1):=by
    refine lo_stepB (o:=[]) (ia:=0) (ib:=0) ⟨by simp,List.Pairwise.nil,(fun x hx=>by cases hx),sA,sB⟩ nB sA fun x hx=>?_
    exact KeyOrd.kle_trans (KeyOrd.kle_of_klt first) (up_drop sA nA x hx)
  have e0:(#[kas_item it (Bs.getD 0 0)]:Array Keyed)=arr it [Bs.getD 0 0]:=by simp [arr]
  rw [e0]
  by_cases h1:(1 == Bs.length)=true
  · rw [if_pos h1]
    exact wpS_pure (h _ _ (Stay.refl _) (retB _ _ _ m0 (by simpa using h1)))
  rw [if_neg h1]
  by_cases h2:(0+1 == As.length)=true
  · rw [if_pos h2]
    exact wpS_pure (h _ _ (Stay.refl _) (retL _ _ _ m0 (by simpa using h2)))
  rw [if_neg h2]
  have h1':1 < Bs.length:=by simp at h1; omega
  have h2':0+1 < As.length:=by simp at h2; omega
  refine wpS_bind (wpS_get ?_)
  refine wpS_bind (wpS_mono (wpS_forRange
    (I:=fun (x:Nat) (c:Option (Array Keyed) × Array Keyed × Nat × Nat × Nat) (st':SortSt)=>Stay st st'∧c.1=none∧JLo key it As Bs c.2.1 c.2.2.1 c.2.2.2.1∧x+1≤c.2.2.1+c.2.2.2.1)
    (Q:=fun (c:Option (Array Keyed) × Array Keyed × Nat × Nat × Nat) (st':SortSt)=>Stay st st'∧∃ r,c.1=some r∧Merged key it As Bs r) ?step ?fin ⟨Stay.refl _,rfl,⟨_,rfl,m0,h2',h1'⟩,by simp⟩) ?post)
  case fin =>
    rintro ⟨c0,out,ia,ib,mg⟩ st' ⟨hs,e0,⟨o,_,_,b1,b2⟩,hp⟩
    dsimp only at *
    omega
  case post =>
    rintro ⟨c0,out,ia,ib,mg⟩ st' ⟨hs,r,e0,hm⟩
    dsimp only at *
    subst e0
    exact wpS_pure (h _ _ hs hm)
  case step =>
    rintro x ⟨c0,out,ia,ib,mg⟩ st1 _ hx ⟨hs1,e0,j0,hp⟩
    dsimp only at *
    subst e0
    refine wpS_bind (wpS_mono (wpS_forRange
      (I:=fun (y:Nat) (c:LoSt) (st':SortSt)=>st'=st1∧c.1=none∧JLo key it As Bs c.2.1 c.2.2.1 c.2.2.2.1∧ia+ib+y≤c.2.2.1+c.2.2.2.1)
      (Q:=fun (c:LoSt) (st':SortSt)=>st'=st1∧((∃ r,c.1=some r∧Merged key it As Bs r)∨(c.1=none∧JLo key it As Bs c.2.1 c.2.2.1 c.2.2.2.1∧ia+ib+1≤c.2.2.1+c.2.2.2.1))) ?step1 ?fin1 ⟨rfl,rfl,j0,by simp⟩) ?post1)
    case fin1 =>
      rintro ⟨c0,out',ia',ib',ac,bc⟩ st' ⟨hs,e0,j,hp'⟩
      dsimp only at *
      exact ⟨hs,.inr ⟨e0,j,by omega⟩⟩
    case step1 =>
      rintro y ⟨c0,out',ia',ib',ac,bc⟩ st' _ hy ⟨rfl,e0,⟨o,rfl,m,b1,b2⟩,hp'⟩
      dsimp only at *
      subst e0
      refine wpS_bind (welemL b2 (wpS_bind (welemL (by omega) ?_)))
      refine wpS_bind (wlt hc (gB _ b2) (gA _ (by omega)) (hs1.1.trans hκ) ?_)
      dsimp only
      cases hb:O.blt (key (Bs.getD ib' 0)) (key (As.getD ia' 0)) with
      | true =>
        rw [if_pos rfl]
        refine wpS_bind (welemL b2 ?_)
        rw [arr_push]
        have m1:=lo_stepB m b2 sA fun x hx=>KeyOrd.kle_trans (KeyOrd.kle_of_klt hb) (up_drop sA (by omega) x hx)
        by_cases h3:(ib' + 1 == Bs.length)=true
        · rw [if_pos h3]
          exact wpS_pure ⟨rfl,.inl ⟨_,rfl,retB _ _ _ m1 (by simpa using h3)⟩⟩
        rw [if_neg h3]
        have h3':ib' + 1 < Bs.length:=by simp at h3; omega
        by_cases h4:bc+1 ≥ mg
        · rw [if_pos h4]
          exact wpS_pure ⟨rfl,.inr ⟨rfl,⟨_,rfl,m1,b1,h3'⟩,by dsimp only; omega⟩⟩
        · rw [if_neg h4]
          exact wpS_pure ⟨rfl,rfl,⟨_,rfl,m1,b1,h3'⟩,by dsimp only; omega⟩
      | false =>
        rw [if_neg (by simp)]
        refine wpS_bind (welemL (by omega) ?_)
        rw [arr_push]
        have m1:=lo_stepA m (by omega) fun y hy=>KeyOrd.kle_trans (show O.kle _ _ from hb) (up_drop sB b2 y hy)
        by_cases h3:(ia' + 1+1 == As.length)=true
        · rw [if_pos h3]
          exact wpS_pure ⟨rfl,.inl ⟨_,rfl,retL _ _ _ m1 (by simpa using h3)⟩⟩
        rw [if_neg h3]
        have h3':ia' + 1+1 < As.length:=by simp at h3; omega
        by_cases h4:ac+1 ≥ mg
        · rw [if_pos h4]
          exact wpS_pure ⟨rfl,.inr ⟨rfl,⟨_,rfl,m1,h3',b2⟩,by dsimp only; omega⟩⟩
        · rw [if_neg h4]
          exact wpS_pure ⟨rfl,rfl,⟨_,rfl,m1,h3',b2⟩,by dsimp only; omega⟩
    case post1 =>
      rintro ⟨c0,out',ia',ib',ac,bc⟩ st' ⟨rfl,⟨r,e0,hm⟩ | ⟨e0,j,hp1⟩⟩
      · dsimp only at *
        subst e0
        exact wpS_pure ⟨hs1,r,rfl,hm⟩
      dsimp only at *
      subst e0
      dsimp only
      refine wpS_bind (wpS_lift (wpAny_rule ⟨rfl,?_⟩))
      refine wpS_bind (wpS_mono (wpS_forRange
        (I:=fun (y:Nat) (c:Option (Array Keyed) × Array Keyed × Nat × Nat × Nat × Nat × Nat) (st2:SortSt)=>Stay st' st2∧c.1=none∧JLo key it As Bs c.2.1 c.2.2.1 c.2.2.2.1∧ia' + ib'≤c.2.2.1+c.2.2.2.1)
        (Q:=fun (c:Option (Array Keyed) × Array Keyed × Nat × Nat × Nat × Nat × Nat) (st2:SortSt)=>Stay st' st2∧((∃ r,c.1=some r∧Merged key it As Bs r)∨(c.1=none∧JLo key it As Bs c.2.1 c.2.2.1 c.2.2.2.1∧ia' + ib'≤c.2.2.1+c.2.2.2.1))) ?step2 ?fin2 ⟨Stay.refl _,rfl,j,Nat.le_refl _⟩) ?post2)
      case fin2 =>
        rintro ⟨c0,out2,ia2,ib2,mg2,ac2,bc2⟩ st2 ⟨hs,e0,j,hp'⟩
        dsimp only at *
        exact ⟨hs,.inr ⟨e0,j,hp'⟩⟩
      case post2 =>
        rintro ⟨c0,out2,ia2,ib2,mg2,ac2,bc2⟩ st2 ⟨hs,⟨r,e0,hm⟩ | ⟨e0,j,hp2⟩⟩
        · dsimp only at *
          subst e0
          exact wpS_pure ⟨hs1.trans hs,r,rfl,hm⟩
        · dsimp only at *
          subst e0
          dsimp only
          refine wpS_bind (wsetMin fun st3 hs3=>wpS_pure ⟨(hs1.trans hs).trans hs3,rfl,j,by dsimp only; omega⟩)
      case step2 =>
        rintro y ⟨c0,out2,ia2,ib2,mg2,ac2,bc2⟩ st2 _ hy ⟨hs2,e0,⟨o,rfl,m,b1,b2⟩,hp2⟩
        dsimp only at *
        subst e0
        by_cases hmg:mg2 > 1
        all_goals first | rw [if_pos hmg] | rw [if_neg hmg]
        all_goals
          refine wpS_bind (wsetMin fun st3 hs3=>?_)
          have hS:=hs2.trans hs3
          have hκ3:kindOf st3=κ:=(hs1.trans hS).1.trans hκ
          refine wpS_bind (welemL b2 (wpS_bind (wgal hc hA (gB _ b2) hκ3 (by omega) (by omega) sA fun k p1 p2 p3=>?_)))
          dsimp only
          by_cases hk0:k > 0
          · rw [if_pos hk0]
            have ex:=arr_part (it:=it) As ia2 k (by omega)
            rw [ex,arr_app]
            have m1:=m.takeAs (drop_split As ia2 k) (fun x hx y hy=>by
              obtain ⟨j,hj,hjl,rfl⟩:=mem_part hx
              exact KeyOrd.kle_trans (show O.kle _ _ from p2 j hj) (up_drop sB b2 y hy))
            by_cases h3:(ia2+k+1 == As.length)=true
            · rw [if_pos h3]
              exact wpS_pure ⟨hS,.inl ⟨_,rfl,retL _ _ _ m1 (by simpa using h3)⟩⟩
            rw [if_neg h3]
            by_cases h4:(ia2+k == As.length)=true
            · rw [if_pos h4]
              exact wpS_pure ⟨hS,.inl ⟨_,rfl,retA _ _ _ m1 (by simpa using h4)⟩⟩
            rw [if_neg h4]
            have b3:ia2+k+1 < As.length:=by simp at h3 h4; omega
            have hle:∀ x∈As.drop (ia2+k),O.kle (key (Bs.getD ib2 0)) (key x):=fun x hx=>by
              have:=p3 k (Nat.le_refl _) (by omega)
              exact KeyOrd.kle_trans (KeyOrd.kle_of_klt (show O.klt _ _ from this)) (up_drop sA (by omega) x hx)
            have hpk:ia' + ib'≤ia2+k+ib2:=by omega
            generalize o++(As.drop ia2).take k=o3 at m1 ⊢
            generalize ia2+k=ia3 at m1 b3 hle hpk ⊢
            refine wpS_bind (welemL b2 ?_)
            rw [arr_push]
            have m2:=lo_stepB m1 b2 sA hle
            by_cases h5:(ib2+1 == Bs.length)=true
            · rw [if_pos h5]
              exact wpS_pure ⟨hS,.inl ⟨_,rfl,retB _ _ _ m2 (by simpa using h5)⟩⟩
            rw [if_neg h5]
            have b5:ib2+1 < Bs.length:=by simp at h5; omega
            refine wpS_bind (welemL (by omega) (wpS_bind (wgal hc hB (gA _ (by omega)) hκ3 (by omega) (by omega) sB fun k2 q1 q2 q3=>?_)))
            dsimp only
            generalize o3++[Bs.getD ib2 0]=o4 at m2 ⊢
            by_cases hk2:k2 > 0
            · rw [if_pos hk2]
              have ex2:=arr_part (it:=it) Bs (ib2+1) k2 (by omega)
              rw [ex2,arr_app]
              have m3:=m2.takeBs (drop_split Bs (ib2+1) k2) (fun x hx y hy=>by
                obtain ⟨j,hj,hjl,rfl⟩:=mem_part hx
                exact KeyOrd.kle_trans (KeyOrd.kle_of_klt (show O.klt _ _ from q2 j hj)) (up_drop sA (by omega) y hy))
              by_cases h6:(ib2+1+k2 == Bs.length)=true
              · rw [if_pos h6]
                exact wpS_pure ⟨hS,.inl ⟨_,rfl,retB _ _ _ m3 (by simpa using h6)⟩⟩
              rw [if_neg h6]
              have b6:ib2+1+k2 < Bs.length:=by simp at h6; omega
              have hl2:∀ y∈Bs.drop (ib2+1+k2),O.kle (key (As.getD ia3 0)) (key y):=fun y hy=>by
                have:=q3 k2 (Nat.le_refl _) (by omega)
                exact KeyOrd.kle_trans (show O.kle _ _ from this) (up_drop sB b6 y hy)
              have hp3:ia' + ib'≤ia3+(ib2+1+k2):=by omega
              generalize o4++(Bs.drop (ib2+1)).take k2=o5 at m3 ⊢
              generalize ib2+1+k2=ib3 at m3 b6 hl2 hp3 ⊢
              refine wpS_bind (welemL (by omega) ?_)
              rw [arr_push]
              have m4:=lo_stepA m3 (by omega) hl2
              by_cases h7:(ia3+1+1 == As.length)=true
              · rw [if_pos h7]
                exact wpS_pure ⟨hS,.inl ⟨_,rfl,retL _ _ _ m4 (by simpa using h7)⟩⟩
              rw [if_neg h7]
              have b7:ia3+1+1 < As.length:=by simp at h7; omega
              by_cases h8:(decide (k < 7) && decide (k2 < 7))=true
              · rw [if_pos h8]
                exact wpS_pure ⟨hS,.inr ⟨rfl,⟨_,rfl,m4,b7,b6⟩,by dsimp only; omega⟩⟩
              · rw [if_neg h8]
                exact wpS_pure ⟨hS,rfl,⟨_,rfl,m4,b7,b6⟩,by dsimp only; omega⟩
            · rw [if_neg hk2]
              have ek2:k2=0:=by omega
              have m3:=m2
              have b6:=b5
              have hl2:∀ y∈Bs.drop (ib2+1),O.kle (key (As.getD ia3 0)) (key y):=fun y hy=>by
                have:=q3 0 (by omega) (by omega)
                exact KeyOrd.kle_trans (show O.kle _ _ from this) (up_drop sB b5 y hy)
              have hp3:ia' + ib'≤ia3+(ib2+1):=by omega
              generalize o4=o5 at m3 ⊢
              generalize ib2+1=ib3 at m3 b6 hl2 hp3 ⊢
              refine wpS_bind (welemL (by omega) ?_)
              rw [arr_push]
              have m4:=lo_stepA m3 (by omega) hl2
              by_cases h7:(ia3+1+1 == As.length)=true
              · rw [if_pos h7]
                exact wpS_pure ⟨hS,.inl ⟨_,rfl,retL _ _ _ m4 (by simpa using h7)⟩⟩
              rw [if_neg h7]
              have b7:ia3+1+1 < As.length:=by simp at h7; omega
              by_cases h8:(decide (k < 7) && decide (k2 < 7))=true
              · rw [if_pos h8]
                exact wpS_pure ⟨hS,.inr ⟨rfl,⟨_,rfl,m4,b7,b6⟩,by dsimp only; omega⟩⟩
              · rw [if_neg h8]
                exact wpS_pure ⟨hS,rfl,⟨_,rfl,m4,b7,b6⟩,by dsimp only; omega⟩
          · rw [if_neg hk0]
            have ek:k=0:=by omega
            have m1:=m
            have b3:=b1
            have hle:∀ x∈As.drop ia2,O.kle (key (Bs.getD ib2 0)) (key x):=fun x hx=>by
              have:=p3 0 (by omega) (by omega)
              exact KeyOrd.kle_trans (KeyOrd.kle_of_klt (show O.klt _ _ from this)) (up_drop sA (by omega) x hx)
            have hpk:=hp2
            generalize o=o3 at m1 ⊢
            generalize ia2=ia3 at m1 b3 hle hpk ⊢
            refine wpS_bind (welemL b2 ?_)
            rw [arr_push]
            have m2:=lo_stepB m1 b2 sA hle
            by_cases h5:(ib2+1 == Bs.length)=true
            · rw [if_pos h5]
              exact wpS_pure ⟨hS,.inl ⟨_,rfl,retB _ _ _ m2 (by simpa using h5)⟩⟩
            rw [if_neg h5]
            have b5:ib2+1 < Bs.length:=by simp at h5; omega
            refine wpS_bind (welemL (by omega) (wpS_bind (wgal hc hB (gA _ (by omega)) hκ3 (by omega) (by omega) sB fun k2 q1 q2 q3=>?_)))
            dsimp only
            generalize o3++[Bs.getD ib2 0]=o4 at m2 ⊢
            by_cases hk2:k2 > 0
            · rw [if_pos hk2]
              have ex2:=arr_part (it:=it) Bs (ib2+1) k2 (by omega)
              rw [ex2,arr_app]
              have m3:=m2.takeBs (drop_split Bs (ib2+1) k2) (fun x hx y hy=>by
                obtain ⟨j,hj,hjl,rfl⟩:=mem_part hx
                exact KeyOrd.kle_trans (KeyOrd.kle_of_klt (show O.klt _ _ from q2 j hj)) (up_drop sA (by omega) y hy))
              by_cases h6:(ib2+1+k2 == Bs.length)=true
              · rw [if_pos h6]
                exact wpS_pure ⟨hS,.inl ⟨_,rfl,retB _ _ _ m3 (by simpa using h6)⟩⟩
              rw [if_neg h6]
              have b6:ib2+1+k2 < Bs.length:=by simp at h6; omega
              have hl2:∀ y∈Bs.drop (ib2+1+k2),O.kle (key (As.getD ia3 0)) (key y):=fun y hy=>by
                have:=q3 k2 (Nat.le_refl _) (by omega)
                exact KeyOrd.kle_trans (show O.kle _ _ from this) (up_drop sB b6 y hy)
              have hp3:ia' + ib'≤ia3+(ib2+1+k2):=by omega
              generalize o4++(Bs.drop (ib2+1)).take k2=o5 at m3 ⊢
              generalize ib2+1+k2=ib3 at m3 b6 hl2 hp3 ⊢
              refine wpS_bind (welemL (by omega) ?_)
              rw [arr_push]
              have m4:=lo_stepA m3 (by omega) hl2
              by_cases h7:(ia3+1+1 == As.length)=true
              · rw [if_pos h7]
                exact wpS_pure ⟨hS,.inl ⟨_,rfl,retL _ _ _ m4 (by simpa using h7)⟩⟩
              rw [if_neg h7]
              have b7:ia3+1+1 < As.length:=by simp at h7; omega
              by_cases h8:(decide (k < 7) && decide (k2 < 7))=true
              · rw [if_pos h8]
                exact wpS_pure ⟨hS,.inr ⟨rfl,⟨_,rfl,m4,b7,b6⟩,by dsimp only; omega⟩⟩
              · rw [if_neg h8]
                exact wpS_pure ⟨hS,rfl,⟨_,rfl,m4,b7,b6⟩,by dsimp only; omega⟩
            · rw [if_neg hk2]
              have ek2:k2=0:=by omega
              have m3:=m2
              have b6:=b5
              have hl2:∀ y∈Bs.drop (ib2+1),O.kle (key (As.getD ia3 0)) (key y):=fun y hy=>by
                have:=q3 0 (by omega) (by omega)
                exact KeyOrd.kle_trans (show O.kle _ _ from this) (up_drop sB b5 y hy)
              have hp3:ia' + ib'≤ia3+(ib2+1):=by omega
              generalize o4=o5 at m3 ⊢
              generalize ib2+1=ib3 at m3 b6 hl2 hp3 ⊢
              refine wpS_bind (welemL (by omega) ?_)
              rw [arr_push]
              have m4:=lo_stepA m3 (by omega) hl2
              by_cases h7:(ia3+1+1 == As.length)=true
              · rw [if_pos h7]
                exact wpS_pure ⟨hS,.inl ⟨_,rfl,retL _ _ _ m4 (by simpa using h7)⟩⟩
              rw [if_neg h7]
              have b7:ia3+1+1 < As.length:=by simp at h7; omega
              by_cases h8:(decide (k < 7) && decide (k2 < 7))=true
              · rw [if_pos h8]
                exact wpS_pure ⟨hS,.inr ⟨rfl,⟨_,rfl,m4,b7,b6⟩,by dsimp only; omega⟩⟩
              · rw [if_neg h8]
                exact wpS_pure ⟨hS,rfl,⟨_,rfl,m4,b7,b6⟩,by dsimp only; omega⟩
end
end SO
set_option Elab.async false
set_option linter.all false
set_option maxRecDepth 100000
set_option maxHeartbeats 2000000
namespace SO
open PySem PySem.W PyProof.Rows
def mergeHi':Array Keyed→Array Keyed→StateT SortSt Sem (Array Keyed):=sortPriv% PySem.Builtin.mergeHi
theorem mergeHi'_eq (a b:Array Keyed):mergeHi' a b=(do
  rule "list.sort.merge-hi"
  let total:=a.size+b.size
  let done (out:Array Keyed) (na nb:Nat):=a.extract 0 na++b.extract 0 nb++out.reverse
  let firstOfB (out:Array Keyed) (na nb:Nat):=b.extract 0 nb++a.extract 0 na++out.reverse
  let mut na:=a.size - 1
  let mut nb:=b.size
  let mut out:Array Keyed:=#[← elem' a na]
  if na == 0 then return done out na nb
  if nb == 1 then return firstOfB out na nb
  let mut minGallop:=gallopOf (← get)
  for _ in [0:total] do
    let mut acount:=0
    let mut bcount:=0
    for _ in [0:total] do
      let some aWins ← lt' (← elem' b (nb - 1)) (← elem' a (na - 1)) | return done out na nb
      if aWins then
        na:=na - 1; out:=out.push (← elem' a na); acount:=acount+1; bcount:=0
        if na == 0 then return done out na nb
        if acount ≥ minGallop then break
      else
        nb:=nb - 1; out:=out.push (← elem' b nb); bcount:=bcount+1; acount:=0
        if nb == 1 then return firstOfB out na nb
        if bcount ≥ minGallop then break
    rule "list.sort.gallop"
    minGallop:=minGallop+1
    for _ in [0:total] do
      if minGallop > 1 then minGallop:=minGallop - 1
      setMinGallop' minGallop
      let some at_ ← gallop' false (← elem' b (nb - 1)) a 0 na (na - 1) | return done out na nb
      let k:=na - at_
      acount:=k
      if k > 0 then
        out:=out++(a.extract at_ na).reverse; na:=at_
        if na == 0 then return done out na nb
      nb:=nb - 1; out:=out.push (← elem' b nb)
      if nb == 1 then return firstOfB out na nb
      let some at_ ← gallop' true (← elem' a (na - 1)) b 0 nb (nb - 1) | return done out na nb
      let k:=nb - at_
      bcount:=k
      if k > 0 then
        out:=out++(b.extract at_ nb).reverse; nb:=at_
        if nb == 1 then return firstOfB out na nb
        if nb == 0 then return done out na nb
      na:=na - 1; out:=out.push (← elem' a na)
      if na == 0 then return done out na nb
      if acount < 7 && bcount < 7 then break
    minGallop:=minGallop+1
    setMinGallop' minGallop
  unsupported "internal:list.sort.merge-bound"):=rfl
section
variable {O:KeyOrd} {key:Nat→O.α} {N:Nat} {prog:Program} {w:World} {A:Around} {E:Value→Shared→Prop} {s:Shared} {κ:SortKind} {it:Array Keyed} {st:SortSt} {As Bs o ra rb xs ra' rb':List Nat} {na nb:Nat}
structure Mh (key:Nat→O.α) (As Bs o ra rb:List Nat):Prop where
  perm:(ra++rb++o).Perm (As++Bs)
  so:Up key o
  le:∀ x∈ra++rb,∀ y∈o,O.kle (key x) (key y)
  sa:Up key ra
  sb:Up key rb
theorem Mh.takeBs (m:Mh key As Bs o ra rb) (e:rb=rb'++xs) (h:∀ x∈ra,∀ y∈xs,O.kle (key x) (key y)):Mh key As Bs (xs++o) ra rb':=by
  subst e
  have sb:=List.pairwise_append.mp m.sb
  refine ⟨(by rw [← List.append_assoc,List.append_assoc ra]; exact m.perm),List.pairwise_append.mpr ⟨sb.2.1,m.so,fun x hx y hy=>m.le x (by simp [hx]) y hy⟩,fun x hx y hy=>?_,m.sa,sb.1⟩
  rcases List.mem_append.mp hy with hy | hy
  · rcases List.mem_append.mp hx with z | z
    · exact h x z y hy
    · exact sb.2.2 x z y hy
  · exact m.le x (by rcases List.mem_append.mp hx with z | z <;> simp [z]) y hy
theorem Mh.takeAs (m:Mh key As Bs o ra rb) (e:ra=ra'++xs) (h:∀ x∈rb,∀ y∈xs,O.kle (key x) (key y)):Mh key As Bs (xs++o) ra' rb:=by
  subst e
  have sa:=List.pairwise_append.mp m.sa
  refine ⟨List.Perm.trans ?_ m.perm,List.pairwise_append.mpr ⟨sa.2.1,m.so,fun x hx y hy=>m.le x (by simp [hx]) y hy⟩,fun x hx y hy=>?_,sa.1,m.sb⟩
  · rw [← List.append_assoc]
    refine List.Perm.append_right o ?_
    rw [List.append_assoc,List.append_assoc]
    exact List.perm_append_comm.append_left ra'
  · rcases List.mem_append.mp hy with hy | hy
    · rcases List.mem_append.mp hx with z | z
      · exact sa.2.2 x z y hy
      · exact h x z y hy
    · exact m.le x (by rcases List.mem_append.mp hx with z | z <;> simp [z]) y hy
theorem Mh.doneB (m:Mh key As Bs o [] rb):Merged key it As Bs (arr it []++arr it rb++arr it o) :=
  ⟨rb++o,by rw [arr_app,arr_app,List.nil_append],by simpa using m.perm,List.pairwise_append.mpr ⟨m.sb,m.so,fun x hx y hy=>m.le x (by simp [hx]) y hy⟩⟩
theorem Mh.doneA (m:Mh key As Bs o ra []):Merged key it As Bs (arr it ra++arr it []++arr it o) :=
  ⟨ra++o,by rw [arr_app,arr_app,List.append_nil],by simpa using m.perm,List.pairwise_append.mpr ⟨m.sa,m.so,fun x hx y hy=>m.le x (by simp [hx]) y hy⟩⟩
theorem Mh.firstB (m:Mh key As Bs o ra rb) (h:∀ x∈ra,∀ y∈rb,O.kle (key y) (key x)):Merged key it As Bs (arr it rb++arr it ra++arr it o):=by
  refine ⟨rb++ra++o,by rw [arr_app,arr_app],List.Perm.trans (List.perm_append_comm.append_right o) m.perm,List.pairwise_append.mpr ⟨List.pairwise_append.mpr ⟨m.sb,m.sa,fun x hx y hy=>h y hy x hx⟩,m.so,fun x hx y hy=>m.le x (by rcases List.mem_append.mp hx with z | z <;> simp [z]) y hy⟩⟩
theorem take_snoc {l:List Nat} {i:Nat} (h:i < l.length):l.take (i+1)=l.take i++[l.getD i 0]:=by
  rw [getD_of h,List.take_add_one,List.getElem?_eq_getElem h]; rfl
theorem take_pred {l:List Nat} {i:Nat} (h0:0 < i) (h:i≤l.length):l.take i=l.take (i - 1)++[l.getD (i - 1) 0]:=by
  have:=take_snoc (l:=l) (i:=i - 1) (by omega)
  rwa [show i - 1+1=i by omega] at this
theorem take_split (l:List Nat) {i k:Nat} (h:k≤i):l.take i=l.take k++(l.drop k).take (i - k):=by
  have:=List.take_append_drop k (l.take i)
  rw [List.take_take,Nat.min_eq_left h,List.drop_take] at this
  exact this.symm
theorem up_take {l:List Nat} (h:Up key l) {i:Nat} (h0:0 < i) (hi:i≤l.length):∀ x∈l.take i,O.kle (key x) (key (l.getD (i - 1) 0)):=fun x hx=>by
  obtain ⟨j,hj,e⟩:=List.getElem_of_mem hx
  simp at hj
  have:=up_le h (i:=j) (j:=i - 1) (by omega) (by omega)
  rw [getD_of (by omega)] at this
  have e':l[j]=x:=by simpa using e
  rwa [e'] at this
theorem hi_stepB (m:Mh key As Bs o (As.take na) (Bs.take nb)) (h0:0 < nb) (hb:nb≤Bs.length) (hle:∀ x∈As.take na,O.kle (key x) (key (Bs.getD (nb - 1) 0))):Mh key As Bs ([Bs.getD (nb - 1) 0]++o) (As.take na) (Bs.take (nb - 1)) :=
  m.takeBs (take_pred h0 hb) fun x hx y hy=>by rw [List.mem_singleton.mp hy]; exact hle x hx
theorem hi_stepA (m:Mh key As Bs o (As.take na) (Bs.take nb)) (h0:0 < na) (ha:na≤As.length) (hle:∀ x∈Bs.take nb,O.kle (key x) (key (As.getD (na - 1) 0))):Mh key As Bs ([As.getD (na - 1) 0]++o) (As.take (na - 1)) (Bs.take nb) :=
  m.takeAs (take_pred h0 ha) fun x hx y hy=>by rw [List.mem_singleton.mp hy]; exact hle x hx
def JHi (key:Nat→O.α) (it:Array Keyed) (As Bs:List Nat) (out:Array Keyed) (na nb:Nat):Prop:=∃ o,out=arr it o.reverse∧Mh key As Bs o (As.take na) (Bs.take nb)∧0 < na∧na≤As.length∧1 < nb∧nb≤Bs.length
theorem rev_push (x:Nat) (o:List Nat):(arr it o.reverse).push (kas_item it x)=arr it ([x]++o).reverse:=by rw [arr_push]; simp
theorem rev_app (l:List Nat) (i k:Nat) (o:List Nat) (h:k≤i) (hi:i≤l.length):arr it o.reverse++((arr it l).extract k i).reverse=arr it ((l.drop k).take (i - k)++o).reverse:=by
  have e:=arr_part (it:=it) l k (i - k) (by omega)
  rw [show k+(i - k)=i by omega] at e
  rw [e,arr_rev,arr_app,List.reverse_append]
theorem wmergeHi {Q:Array Keyed→SortSt→Prop} (hc:Cmp key N (kas_cmp prog w A κ it) s) (hA:∀ x∈As,x < N) (hB:∀ x∈Bs,x < N) (hκ:kindOf st=κ) (sA:Up key As) (sB:Up key Bs) (nA:0 < As.length) (nB:0 < Bs.length)
    (first:∀ x∈As,O.klt (key (Bs.getD 0 0)) (key x)) (last:∀ y∈Bs,O.klt (key y) (key (As.getD (As.length - 1) 0))) (h:∀ r st',Stay st st'→Merged key it As Bs r→Q r st') :
    wpS (model prog w) A E s (mergeHi' (arr it As) (arr it Bs)) Q st:=by
  have gA:∀ i,i < As.length→As.getD i 0 < N:=fun i hi=>by rw [getD_of hi]; exact hA _ (List.getElem_mem _)
  have gB:∀ i,i < Bs.length→Bs.getD i 0 < N:=fun i hi=>by rw [getD_of hi]; exact hB _ (List.getElem_mem _)
  have retA:∀ o na nb,Mh key As Bs o (As.take na) (Bs.take nb)→na=0→Merged key it As Bs ((arr it As).extract 0 na++(arr it Bs).extract 0 nb++(arr it o.reverse).reverse):=fun o na nb m e=>by
    rw [arr_take,arr_take,arr_rev,List.reverse_reverse]
    rw [e,List.take_zero] at m ⊢
    exact m.doneB
  have retB:∀ o na nb,Mh key As Bs o (As.take na) (Bs.take nb)→nb=0→Merged key it As Bs ((arr it As).extract 0 na++(arr it Bs).extract 0 nb++(arr it o.reverse).reverse):=fun o na nb m e=>by
    rw [arr_take,arr_take,arr_rev,List.reverse_reverse]
    rw [e,List.take_zero] at m ⊢
    exact m.doneA
  have retF:∀ o na nb,Mh key As Bs o (As.take na) (Bs.take nb)→nb=1→Merged key it As Bs ((arr it Bs).extract 0 nb++(arr it As).extract 0 na++(arr it o.reverse).reverse):=fun o na nb m e=>by
    rw [arr_take,arr_take,arr_rev,List.reverse_reverse]
    refine m.firstB fun x hx y hy=>?_
    rw [e,take_pred (by omega) (by omega)] at hy
    have hy':y=Bs.getD 0 0:=by simpa using hy
    rw [hy']
    exact KeyOrd.kle_of_klt (first x (List.mem_of_mem_take hx))
  rw [mergeHi'_eq]
  refine wpS_bind (wpS_lift (wpAny_rule ⟨rfl,?_⟩))
  dsimp only
  simp only [arr_size]
  refine wpS_bind (welemL (by omega) ?_)
  have m0:Mh key As Bs ([As.getD (As.length - 1) 0]++[]) (As.take (As.length - 1)) (Bs.take Bs.length):=by
    refine hi_stepA (o:=[]) (na:=As.length) (nb:=Bs.length) ⟨by simp,List.Pairwise.nil,(fun x _ y hy=>by cases hy),by rw [List.take_length]; exact sA,by rw [List.take_length]; exact sB⟩ nA (Nat.le_refl _) fun x hx=>?_
    rw [List.take_length] at hx
    exact KeyOrd.kle_of_klt (last x hx)
  have e0:(#[kas_item it (As.getD (As.length - 1) 0)]:Array Keyed)=arr it ([As.getD (As.length - 1) 0]++[]).reverse:=by simp [arr]
  rw [e0]
  by_cases h1:(As.length - 1 == 0)=true
  · rw [if_pos h1]
    exact wpS_pure (h _ _ (Stay.refl _) (retA _ _ _ m0 (by simpa using h1)))
  rw [if_neg h1]
  by_cases h2:(Bs.length == 1)=true
  · rw [if_pos h2]
    exact wpS_pure (h _ _ (Stay.refl _) (retF _ _ _ m0 (by simpa using h2)))
  rw [if_neg h2]
  have h1':0 < As.length - 1:=by simp at h1; omega
  have h2':1 < Bs.length:=by simp at h2; omega
  refine wpS_bind (wpS_get ?_)
  refine wpS_bind (wpS_mono (wpS_forRange
    (I:=fun (x:Nat) (c:Option (Array Keyed) × Nat × Nat × Array Keyed × Nat) (st':SortSt)=>Stay st st'∧c.1=none∧JHi key it As Bs c.2.2.2.1 c.2.1 c.2.2.1∧c.2.1+c.2.2.1+x+1≤As.length+Bs.length)
    (Q:=fun (c:Option (Array Keyed) × Nat × Nat × Array Keyed × Nat) (st':SortSt)=>Stay st st'∧∃ r,c.1=some r∧Merged key it As Bs r) ?step ?fin ⟨Stay.refl _,rfl,⟨_,rfl,m0,h1',by dsimp only; omega,h2',Nat.le_refl _⟩,by dsimp only; omega⟩) ?post)
  case fin =>
    rintro ⟨c0,na,nb,out,mg⟩ st' ⟨hs,e0,⟨o,_,_,b1,b2,b3,b4⟩,hp⟩
    dsimp only at *
    omega
  case post =>
    rintro ⟨c0,na,nb,out,mg⟩ st' ⟨hs,r,e0,hm⟩
    dsimp only at *
    subst e0
    exact wpS_pure (h _ _ hs hm)
  case step =>
    rintro x ⟨c0,na,nb,out,mg⟩ st1 _ hx ⟨hs1,e0,j0,hp⟩
    dsimp only at *
    subst e0
    refine wpS_bind (wpS_mono (wpS_forRange
      (I:=fun (y:Nat) (c:Option (Array Keyed) × Nat × Nat × Array Keyed × Nat × Nat) (st':SortSt)=>st'=st1∧c.1=none∧JHi key it As Bs c.2.2.2.1 c.2.1 c.2.2.1∧c.2.1+c.2.2.1+y≤na+nb)
      (Q:=fun (c:Option (Array Keyed) × Nat × Nat × Array Keyed × Nat × Nat) (st':SortSt)=>st'=st1∧((∃ r,c.1=some r∧Merged key it As Bs r)∨(c.1=none∧JHi key it As Bs c.2.2.2.1 c.2.1 c.2.2.1∧c.2.1+c.2.2.1+1≤na+nb))) ?step1 ?fin1 ⟨rfl,rfl,j0,by dsimp only; omega⟩) ?post1)
    case fin1 =>
      rintro ⟨c0,na',nb',out',ac,bc⟩ st' ⟨hs,e0,j,hp'⟩
      dsimp only at *
      exact ⟨hs,.inr ⟨e0,j,by omega⟩⟩
    case step1 =>
      rintro y ⟨c0,na',nb',out',ac,bc⟩ st' _ hy ⟨rfl,e0,⟨o,rfl,m,b1,b2,b3,b4⟩,hp'⟩
      dsimp only at *
      subst e0
      refine wpS_bind (welemL (by omega) (wpS_bind (welemL (by omega) ?_)))
      refine wpS_bind (wlt hc (gB _ (by omega)) (gA _ (by omega)) (hs1.1.trans hκ) ?_)
      dsimp only
      cases hb:O.blt (key (Bs.getD (nb' - 1) 0)) (key (As.getD (na' - 1) 0)) with
      | true =>
        rw [if_pos rfl]
        refine wpS_bind (welemL (by omega) ?_)
        rw [rev_push]
        have m1:=hi_stepA m b1 b2 fun x hx=>KeyOrd.kle_trans (up_take sB (by omega) b4 x hx) (KeyOrd.kle_of_klt hb)
        by_cases h3:(na' - 1 == 0)=true
        · rw [if_pos h3]
          exact wpS_pure ⟨rfl,.inl ⟨_,rfl,retA _ _ _ m1 (by simpa using h3)⟩⟩
        rw [if_neg h3]
        have h3':0 < na' - 1:=by simp at h3; omega
        by_cases h4:ac+1 ≥ mg
        · rw [if_pos h4]
          exact wpS_pure ⟨rfl,.inr ⟨rfl,⟨_,rfl,m1,h3',by dsimp only; omega,b3,b4⟩,by dsimp only; omega⟩⟩
        · rw [if_neg h4]
          exact wpS_pure ⟨rfl,rfl,⟨_,rfl,m1,h3',by dsimp only; omega,b3,b4⟩,by dsimp only; omega⟩
      | false =>
        rw [if_neg (by simp)]
        refine wpS_bind (welemL (by omega) ?_)
        rw [rev_push]
        have m1:=hi_stepB m (by omega) b4 fun x hx=>KeyOrd.kle_trans (up_take sA b1 b2 x hx) (show O.kle _ _ from hb)
        by_cases h3:(nb' - 1 == 1)=true
        · rw [if_pos h3]
          exact wpS_pure ⟨rfl,.inl ⟨_,rfl,retF _ _ _ m1 (by simpa using h3)⟩⟩
        rw [if_neg h3]
        have h3':1 < nb' - 1:=by simp at h3; omega
        by_cases h4:bc+1 ≥ mg
        · rw [if_pos h4]
          exact wpS_pure ⟨rfl,.inr ⟨rfl,⟨_,rfl,m1,b1,b2,h3',by dsimp only; omega⟩,by dsimp only; omega⟩⟩
        · rw [if_neg h4]
          exact wpS_pure ⟨rfl,rfl,⟨_,rfl,m1,b1,b2,h3',by dsimp only; omega⟩,by dsimp only; omega⟩
    case post1 =>
      rintro ⟨c0,na',nb',out',ac,bc⟩ st' ⟨rfl,⟨r,e0,hm⟩ | ⟨e0,j,hp1⟩⟩
      · dsimp only at *
        subst e0
        exact wpS_pure ⟨hs1,r,rfl,hm⟩
      dsimp only at *
      subst e0
      dsimp only
      refine wpS_bind (wpS_lift (wpAny_rule ⟨rfl,?_⟩))
      refine wpS_bind (wpS_mono (wpS_forRange
        (I:=fun (y:Nat) (c:Option (Array Keyed) × Nat × Nat × Array Keyed × Nat × Nat × Nat) (st2:SortSt)=>Stay st' st2∧c.1=none∧JHi key it As Bs c.2.2.2.1 c.2.1 c.2.2.1∧c.2.1+c.2.2.1≤na' + nb')
        (Q:=fun (c:Option (Array Keyed) × Nat × Nat × Array Keyed × Nat × Nat × Nat) (st2:SortSt)=>Stay st' st2∧((∃ r,c.1=some r∧Merged key it As Bs r)∨(c.1=none∧JHi key it As Bs c.2.2.2.1 c.2.1 c.2.2.1∧c.2.1+c.2.2.1≤na' + nb'))) ?step2 ?fin2 ⟨Stay.refl _,rfl,j,Nat.le_refl _⟩) ?post2)
      case fin2 =>
        rintro ⟨c0,na2,nb2,out2,mg2,ac2,bc2⟩ st2 ⟨hs,e0,j,hp'⟩
        dsimp only at *
        exact ⟨hs,.inr ⟨e0,j,hp'⟩⟩
      case post2 =>
        rintro ⟨c0,na2,nb2,out2,mg2,ac2,bc2⟩ st2 ⟨hs,⟨r,e0,hm⟩ | ⟨e0,j,hp2⟩⟩
        · dsimp only at *
          subst e0
          exact wpS_pure ⟨hs1.trans hs,r,rfl,hm⟩
        · dsimp only at *
          subst e0
          dsimp only
          refine wpS_bind (wsetMin fun st3 hs3=>wpS_pure ⟨(hs1.trans hs).trans hs3,rfl,j,by dsimp only; omega⟩)
      case step2 =>
        rintro y ⟨c0,na2,nb2,out2,mg2,ac2,bc2⟩ st2 _ hy ⟨hs2,e0,⟨o,rfl,m,b1,b2,b3,b4⟩,hp2⟩
        dsimp only at *
        subst e0
        by_cases hmg:mg2 > 1
        all_goals first | rw [if_pos hmg] | rw [if_neg hmg]
        all_goals
          refine wpS_bind (wsetMin fun st3 hs3=>?_)
          have hS:=hs2.trans hs3
          have hκ3:kindOf st3=κ:=(hs1.trans hS).1.trans hκ
          refine wpS_bind (welemL (by omega) (wpS_bind (wgal hc hA (gB _ (by omega)) hκ3 (by omega) (by omega) sA fun at1 p1 p2 p3=>?_)))
          dsimp only
          by_cases hk0:na2 - at1 > 0
          · rw [if_pos hk0]
            rw [rev_app As na2 at1 o (by omega) b2]
            have m1:=m.takeAs (take_split As (i:=na2) (k:=at1) (by omega)) (fun x hx y hy=>by
              obtain ⟨j,hj,hjl,rfl⟩:=mem_part hy
              have:=p3 (at1+j) (by omega) (by omega)
              rw [Nat.zero_add] at this
              exact KeyOrd.kle_trans (up_take sB (by omega) b4 x hx) (KeyOrd.kle_of_klt (show O.klt _ _ from this)))
            by_cases h3:(at1 == 0)=true
            · rw [if_pos h3]
              exact wpS_pure ⟨hS,.inl ⟨_,rfl,retA _ _ _ m1 (by simpa using h3)⟩⟩
            rw [if_neg h3]
            have c1:0 < at1:=by simp at h3; omega
            have c2:at1≤As.length:=by omega
            have hle:∀ x∈As.take at1,O.kle (key x) (key (Bs.getD (nb2 - 1) 0)):=fun x hx=>by
              have:=p2 (at1 - 1) (by omega)
              rw [Nat.zero_add] at this
              exact KeyOrd.kle_trans (up_take sA c1 c2 x hx) (show O.kle _ _ from this)
            have hpk:at1≤na2:=by omega
            generalize (As.drop at1).take (na2 - at1)++o=o3 at m1 ⊢
            refine wpS_bind (welemL (by omega) ?_)
            rw [rev_push]
            have m2:=hi_stepB m1 (by omega) b4 hle
            by_cases h5:(nb2 - 1 == 1)=true
            · rw [if_pos h5]
              exact wpS_pure ⟨hS,.inl ⟨_,rfl,retF _ _ _ m2 (by simpa using h5)⟩⟩
            rw [if_neg h5]
            have b5:1 < nb2 - 1:=by simp at h5; omega
            refine wpS_bind (welemL (by omega) (wpS_bind (wgal hc hB (gA _ (by omega)) hκ3 (by omega) (by omega) sB fun at2 q1 q2 q3=>?_)))
            dsimp only
            generalize [Bs.getD (nb2 - 1) 0]++o3=o4 at m2 ⊢
            by_cases hk2:nb2 - 1 - at2 > 0
            · rw [if_pos hk2]
              rw [rev_app Bs (nb2 - 1) at2 o4 (by omega) (by omega)]
              have m3:=m2.takeBs (take_split Bs (i:=nb2 - 1) (k:=at2) (by omega)) (fun x hx y hy=>by
                obtain ⟨j,hj,hjl,rfl⟩:=mem_part hy
                have:=q3 (at2+j) (by omega) (by omega)
                rw [Nat.zero_add] at this
                exact KeyOrd.kle_trans (up_take sA c1 c2 x hx) (show O.kle _ _ from this))
              by_cases h6:(at2 == 1)=true
              · rw [if_pos h6]
                exact wpS_pure ⟨hS,.inl ⟨_,rfl,retF _ _ _ m3 (by simpa using h6)⟩⟩
              rw [if_neg h6]
              by_cases h6b:(at2 == 0)=true
              · rw [if_pos h6b]
                exact wpS_pure ⟨hS,.inl ⟨_,rfl,retB _ _ _ m3 (by simpa using h6b)⟩⟩
              rw [if_neg h6b]
              have d1:1 < at2:=by simp at h6 h6b; omega
              have d2:at2≤Bs.length:=by omega
              have hl2:∀ x∈Bs.take at2,O.kle (key x) (key (As.getD (at1 - 1) 0)):=fun x hx=>by
                have:=q2 (at2 - 1) (by omega)
                rw [Nat.zero_add] at this
                exact KeyOrd.kle_trans (up_take sB (by omega) d2 x hx) (KeyOrd.kle_of_klt (show O.klt _ _ from this))
              generalize (Bs.drop at2).take (nb2 - 1 - at2)++o4=o5 at m3 ⊢
              refine wpS_bind (welemL (by omega) ?_)
              rw [rev_push]
              have m4:=hi_stepA m3 c1 c2 hl2
              by_cases h7:(at1 - 1 == 0)=true
              · rw [if_pos h7]
                exact wpS_pure ⟨hS,.inl ⟨_,rfl,retA _ _ _ m4 (by simpa using h7)⟩⟩
              rw [if_neg h7]
              have b7:0 < at1 - 1:=by simp at h7; omega
              by_cases h8:(decide (na2 - at1 < 7) && decide (nb2 - 1 - at2 < 7))=true
              · rw [if_pos h8]
                exact wpS_pure ⟨hS,.inr ⟨rfl,⟨_,rfl,m4,b7,by dsimp only; omega,d1,d2⟩,by dsimp only; omega⟩⟩
              · rw [if_neg h8]
                exact wpS_pure ⟨hS,rfl,⟨_,rfl,m4,b7,by dsimp only; omega,d1,d2⟩,by dsimp only; omega⟩
            · rw [if_neg hk2]
              have m3:=m2
              have d1:=b5
              have d2:nb2 - 1≤Bs.length:=by omega
              have hl2:∀ x∈Bs.take (nb2 - 1),O.kle (key x) (key (As.getD (at1 - 1) 0)):=fun x hx=>by
                have:=q2 (nb2 - 1 - 1) (by omega)
                rw [Nat.zero_add] at this
                exact KeyOrd.kle_trans (up_take sB (by omega) d2 x hx) (KeyOrd.kle_of_klt (show O.klt _ _ from this))
              generalize o4=o5 at m3 ⊢
              refine wpS_bind (welemL (by omega) ?_)
              rw [rev_push]
              have m4:=hi_stepA m3 c1 c2 hl2
              by_cases h7:(at1 - 1 == 0)=true
              · rw [if_pos h7]
                exact wpS_pure ⟨hS,.inl ⟨_,rfl,retA _ _ _ m4 (by simpa using h7)⟩⟩
              rw [if_neg h7]
              have b7:0 < at1 - 1:=by simp at h7; omega
              by_cases h8:(decide (na2 - at1 < 7) && decide (nb2 - 1 - at2 < 7))=true
              · rw [if_pos h8]
                exact wpS_pure ⟨hS,.inr ⟨rfl,⟨_,rfl,m4,b7,by dsimp only; omega,d1,d2⟩,by dsimp only; omega⟩⟩
              · rw [if_neg h8]
                exact wpS_pure ⟨hS,rfl,⟨_,rfl,m4,b7,by dsimp only; omega,d1,d2⟩,by dsimp only; omega⟩
          · rw [if_neg hk0]
            have m1:=m
            have c1:=b1
            have c2:=b2
            have hle:∀ x∈As.take na2,O.kle (key x) (key (Bs.getD (nb2 - 1) 0)):=fun x hx=>by
              have:=p2 (na2 - 1) (by omega)
              rw [Nat.zero_add] at this
              exact KeyOrd.kle_trans (up_take sA c1 c2 x hx) (show O.kle _ _ from this)
            have hpk:=Nat.le_refl na2
            generalize o=o3 at m1 ⊢
            refine wpS_bind (welemL (by omega) ?_)
            rw [rev_push]
            have m2:=hi_stepB m1 (by omega) b4 hle
            by_cases h5:(nb2 - 1 == 1)=true
            · rw [if_pos h5]
              exact wpS_pure ⟨hS,.inl ⟨_,rfl,retF _ _ _ m2 (by simpa using h5)⟩⟩
            rw [if_neg h5]
            have b5:1 < nb2 - 1:=by simp at h5; omega
            refine wpS_bind (welemL (by omega) (wpS_bind (wgal hc hB (gA _ (by omega)) hκ3 (by omega) (by omega) sB fun at2 q1 q2 q3=>?_)))
            dsimp only
            generalize [Bs.getD (nb2 - 1) 0]++o3=o4 at m2 ⊢
            by_cases hk2:nb2 - 1 - at2 > 0
            · rw [if_pos hk2]
              rw [rev_app Bs (nb2 - 1) at2 o4 (by omega) (by omega)]
              have m3:=m2.takeBs (take_split Bs (i:=nb2 - 1) (k:=at2) (by omega)) (fun x hx y hy=>by
                obtain ⟨j,hj,hjl,rfl⟩:=mem_part hy
                have:=q3 (at2+j) (by omega) (by omega)
                rw [Nat.zero_add] at this
                exact KeyOrd.kle_trans (up_take sA c1 c2 x hx) (show O.kle _ _ from this))
              by_cases h6:(at2 == 1)=true
              · rw [if_pos h6]
                exact wpS_pure ⟨hS,.inl ⟨_,rfl,retF _ _ _ m3 (by simpa using h6)⟩⟩
              rw [if_neg h6]
              by_cases h6b:(at2 == 0)=true
              · rw [if_pos h6b]
                exact wpS_pure ⟨hS,.inl ⟨_,rfl,retB _ _ _ m3 (by simpa using h6b)⟩⟩
              rw [if_neg h6b]
              have d1:1 < at2:=by simp at h6 h6b; omega
              have d2:at2≤Bs.length:=by omega
              have hl2:∀ x∈Bs.take at2,O.kle (key x) (key (As.getD (na2 - 1) 0)):=fun x hx=>by
                have:=q2 (at2 - 1) (by omega)
                rw [Nat.zero_add] at this
                exact KeyOrd.kle_trans (up_take sB (by omega) d2 x hx) (KeyOrd.kle_of_klt (show O.klt _ _ from this))
              generalize (Bs.drop at2).take (nb2 - 1 - at2)++o4=o5 at m3 ⊢
              refine wpS_bind (welemL (by omega) ?_)
              rw [rev_push]
              have m4:=hi_stepA m3 c1 c2 hl2
              by_cases h7:(na2 - 1 == 0)=true
              · rw [if_pos h7]
                exact wpS_pure ⟨hS,.inl ⟨_,rfl,retA _ _ _ m4 (by simpa using h7)⟩⟩
              rw [if_neg h7]
              have b7:0 < na2 - 1:=by simp at h7; omega
              by_cases h8:(decide (na2 - at1 < 7) && decide (nb2 - 1 - at2 < 7))=true
              · rw [if_pos h8]
                exact wpS_pure ⟨hS,.inr ⟨rfl,⟨_,rfl,m4,b7,by dsimp only; omega,d1,d2⟩,by dsimp only; omega⟩⟩
              · rw [if_neg h8]
                exact wpS_pure ⟨hS,rfl,⟨_,rfl,m4,b7,by dsimp only; omega,d1,d2⟩,by dsimp only; omega⟩
            · rw [if_neg hk2]
              have m3:=m2
              have d1:=b5
              have d2:nb2 - 1≤Bs.length:=by omega
              have hl2:∀ x∈Bs.take (nb2 - 1),O.kle (key x) (key (As.getD (na2 - 1) 0)):=fun x hx=>by
                have:=q2 (nb2 - 1 - 1) (by omega)
                rw [Nat.zero_add] at this
                exact KeyOrd.kle_trans (up_take sB (by omega) d2 x hx) (KeyOrd.kle_of_klt (show O.klt _ _ from this))
              generalize o4=o5 at m3 ⊢
              refine wpS_bind (welemL (by omega) ?_)
              rw [rev_push]
              have m4:=hi_stepA m3 c1 c2 hl2
              by_cases h7:(na2 - 1 == 0)=true
              · rw [if_pos h7]
                exact wpS_pure ⟨hS,.inl ⟨_,rfl,retA _ _ _ m4 (by simpa using h7)⟩⟩
              rw [if_neg h7]
              have b7:0 < na2 - 1:=by simp at h7; omega
              by_cases h8:(decide (na2 - at1 < 7) && decide (nb2 - 1 - at2 < 7))=true
              · rw [if_pos h8]
                exact wpS_pure ⟨hS,.inr ⟨rfl,⟨_,rfl,m4,b7,by dsimp only; omega,d1,d2⟩,by dsimp only; omega⟩⟩
              · rw [if_neg h8]
                exact wpS_pure ⟨hS,rfl,⟨_,rfl,m4,b7,by dsimp only; omega,d1,d2⟩,by dsimp only; omega⟩
end
end SO
set_option Elab.async false
set_option linter.all false
set_option maxRecDepth 100000
set_option maxHeartbeats 2000000
namespace SO
open PySem PySem.W PyProof.Rows
def tail3L (lo n nrem:Nat):StateT SortSt Sem (Option Nat):=do
  reverseSlice' lo (lo+n)
  let mut m:=n
  for _ in [n:nrem] do
    let some smaller ← ltAt' (lo+m) (lo+m - 1) | return none
    if smaller then break
    m:=m+1
  return some m
def descL (lo n nrem:Nat):StateT SortSt Sem (Option Nat):=do
  rule "list.sort.descending-run"
  let mut m:=n
  let mut neq:=0
  for _ in [n:nrem] do
    let some smaller ← ltAt' (lo+m) (lo+m - 1) | return none
    if smaller then
      if neq > 0 then reverseSlice' (lo+m - (neq+1)) (lo+m)
      neq:=0
    else
      let some larger ← ltAt' (lo+m - 1) (lo+m) | return none
      if larger then break
      neq:=neq+1
    m:=m+1
  if neq > 0 then reverseSlice' (lo+m - (neq+1)) (lo+m)
  tail3L lo m nrem
theorem countRunL_eq (lo nrem:Nat):countRun' lo nrem=(do
  let mut n:=1
  for _ in [1:nrem] do
    let some smaller ← ltAt' (lo+n) (lo+n - 1) | return none
    if smaller then break
    n:=n+1
  if n == nrem then return some n
  if n > 1 then
    let some rose ← ltAt' lo (lo+n - 1) | return none
    if rose then return some n
    reverseSlice' lo (lo+n)
    descL lo (n+1) nrem
  else descL lo (n+1) nrem):=rfl
section
variable {O:KeyOrd} {key:Nat→O.α} {N:Nat} {prog:Program} {w:World} {A:Around} {E:Value→Shared→Prop} {s:Shared} {κ:SortKind} {it:Array Keyed} {pend:Array (Nat × Nat × Nat)} {st:SortSt} {q:Array Nat}
structure Ss (κ:SortKind) (it:Array Keyed) (pend:Array (Nat × Nat × Nat)) (q:Array Nat) (st:SortSt):Prop where
  kind:kindOf st=κ
  arr:arrOf st=q.map (kas_item it)
  pend:pendingOf st=pend
  failed:failedOf st=none
theorem wltAt {i j:Nat} {Q:Option Bool→SortSt→Prop} (hc:Cmp key N (kas_cmp prog w A κ it) s) (S:Ss κ it pend q st) (hq:InN N q) (hi:i < N) (hj:j < N) (h:Q (some (O.blt (KN key q i) (KN key q j))) st) :
    wpS (model prog w) A E s (ltAt' i j) Q st:=by
  rw [ltAt'_eq]
  refine wpS_bind (wpS_get ?_)
  show wpS _ _ _ _ (do let x ← elem' (arrOf st) i; let y ← elem' (arrOf st) j; lt' x y) Q st
  rw [S.arr]
  exact wpS_bind (welem (by rw [hq.size]; exact hi) (wpS_bind (welem (by rw [hq.size]; exact hj) (wlt hc (hq.lt hi) (hq.lt hj) S.kind h))))
theorem wrev {i j:Nat} {Q:Unit→SortSt→Prop} (S:Ss κ it pend q st) (h:∀ st',Ss κ it pend (kas_rev q i j) st'→Q () st'):wpS (model prog w) A E s (reverseSlice' i j) Q st:=by
  rw [reverseSlice'_eq]
  refine wpS_modify (h _ ⟨S.kind,?_,S.pend,S.failed⟩)
  show mirror (arrOf st) i j ((j - i) / 2)=_
  rw [S.arr]
  exact kas_swaps_map _ _ _ _ _
theorem wmove {k l:Nat} {Q:Unit→SortSt→Prop} (S:Ss κ it pend q st) (h:∀ st',Ss κ it pend (bubble q k (k - l)) st'→Q () st'):wpS (model prog w) A E s (moveDown' k l) Q st:=by
  rw [moveDown'_eq]
  refine wpS_modify (h _ ⟨S.kind,?_,S.pend,S.failed⟩)
  show bubble (arrOf st) k (k - l)=_
  rw [S.arr]
  exact kas_swaps_map _ _ _ _ _
def SortedR (key:Nat→O.α) (q:Array Nat) (lo n:Nat):Prop:=∀ i j,i≤j→j < n→O.kle (KN key q (lo+i)) (KN key q (lo+j))
def FallR (key:Nat→O.α) (q:Array Nat) (lo n:Nat):Prop:=∀ i j,i≤j→j < n→O.kle (KN key q (lo+j)) (KN key q (lo+i))
def Fix (key:Nat→O.α) (lo hi:Nat) (q q':Array Nat):Prop:=∀ i,(i < lo∨hi≤i)→KN key q' i=KN key q i
theorem Fix.refl {lo hi:Nat} (q:Array Nat):Fix key lo hi q q:=fun _ _=>rfl
theorem Fix.trans {lo hi:Nat} {q q1 q2:Array Nat} (a:Fix key lo hi q q1) (b:Fix key lo hi q1 q2):Fix key lo hi q q2:=fun i hi=>(b i hi).trans (a i hi)
theorem Fix.rev {lo hi i j:Nat} {q:Array Nat} (h1:lo≤i) (h2:j≤hi) (hj:j≤q.size):Fix key lo hi q (kas_rev q i j):=fun k hk=>by
  rw [KN_rev hj,if_neg (by omega)]
theorem SortedR.snoc {lo n:Nat} (h:SortedR key q lo n) (h1:1≤n) (hl:O.kle (KN key q (lo+n - 1)) (KN key q (lo+n))):SortedR key q lo (n+1):=fun i j hij hj=>by
  by_cases hjx:j < n
  · exact h i j hij hjx
  · have hj':j=n:=by omega
    subst hj'
    by_cases hi':i=j
    · subst hi'; exact KeyOrd.kle_refl _
    · have:=h i (j - 1) (by omega) (by omega)
      rw [show lo+(j - 1)=lo+j - 1 by omega] at this
      exact KeyOrd.kle_trans this hl
theorem FallR.snoc {lo n:Nat} (h:FallR key q lo n) (h1:1≤n) (hl:O.kle (KN key q (lo+n)) (KN key q (lo+n - 1))):FallR key q lo (n+1):=fun i j hij hj=>by
  by_cases hjx:j < n
  · exact h i j hij hjx
  · have hj':j=n:=by omega
    subst hj'
    by_cases hi':i=j
    · subst hi'; exact KeyOrd.kle_refl _
    · have:=h i (j - 1) (by omega) (by omega)
      rw [show lo+(j - 1)=lo+j - 1 by omega] at this
      exact KeyOrd.kle_trans hl this
theorem wtail3L {lo n nrem:Nat} {Q:Option Nat→SortSt→Prop} (hc:Cmp key N (kas_cmp prog w A κ it) s) (S:Ss κ it pend q st) (hq:InN N q) (hN:lo+nrem=N) (h1:1≤n) (hn:n≤nrem) (hf:FallR key q lo n)
    (h:∀ m q' st',Ss κ it pend q' st'→InN N q'→Fix key lo N q q'→1≤m→m≤nrem→SortedR key q' lo m→Q (some m) st'):wpS (model prog w) A E s (tail3L lo n nrem) Q st:=by
  have hsz:=hq.size
  unfold tail3L
  refine wpS_bind (wrev S fun st1 S1=>?_)
  have hq1:=hq.rev lo (lo+n)
  have hfix:Fix key lo N q (kas_rev q lo (lo+n)):=Fix.rev (Nat.le_refl _) (by omega) (by omega)
  have hs1:SortedR key (kas_rev q lo (lo+n)) lo n:=fun i j hij hj=>by
    rw [KN_rev (by omega),KN_rev (by omega),if_pos (by omega),if_pos (by omega)]
    have:=hf (n - 1 - j) (n - 1 - i) (by omega) (by omega)
    rw [show lo+(n - 1 - i)=lo+(lo+n) - 1 - (lo+i) by omega,show lo+(n - 1 - j)=lo+(lo+n) - 1 - (lo+j) by omega] at this
    exact this
  generalize kas_rev q lo (lo+n)=q1 at S1 hq1 hfix hs1
  refine wpS_bind (wpS_mono (wpS_forRange
    (I:=fun (x:Nat) (c:Option (Option Nat) × Nat) (st':SortSt)=>st'=st1∧c.1=none∧c.2=x∧SortedR key q1 lo c.2)
    (Q:=fun (c:Option (Option Nat) × Nat) (st':SortSt)=>st'=st1∧c.1=none∧n≤c.2∧c.2≤nrem∧SortedR key q1 lo c.2) ?step ?fin ⟨rfl,rfl,rfl,hs1⟩) ?post)
  case fin =>
    rintro ⟨c0,m⟩ st' ⟨rfl,e0,e1,i2⟩
    dsimp only at *
    exact ⟨rfl,e0,by omega,by omega,i2⟩
  case post =>
    rintro ⟨c0,m⟩ st' ⟨rfl,e0,b1,b2,i2⟩
    dsimp only at *
    subst e0
    exact wpS_pure (h m q1 _ S1 hq1 hfix (by omega) b2 i2)
  case step =>
    rintro x ⟨c0,m⟩ st' hx1 hx2 ⟨rfl,e0,e1,i2⟩
    dsimp only at *
    subst e0 e1
    refine wpS_bind (wltAt hc S1 hq1 (by omega) (by omega) ?_)
    dsimp only
    cases hb:O.blt (KN key q1 (lo+m)) (KN key q1 (lo+m - 1)) with
    | true =>
      rw [if_pos rfl]
      exact wpS_pure ⟨rfl,rfl,hx1,by dsimp only; omega,i2⟩
    | false =>
      rw [if_neg (by simp)]
      exact wpS_pure ⟨rfl,rfl,rfl,i2.snoc (by omega) hb⟩
theorem wdescL {lo n nrem:Nat} {Q:Option Nat→SortSt→Prop} (hc:Cmp key N (kas_cmp prog w A κ it) s) (S:Ss κ it pend q st) (hq:InN N q) (hN:lo+nrem=N) (h1:1≤n) (hn:n≤nrem) (hf:FallR key q lo n)
    (h:∀ m q' st',Ss κ it pend q' st'→InN N q'→Fix key lo N q q'→1≤m→m≤nrem→SortedR key q' lo m→Q (some m) st'):wpS (model prog w) A E s (descL lo n nrem) Q st:=by
  unfold descL
  refine wpS_bind (wpS_lift (wpAny_rule ⟨rfl,?_⟩))
  dsimp only
  refine wpS_bind (wpS_mono (wpS_forRange
    (I:=fun (x:Nat) (c:Option (Option Nat) × Nat × Nat) (st':SortSt)=>c.1=none∧c.2.1=x∧∃ q',Ss κ it pend q' st'∧InN N q'∧Fix key lo N q q'∧FallR key q' lo c.2.1∧c.2.2+1≤c.2.1∧∀ i,c.2.1 - (c.2.2+1)≤i→i < c.2.1→KN key q' (lo+i)=KN key q' (lo+c.2.1 - 1))
    (Q:=fun (c:Option (Option Nat) × Nat × Nat) (st':SortSt)=>c.1=none∧n≤c.2.1∧c.2.1≤nrem∧∃ q',Ss κ it pend q' st'∧InN N q'∧Fix key lo N q q'∧FallR key q' lo c.2.1∧c.2.2+1≤c.2.1∧∀ i,c.2.1 - (c.2.2+1)≤i→i < c.2.1→KN key q' (lo+i)=KN key q' (lo+c.2.1 - 1)) ?step ?fin
      ⟨rfl,rfl,q,S,hq,Fix.refl _,hf,by dsimp only; omega,fun i a b=>by dsimp only at *; congr 1; omega⟩) ?post)
  case fin =>
    rintro ⟨c0,m,e⟩ st' ⟨e0,e1,r⟩
    dsimp only at *
    exact ⟨e0,by omega,by omega,r⟩
  case post =>
    rintro ⟨c0,m,e⟩ st' ⟨e0,b1,b2,q1,S1,hq1,hfix,hf1,he1,heq⟩
    dsimp only at *
    subst e0
    dsimp only
    have hsz:=hq1.size
    by_cases hneq:e > 0
    · rw [if_pos hneq]
      refine wpS_bind (wrev S1 fun st2 S2=>?_)
      have same:∀ k,KN key (kas_rev q1 (lo+m - (e+1)) (lo+m)) k=KN key q1 k:=KN_rev_equal (by omega) fun k hk1 hk2=>by
        have:=heq (k - lo) (by omega) (by omega)
        rwa [show lo+(k - lo)=k by omega] at this
      refine wtail3L hc S2 (hq1.rev _ _) hN (by omega) b2 (fun i j hij hj=>?_) fun m' q' st3 S3 hq3 hfix3 c1 c2 c3=>h m' q' st3 S3 hq3 (fun i hi=>?_) c1 c2 c3
      · rw [same,same]; exact hf1 i j hij hj
      · rw [hfix3 i hi,same]; exact hfix i hi
    · rw [if_neg hneq]
      exact wtail3L hc S1 hq1 hN (by omega) b2 hf1 fun m' q' st3 S3 hq3 hfix3 c1 c2 c3=>h m' q' st3 S3 hq3 (hfix.trans hfix3) c1 c2 c3
  case step =>
    rintro x ⟨c0,m,e⟩ st' hx1 hx2 ⟨e0,e1,q1,S1,hq1,hfix,hf1,he1,heq⟩
    dsimp only at *
    subst e0 e1
    have hsz:=hq1.size
    refine wpS_bind (wltAt hc S1 hq1 (by omega) (by omega) ?_)
    dsimp only
    cases hb:O.blt (KN key q1 (lo+m)) (KN key q1 (lo+m - 1)) with
    | true =>
      rw [if_pos rfl]
      by_cases hneq:e > 0
      · rw [if_pos hneq]
        refine wpS_bind (wrev S1 fun st2 S2=>?_)
        have same:∀ k,KN key (kas_rev q1 (lo+m - (e+1)) (lo+m)) k=KN key q1 k:=KN_rev_equal (by omega) fun k hk1 hk2=>by
          have:=heq (k - lo) (by omega) (by omega)
          rwa [show lo+(k - lo)=k by omega] at this
        refine wpS_pure ⟨rfl,rfl,_,S2,hq1.rev _ _,(fun i hi=>by rw [same]; exact hfix i hi),(fun i j hij hj=>?_),by dsimp only; omega,fun i a b=>by dsimp only at *; congr 1; omega⟩
        rw [same,same]
        exact hf1.snoc (by omega) (KeyOrd.kle_of_klt hb) i j hij hj
      · rw [if_neg hneq]
        exact wpS_pure ⟨rfl,rfl,q1,S1,hq1,hfix,hf1.snoc (by omega) (KeyOrd.kle_of_klt hb),by dsimp only; omega,fun i a b=>by dsimp only at *; congr 1; omega⟩
    | false =>
      rw [if_neg (by simp)]
      refine wpS_bind (wltAt hc S1 hq1 (by omega) (by omega) ?_)
      dsimp only
      cases hg:O.blt (KN key q1 (lo+m - 1)) (KN key q1 (lo+m)) with
      | true =>
        rw [if_pos rfl]
        exact wpS_pure ⟨rfl,hx1,by dsimp only; omega,q1,S1,hq1,hfix,hf1,he1,heq⟩
      | false =>
        rw [if_neg (by simp)]
        have heqx:KN key q1 (lo+m)=KN key q1 (lo+m - 1):=KeyOrd.kle_antisymm hg hb
        refine wpS_pure ⟨rfl,rfl,q1,S1,hq1,hfix,hf1.snoc (by omega) hg,by dsimp only; omega,fun i a b=>?_⟩
        dsimp only at *
        rw [show lo+(m+1) - 1=lo+m by omega]
        by_cases hix:i=m
        · subst hix; rfl
        · rw [heqx]; exact heq i (by omega) (by omega)
theorem wcountRun {lo nrem:Nat} {Q:Option Nat→SortSt→Prop} (hc:Cmp key N (kas_cmp prog w A κ it) s) (S:Ss κ it pend q st) (hq:InN N q) (hN:lo+nrem=N) (h1:1≤nrem)
    (h:∀ m q' st',Ss κ it pend q' st'→InN N q'→Fix key lo N q q'→1≤m→m≤nrem→SortedR key q' lo m→Q (some m) st'):wpS (model prog w) A E s (countRun' lo nrem) Q st:=by
  have hsz:=hq.size
  rw [countRunL_eq]
  refine wpS_bind (wpS_mono (wpS_forRange
    (I:=fun (x:Nat) (c:Option (Option Nat) × Nat) (st':SortSt)=>st'=st∧c.1=none∧c.2=x∧SortedR key q lo c.2)
    (Q:=fun (c:Option (Option Nat) × Nat) (st':SortSt)=>st'=st∧c.1=none∧1≤c.2∧c.2≤nrem∧SortedR key q lo c.2∧(c.2=nrem∨O.klt (KN key q (lo+c.2)) (KN key q (lo+c.2 - 1)))) ?step ?fin
      ⟨rfl,rfl,rfl,fun i j hij hj=>by dsimp only at hj; have:i=j:=(by omega); subst this; exact KeyOrd.kle_refl _⟩) ?post)
  case fin =>
    rintro ⟨c0,m⟩ st' ⟨rfl,e0,e1,i2⟩
    dsimp only at *
    exact ⟨rfl,e0,by omega,by omega,i2,.inl (by omega)⟩
  case step =>
    rintro x ⟨c0,m⟩ st' hx1 hx2 ⟨rfl,e0,e1,i2⟩
    dsimp only at *
    subst e0 e1
    refine wpS_bind (wltAt hc S hq (by omega) (by omega) ?_)
    dsimp only
    cases hb:O.blt (KN key q (lo+m)) (KN key q (lo+m - 1)) with
    | true =>
      rw [if_pos rfl]
      exact wpS_pure ⟨rfl,rfl,hx1,by dsimp only; omega,i2,.inr hb⟩
    | false =>
      rw [if_neg (by simp)]
      exact wpS_pure ⟨rfl,rfl,rfl,i2.snoc (by omega) hb⟩
  case post =>
    rintro ⟨c0,m⟩ st' ⟨rfl,e0,b1,b2,i2,hor⟩
    dsimp only at *
    subst e0
    dsimp only
    by_cases hnn:(m == nrem)=true
    · rw [if_pos hnn]
      exact wpS_pure (h m q _ S hq (Fix.refl _) b1 b2 i2)
    rw [if_neg hnn]
    have hlt:m < nrem:=by simp at hnn; omega
    have hd:O.klt (KN key q (lo+m)) (KN key q (lo+m - 1)):=hor.resolve_left (by omega)
    by_cases hm:m > 1
    · rw [if_pos hm]
      refine wpS_bind (wltAt hc S hq (by omega) (by omega) ?_)
      dsimp only
      cases hb:O.blt (KN key q lo) (KN key q (lo+m - 1)) with
      | true =>
        rw [if_pos rfl]
        exact wpS_pure (h m q _ S hq (Fix.refl _) b1 b2 i2)
      | false =>
        rw [if_neg (by simp)]
        refine wpS_bind (wrev S fun st2 S2=>?_)
        have alike:∀ k,lo≤k→k < lo+m→KN key q k=KN key q (lo+m - 1):=fun k k1 k2=>by
          have a1:=i2 0 (k - lo) (by omega) (by omega)
          have a2:=i2 (k - lo) (m - 1) (by omega) (by omega)
          rw [show lo+(k - lo)=k by omega] at a1 a2
          rw [show lo+(m - 1)=lo+m - 1 by omega] at a2
          rw [Nat.add_zero] at a1
          exact KeyOrd.kle_antisymm a2 (KeyOrd.kle_trans (show O.kle _ _ from hb) a1)
        have same:∀ k,KN key (kas_rev q lo (lo+m)) k=KN key q k:=KN_rev_equal (by omega) alike
        refine wdescL hc S2 (hq.rev _ _) hN (by omega) (by omega) (fun i j hij hj=>?_) fun m' q' st3 S3 hq3 hfix3 c1 c2 c3=>h m' q' st3 S3 hq3 (fun i hi=>by rw [hfix3 i hi,same]) c1 c2 c3
        rw [same,same]
        refine FallR.snoc (q:=q) (fun i j hij hj=>?_) b1 (KeyOrd.kle_of_klt hd) i j hij hj
        rw [alike _ (by omega) (by omega),alike (lo+i) (by omega) (by omega)]
        exact KeyOrd.kle_refl _
    · rw [if_neg hm]
      obtain rfl:m=1:=by omega
      refine wdescL hc S hq hN (by omega) (by omega) ?_ fun m' q' st3 S3 hq3 hfix3 c1 c2 c3=>h m' q' st3 S3 hq3 hfix3 c1 c2 c3
      refine FallR.snoc (fun i j hij hj=>?_) (Nat.le_refl 1) (KeyOrd.kle_of_klt hd)
      have:i=j:=by omega
      subst this; exact KeyOrd.kle_refl _
end
end SO
set_option Elab.async false
set_option linter.all false
set_option maxRecDepth 100000
set_option maxHeartbeats 2000000
namespace SO
open PySem PySem.W PyProof.Rows
section
variable {O:KeyOrd} {key:Nat→O.α} {N:Nat} {prog:Program} {w:World} {A:Around} {E:Value→Shared→Prop} {s:Shared} {κ:SortKind} {it:Array Keyed} {pend:Array (Nat × Nat × Nat)} {st:SortSt} {q:Array Nat}
theorem wbinary {lo n ok:Nat} {Q:Bool→SortSt→Prop} (hc:Cmp key N (kas_cmp prog w A κ it) s) (S:Ss κ it pend q st) (hq:InN N q) (hN:lo+n≤N) (h1:1≤ok) (hok:ok≤n) (hs:SortedR key q lo ok)
    (h:∀ q' st',Ss κ it pend q' st'→InN N q'→Fix key lo (lo+n) q q'→SortedR key q' lo n→Q true st'):wpS (model prog w) A E s (binarySort' lo n ok) Q st:=by
  rw [binarySort'_eq]
  refine wpS_bind (wpS_mono (wpS_forRange
    (I:=fun (k:Nat) (c:Option Bool × PUnit) (st':SortSt)=>c.1=none∧∃ q',Ss κ it pend q' st'∧InN N q'∧Fix key lo (lo+n) q q'∧SortedR key q' lo (min k n))
    (Q:=fun (c:Option Bool × PUnit) (st':SortSt)=>c.1=none∧∃ q',Ss κ it pend q' st'∧InN N q'∧Fix key lo (lo+n) q q'∧SortedR key q' lo n) ?step ?fin ⟨rfl,q,S,hq,Fix.refl _,by rw [show min (max ok 1) n=ok by omega]; exact hs⟩) ?post)
  case fin =>
    rintro ⟨c0,_⟩ st' ⟨e0,q',a,b,c,d⟩
    rw [show min (max (max ok 1) n) n=n by omega] at d
    exact ⟨e0,q',a,b,c,d⟩
  case post =>
    rintro ⟨c0,_⟩ st' ⟨e0,q',a,b,c,d⟩
    dsimp only at *
    subst e0
    exact wpS_pure (h q' st' a b c d)
  case step =>
    rintro k ⟨c0,_⟩ st' hk1 hk2 ⟨e0,q',S',hq',hfix,hso⟩
    dsimp only at *
    subst e0
    rw [show min k n=k by omega] at hso
    have hsz:=hq'.size
    refine wpS_bind (wpS_mono (wpS_forRange
      (I:=fun (x:Nat) (c:Option Bool × Nat × Nat) (st2:SortSt)=>st2=st'∧c.1=none∧c.2.1≤c.2.2∧c.2.2≤k∧c.2.2 - c.2.1+x≤k∧(∀ i,i < c.2.1→O.kle (KN key q' (lo+i)) (KN key q' (lo+k)))∧∀ i,c.2.2≤i→i < k→O.klt (KN key q' (lo+k)) (KN key q' (lo+i)))
      (Q:=fun (c:Option Bool × Nat × Nat) (st2:SortSt)=>st2=st'∧c.1=none∧c.2.1≤k∧(∀ i,i < c.2.1→O.kle (KN key q' (lo+i)) (KN key q' (lo+k)))∧∀ i,c.2.1≤i→i < k→O.klt (KN key q' (lo+k)) (KN key q' (lo+i))) ?step1 ?fin1
        ⟨rfl,rfl,Nat.zero_le _,Nat.le_refl _,by dsimp only; omega,(fun i hi=>absurd hi (Nat.not_lt_zero _)),fun i a b=>by dsimp only at *; omega⟩) ?post1)
    case fin1 =>
      rintro ⟨c0,l,r⟩ st2 ⟨rfl,e0,i1,i2,i3,i4,i5⟩
      dsimp only at *
      exact ⟨rfl,e0,by omega,i4,fun i a b=>i5 i (by omega) b⟩
    case step1 =>
      rintro x ⟨c0,l,r⟩ st2 _ hx ⟨rfl,e0,i1,i2,i3,i4,i5⟩
      dsimp only at *
      subst e0
      by_cases hlr:l ≥ r
      · rw [if_pos hlr]
        exact wpS_pure ⟨rfl,rfl,by dsimp only; omega,i4,fun i a b=>i5 i (by dsimp only at a; omega) b⟩
      · rw [if_neg hlr]
        refine wpS_bind (wltAt hc S' hq' (by omega) (by omega) ?_)
        dsimp only
        cases hb:O.blt (KN key q' (lo+k)) (KN key q' (lo+(l+r) / 2)) with
        | true =>
          rw [if_pos rfl]
          exact wpS_pure ⟨rfl,rfl,by dsimp only; omega,by dsimp only; omega,by dsimp only; omega,i4,fun i a b=>KeyOrd.klt_of_klt_of_kle hb (hso _ i a b)⟩
        | false =>
          rw [if_neg (by simp)]
          exact wpS_pure ⟨rfl,rfl,by dsimp only; omega,i2,by dsimp only; omega,(fun i hi=>KeyOrd.kle_trans (hso i _ (by dsimp only at hi; omega) (by omega)) hb),i5⟩
    case post1 =>
      rintro ⟨c0,l,r⟩ st2 ⟨rfl,e0,i1,i4,i5⟩
      dsimp only at *
      subst e0
      dsimp only
      refine wpS_bind (wmove S' fun st3 S3=>?_)
      have hb:∀ j,KN key (bubble q' (lo+k) (lo+k - (lo+l))) j=if j=lo+l then KN key q' (lo+k) else if lo+l < j∧j≤lo+k then KN key q' (j - 1) else KN key q' j:=fun j=>by
        rw [KN_bubble (by omega) (by omega),show lo+k - (lo+k - (lo+l))=lo+l by omega]
      refine wpS_pure ⟨rfl,_,S3,hq'.of (bubble_perm _ _ _),hfix.trans (fun j hj=>?_),fun i j hij hj=>?_⟩
      · rw [hb,if_neg (by omega),if_neg (by omega)]
      · rw [show min (k+1) n=k+1 by omega] at hj
        rw [hb,hb]
        by_cases c1:j=l
        · rw [if_pos (show lo+j=lo+l by omega)]
          by_cases c2:i=l
          · rw [if_pos (by omega)]; exact KeyOrd.kle_refl _
          · rw [if_neg (by omega),if_neg (by omega)]
            exact i4 i (by omega)
        · rw [if_neg (show ¬ lo+j=lo+l by omega)]
          by_cases c3:l < j
          · rw [if_pos (show lo+l < lo+j∧lo+j≤lo+k by omega),show lo+j - 1=lo+(j - 1) by omega]
            by_cases c2:i=l
            · rw [if_pos (by omega)]
              exact KeyOrd.kle_of_klt (i5 (j - 1) (by omega) (by omega))
            · rw [if_neg (by omega)]
              by_cases c4:l < i
              · rw [if_pos (by omega),show lo+i - 1=lo+(i - 1) by omega]
                exact hso _ _ (by omega) (by omega)
              · rw [if_neg (by omega)]
                exact hso _ _ (by omega) (by omega)
          · rw [if_neg (by omega),if_neg (by omega),if_neg (by omega)]
            exact hso _ _ hij (by omega)
end
section
variable {O:KeyOrd} {key:Nat→O.α} {N:Nat} {q:Array Nat}
theorem KN_list (i:Nat):KN key q i=key (q.toList.getD i 0):=by
  unfold KN
  rw [Array.getD_eq_getD_getElem?,List.getD_eq_getElem?_getD,Array.getElem?_toList]
theorem region_get {lo n i:Nat} (h:lo+n≤q.size) (hi:i < n):((q.toList.drop lo).take n).getD i 0=q.toList.getD (lo+i) 0:=by
  rw [List.getD_eq_getElem?_getD,List.getD_eq_getElem?_getD,List.getElem?_take,if_pos hi,List.getElem?_drop]
theorem region_len {lo n:Nat} (h:lo+n≤q.size):((q.toList.drop lo).take n).length=n:=by
  rw [List.length_take,List.length_drop,Array.length_toList]; omega
theorem up_of_R {lo n:Nat} (h:SortedR key q lo n) (hz:lo+n≤q.size):Up key ((q.toList.drop lo).take n):=by
  rw [Up,List.pairwise_iff_getElem]
  intro i j hi hj hij
  rw [region_len hz] at hi hj
  have:=h i j (by omega) hj
  rw [KN_list,KN_list,← region_get hz hi,← region_get hz hj,getD_of (by rw [region_len hz]; exact hi),getD_of (by rw [region_len hz]; exact hj)] at this
  exact this
theorem R_of_up {lo n:Nat} (h:Up key ((q.toList.drop lo).take n)) (hz:lo+n≤q.size):SortedR key q lo n:=fun i j hij hj=>by
  have:=up_le h hij (by rw [region_len hz]; exact hj)
  rw [region_get hz (by omega),region_get hz hj] at this
  rw [KN_list,KN_list]
  exact this
theorem splice {α:Type}:∀ (l:List α) (a:Array α) (i k:Nat),i+k+l.length≤a.size→((l.zipIdx k).foldl (fun a (x:α × Nat)=>a.setIfInBounds (i+x.2) x.1) a).toList=a.toList.take (i+k)++l++a.toList.drop (i+k+l.length)
  | [],a,i,k,h=>by simp
  | x :: l,a,i,k,h=>by
    rw [List.zipIdx_cons,List.foldl_cons,splice l _ i (k+1) (by simp at h ⊢; omega)]
    have hlt:i+k < a.toList.length:=by simp at h ⊢; omega
    rw [Array.toList_setIfInBounds,show i+(k+1)=i+k+1 by omega,List.length_cons,show i+k+(l.length+1)=i+k+1+l.length by omega]
    have e1:(a.toList.set (i+k) x).take (i+k+1)=a.toList.take (i+k)++[x]:=by
      rw [List.take_add_one,List.take_set_of_le (Nat.le_refl _),List.getElem?_set_self hlt]
      rfl
    rw [e1,List.drop_set_of_lt (by omega)]
    simp
end
end SO
set_option Elab.async false
set_option linter.all false
set_option maxRecDepth 100000
set_option maxHeartbeats 2000000
namespace SO
open PySem PySem.W PyProof.Rows
theorem mergeAt'_eq (i:Nat):mergeAt' i=(do
  let s ← get
  let (some (sa,na,power),some (sb,nb,_)):=((pendingOf s)[i]?,(pendingOf s)[i+1]?) | unsupported "internal:list.sort.pending"
  set (SortSt.mk' (kindOf s) (arrOf s) (((pendingOf s).setIfInBounds i (sa,na+nb,power)).eraseIdxIfInBounds (i+1)) (gallopOf s) (failedOf s))
  let some k ← gallop' false (← elem' (arrOf s) sb) (arrOf s) sa na 0 | return false
  let (sa,na):=(sa+k,na - k)
  if na == 0 then return true
  let some nb ← gallop' true (← elem' (arrOf s) (sa+na - 1)) (arrOf s) sb nb (nb - 1) | return false
  if nb == 0 then return true
  let x:=(arrOf s).extract sa sb
  let y:=(arrOf s).extract sb (sb+nb)
  let merged ← if na≤nb then mergeLo' x y else mergeHi' x y
  modify fun s=>setArr s (merged.toList.zipIdx.foldl (fun a (p,j)=>a.setIfInBounds (sa+j) p) (arrOf s))
  return (failedOf (← get)).isNone):=rfl
section
variable {O:KeyOrd} {key:Nat→O.α} {N:Nat} {prog:Program} {w:World} {A:Around} {E:Value→Shared→Prop} {s:Shared} {κ:SortKind} {it:Array Keyed} {pend:Array (Nat × Nat × Nat)} {st:SortSt} {q:Array Nat}
theorem wset {st0:SortSt} {Q:PUnit→SortSt→Prop} (h:Q ⟨⟩ st0):wpS (model prog w) A E s (set st0:StateT SortSt Sem PUnit) Q st:=by
  unfold wpS; rw [StateT.run_set]; exact wpAny_pure ⟨rfl,h⟩
theorem wgalR {left:Bool} {k base n hint:Nat} {Q:Option Nat→SortSt→Prop} (hc:Cmp key N (kas_cmp prog w A κ it) s) (hq:InN N q) (hk:k < N) (hκ:kindOf st=κ) (hn:base+n≤N) (hh:hint < n) (hup:SortedR key q base n)
    (h:∀ r,r≤n→(∀ j,j < r→if left then O.klt (KN key q (base+j)) (key k) else O.kle (KN key q (base+j)) (key k))→(∀ j,r≤j→j < n→if left then O.kle (key k) (KN key q (base+j)) else O.klt (key k) (KN key q (base+j)))→Q (some r) st) :
    wpS (model prog w) A E s (gallop' left (kas_item it k) (q.map (kas_item it)) base n hint) Q st:=by
  refine wgallop hc (fun i hi=>hq.lt (by rw [← hq.size]; exact hi)) hk hκ (by rw [hq.size]; exact hn) hh (fun i j hij hj hb=>?_) fun r hr h1 h2=>h r hr (fun j hj=>?_) fun j hj hjn=>?_
  · have:=hup i j hij hj
    unfold Bey at hb ⊢
    cases left with
    | true =>
      rw [if_pos rfl] at hb ⊢
      exact KeyOrd.klt_of_kle_of_klt this hb
    | false =>
      rw [if_neg (by simp)] at hb ⊢
      have hb':O.kle (KN key q (base+j)) (key k):=by unfold KeyOrd.kle KN; simpa using hb
      have:=KeyOrd.kle_trans this hb'
      unfold KeyOrd.kle KN at this
      rw [this]
      rfl
  · have hb:=h1 j hj
    unfold Bey at hb
    cases left with
    | true=>rw [if_pos rfl] at hb ⊢; exact hb
    | false=>rw [if_neg (by simp)] at hb ⊢; unfold KeyOrd.kle KN; simpa using hb
  · have hb:=h2 j hj hjn
    unfold Bey at hb
    cases left with
    | true=>rw [if_pos rfl] at hb ⊢; exact hb
    | false=>rw [if_neg (by simp)] at hb ⊢; unfold KeyOrd.klt KN; simpa using hb
theorem arr_toList (q:Array Nat):q.map (kas_item it)=arr it q.toList:=by simp [arr]
theorem mem_region {lo n x:Nat} (h:x∈(q.toList.drop lo).take n):∃ j,j < n∧lo+j < q.size∧key x=KN key q (lo+j):=by
  obtain ⟨j,h1,h2,e⟩:=mem_part h
  exact ⟨j,h1,by simpa using h2,by rw [KN_list,← e]⟩
theorem wmergeAt {i sa na pw sb nb pw2:Nat} {Q:Bool→SortSt→Prop} (hc:Cmp key N (kas_cmp prog w A κ it) s) (S:Ss κ it pend q st) (hq:InN N q) (hp1:pend[i]?=some (sa,na,pw)) (hp2:pend[i+1]?=some (sb,nb,pw2)) (hsb:sb=sa+na) (h1:1≤na) (h2:1≤nb) (hz:sb+nb≤N)
    (sA:SortedR key q sa na) (sB:SortedR key q sb nb)
    (h:∀ q' st',Ss κ it ((pend.setIfInBounds i (sa,na+nb,pw)).eraseIdxIfInBounds (i+1)) q' st'→InN N q'→Fix key sa (sa+(na+nb)) q q'→SortedR key q' sa (na+nb)→Q true st') :
    wpS (model prog w) A E s (mergeAt' i) Q st:=by
  have hsz:=hq.size
  rw [mergeAt'_eq]
  refine wpS_bind (wpS_get ?_)
  rw [S.pend,hp1,hp2]
  dsimp only
  refine wpS_bind (wset ?_)
  have S1:Ss κ it ((pend.setIfInBounds i (sa,na+nb,pw)).eraseIdxIfInBounds (i+1)) q (SortSt.mk' (kindOf st) (arrOf st) ((pend.setIfInBounds i (sa,na+nb,pw)).eraseIdxIfInBounds (i+1)) (gallopOf st) (failedOf st)):=⟨S.kind,S.arr,rfl,S.failed⟩
  rw [S.arr]
  rw [S.arr] at S1
  generalize SortSt.mk' (kindOf st) (q.map (kas_item it)) ((pend.setIfInBounds i (sa,na+nb,pw)).eraseIdxIfInBounds (i+1)) (gallopOf st) (failedOf st)=st1 at S1
  generalize (pend.setIfInBounds i (sa,na+nb,pw)).eraseIdxIfInBounds (i+1)=pend1 at S1 h
  have join:(∀ i j,i < na→j < nb→O.kle (KN key q (sa+i)) (KN key q (sb+j)))→SortedR key q sa (na+nb):=fun hab i j hij hj=>by
    by_cases hj':j < na
    · exact sA i j hij hj'
    · by_cases hi':i < na
      · have:=hab i (j - na) hi' (by omega)
        rwa [show sb+(j - na)=sa+j by omega] at this
      · have:=sB (i - na) (j - na) (by omega) (by omega)
        rwa [show sb+(i - na)=sa+i by omega,show sb+(j - na)=sa+j by omega] at this
  have kb0:key (q.getD sb 0)=KN key q (sb+0):=rfl
  refine wpS_bind (welem (by omega) (wpS_bind (wgalR hc hq (hq.lt (by omega)) S1.kind (by omega) (by omega) sA fun k hk1 hk2 hk3=>?_)))
  dsimp only
  have a1:∀ j,j < k→O.kle (KN key q (sa+j)) (KN key q sb):=fun j hj=>hk2 j hj
  have a2:∀ j,k≤j→j < na→O.klt (KN key q sb) (KN key q (sa+j)):=fun j hj hjn=>hk3 j hj hjn
  have b0:∀ j,j < nb→O.kle (KN key q sb) (KN key q (sb+j)):=fun j hj=>by
    have:=sB 0 j (Nat.zero_le _) hj
    rwa [Nat.add_zero] at this
  by_cases hz1:(na - k == 0)=true
  · rw [if_pos hz1]
    have hk:k=na:=by simp at hz1; omega
    exact wpS_pure (h q st1 S1 hq (Fix.refl _) (join fun i j hi hj=>KeyOrd.kle_trans (a1 i (by omega)) (b0 j hj)))
  rw [if_neg hz1]
  have hkn:k < na:=by simp at hz1; omega
  refine wpS_bind (welem (by omega) (wpS_bind (wgalR hc hq (hq.lt (by omega)) S1.kind (by omega) (by omega) sB fun m hm1 hm2 hm3=>?_)))
  dsimp only
  have el:sa+k+(na - k) - 1=sa+(na - 1):=by omega
  have c1:∀ j,j < m→O.klt (KN key q (sb+j)) (KN key q (sa+(na - 1))):=fun j hj=>by
    have:=hm2 j hj
    rw [el] at this
    exact this
  have c2:∀ j,m≤j→j < nb→O.kle (KN key q (sa+(na - 1))) (KN key q (sb+j)):=fun j hj hjn=>by
    have:=hm3 j hj hjn
    rw [el] at this
    exact this
  have aL:∀ i,i < na→O.kle (KN key q (sa+i)) (KN key q (sa+(na - 1))):=fun i hi=>sA i (na - 1) (by omega) (by omega)
  by_cases hz2:(m == 0)=true
  · rw [if_pos hz2]
    have hm:m=0:=by simpa using hz2
    exact wpS_pure (h q st1 S1 hq (Fix.refl _) (join fun i j hi hj=>KeyOrd.kle_trans (aL i hi) (c2 j (by omega) hj)))
  rw [if_neg hz2]
  have hm0:0 < m:=by simp at hz2; omega
  have eA:(q.map (kas_item it)).extract (sa+k) sb=arr it ((q.toList.drop (sa+k)).take (na - k)):=by
    have:=arr_part (it:=it) q.toList (sa+k) (na - k) (by simp; omega)
    rw [show sa+k+(na - k)=sb by omega] at this
    rw [arr_toList]; exact this
  have eB:(q.map (kas_item it)).extract sb (sb+m)=arr it ((q.toList.drop sb).take m):=by
    rw [arr_toList]; exact arr_part q.toList sb m (by simp; omega)
  rw [eA,eB]
  have lA:((q.toList.drop (sa+k)).take (na - k)).length=na - k:=region_len (by omega)
  have lB:((q.toList.drop sb).take m).length=m:=region_len (by omega)
  have inQ:∀ x∈q.toList,x < N:=fun x hx=>List.mem_range.mp (hq.mem_iff.mp hx)
  have hA:∀ x∈(q.toList.drop (sa+k)).take (na - k),x < N:=fun x hx=>inQ x (List.mem_of_mem_drop (List.mem_of_mem_take hx))
  have hB:∀ x∈(q.toList.drop sb).take m,x < N:=fun x hx=>inQ x (List.mem_of_mem_drop (List.mem_of_mem_take hx))
  have uA:Up key ((q.toList.drop (sa+k)).take (na - k)):=up_of_R (fun i j hij hj=>by
    have:=sA (k+i) (k+j) (by omega) (by omega)
    rwa [← Nat.add_assoc,← Nat.add_assoc] at this) (by omega)
  have uB:Up key ((q.toList.drop sb).take m):=up_of_R (fun i j hij hj=>sB i j hij (by omega)) (by omega)
  have g0:key (((q.toList.drop sb).take m).getD 0 0)=KN key q sb:=by rw [region_get (by omega) hm0,KN_list,Nat.add_zero]
  have first:∀ x∈(q.toList.drop (sa+k)).take (na - k),O.klt (key (((q.toList.drop sb).take m).getD 0 0)) (key x):=fun x hx=>by
    obtain ⟨j,hj,_,e⟩:=mem_region (key:=key) hx
    rw [g0,e,Nat.add_assoc]
    exact a2 (k+j) (by omega) (by omega)
  have last:∀ y∈(q.toList.drop sb).take m,O.klt (key y) (key (((q.toList.drop (sa+k)).take (na - k)).getD (((q.toList.drop (sa+k)).take (na - k)).length - 1) 0)):=fun y hy=>by
    obtain ⟨j,hj,_,e⟩:=mem_region (key:=key) hy
    rw [lA,region_get (by omega) (by omega),e,← KN_list (key:=key) (q:=q),show sa+k+(na - k - 1)=sa+(na - 1) by omega]
    exact c1 j hj
  have fin:∀ r st2,Stay st1 st2→Merged key it ((q.toList.drop (sa+k)).take (na - k)) ((q.toList.drop sb).take m) r →
      wpS (model prog w) A E s (do
        modify fun s=>setArr s (r.toList.zipIdx.foldl (fun a (x:Keyed × Nat)=>a.setIfInBounds (sa+k+x.2) x.1) (arrOf s))
        return (failedOf (← get)).isNone) Q st2:=by
    intro r st2 hst ⟨l,er,hl,ul⟩
    subst er
    refine wpS_bind (wpS_modify ?_)
    refine wpS_bind (wpS_get ?_)
    have hf:(failedOf (setArr st2 ((arr it l).toList.zipIdx.foldl (fun a (x:Keyed × Nat)=>a.setIfInBounds (sa+k+x.2) x.1) (arrOf st2)))).isNone=true:=by
      show (failedOf st2).isNone=true
      rw [hst.2.2.2,S1.failed]; rfl
    rw [hf]
    have hll:l.length=na - k+m:=by rw [hl.length_eq,List.length_append,lA,lB]
    have hQl:q.toList.length=N:=by simpa using hsz
    have hap:(q.toList.drop (sa+k)).take (na - k)++(q.toList.drop sb).take m=(q.toList.drop (sa+k)).take (na - k+m):=by
      rw [List.take_add,List.drop_drop,show sa+k+(na - k)=sb by omega]
    have hnew:arrOf (setArr st2 ((arr it l).toList.zipIdx.foldl (fun a (x:Keyed × Nat)=>a.setIfInBounds (sa+k+x.2) x.1) (arrOf st2)))=(q.toList.take (sa+k)++l++q.toList.drop (sa+k+l.length)).toArray.map (kas_item it):=by
      show (arr it l).toList.zipIdx.foldl (fun a (x:Keyed × Nat)=>a.setIfInBounds (sa+k+x.2) x.1) (arrOf st2)=_
      rw [hst.2.1,S1.arr]
      apply Array.toList_inj.mp
      rw [splice _ _ _ 0 (by simp [hll]; omega)]
      simp [List.map_take,List.map_drop]
    have hperm:(q.toList.take (sa+k)++l++q.toList.drop (sa+k+l.length)).Perm q.toList:=by
      have e:q.toList=q.toList.take (sa+k)++((q.toList.drop (sa+k)).take (na - k+m)++q.toList.drop (sa+k+l.length)):=by
        rw [hll,← drop_split q.toList (sa+k) (na - k+m),List.take_append_drop]
      rw [List.append_assoc]
      refine List.Perm.trans (List.Perm.append_left _ (List.Perm.append_right _ ?_)) (List.Perm.of_eq e.symm)
      rw [← hap]; exact hl
    refine wpS_pure (h _ _ ⟨hst.1.trans S1.kind,hnew,hst.2.2.1.trans S1.pend,hst.2.2.2.trans S1.failed⟩ (show List.Perm _ _ from hperm.trans hq) (fun i hi=>?_) ?_)
    · rw [KN_list,KN_list]
      congr 1
      rw [List.getD_eq_getElem?_getD,List.getD_eq_getElem?_getD]
      congr 1
      show (q.toList.take (sa+k)++l++q.toList.drop (sa+k+l.length))[i]?=_
      have lt:(q.toList.take (sa+k)).length=sa+k:=by rw [List.length_take,hQl]; omega
      rcases hi with hi | hi
      · rw [List.append_assoc,List.getElem?_append_left (by omega),List.getElem?_take,if_pos (by omega)]
      · rw [List.getElem?_append_right (by rw [List.length_append]; omega),List.getElem?_drop]
        congr 1
        rw [List.length_append]; omega
    · have hsz':(q.toList.take (sa+k)++l++q.toList.drop (sa+k+l.length)).toArray.size=N:=by rw [List.size_toArray,hperm.length_eq,hQl]
      refine R_of_up ?_ (by rw [hsz']; omega)
      have ereg:((q.toList.take (sa+k)++l++q.toList.drop (sa+k+l.length)).toArray.toList.drop sa).take (na+nb)=(q.toList.drop sa).take k++l++(q.toList.drop (sb+m)).take (nb - m):=by
        show (((q.toList.take (sa+k)++l++q.toList.drop (sa+k+l.length))).drop sa).take (na+nb)=_
        have lt:(q.toList.take (sa+k)).length=sa+k:=by rw [List.length_take,hQl]; omega
        rw [List.append_assoc,List.drop_append_of_le_length (by omega),List.drop_take,show sa+k - sa=k by omega]
        have l1:((q.toList.drop sa).take k).length=k:=region_len (by omega)
        have t1:∀ X:List Nat,((q.toList.drop sa).take k++X).take (na+nb)=(q.toList.drop sa).take k++X.take (na+nb - k):=fun X=>by
          rw [List.take_append,l1,List.take_of_length_le (l:=(q.toList.drop sa).take k) (by rw [l1]; omega)]
        have t2:∀ X:List Nat,(l++X).take (na+nb - k)=l++X.take (nb - m):=fun X=>by
          rw [List.take_append,List.take_of_length_le (l:=l) (by omega),hll,show na+nb - k - (na - k+m)=nb - m by omega]
        rw [t1,t2,hll,show sa+k+(na - k+m)=sb+m by omega,List.append_assoc]
      rw [ereg]
      have u1:Up key ((q.toList.drop sa).take k):=up_of_R (fun i j hij hj=>sA i j hij (by omega)) (by omega)
      have u3:Up key ((q.toList.drop (sb+m)).take (nb - m)):=up_of_R (fun i j hij hj=>by
        have:=sB (m+i) (m+j) (by omega) (by omega)
        rwa [← Nat.add_assoc,← Nat.add_assoc] at this) (by omega)
      have of3:∀ y∈(q.toList.drop (sb+m)).take (nb - m),∃ j,m≤j∧j < nb∧key y=KN key q (sb+j):=fun y hy=>by
        obtain ⟨j,hj,_,e⟩:=mem_region (key:=key) hy
        exact ⟨m+j,by omega,by omega,by rw [e,Nat.add_assoc]⟩
      have of1:∀ x∈(q.toList.drop sa).take k,∃ i,i < k∧key x=KN key q (sa+i):=fun x hx=>by
        obtain ⟨i,hi,_,e⟩:=mem_region (key:=key) hx
        exact ⟨i,hi,e⟩
      have ofl:∀ x∈l,(∃ i,k≤i∧i < na∧key x=KN key q (sa+i))∨∃ j,j < m∧key x=KN key q (sb+j):=fun x hx=>by
        rcases List.mem_append.mp (hl.mem_iff.mp hx) with z | z
        · obtain ⟨i,hi,_,e⟩:=mem_region (key:=key) z
          exact .inl ⟨k+i,by omega,by omega,by rw [e,Nat.add_assoc]⟩
        · obtain ⟨j,hj,_,e⟩:=mem_region (key:=key) z
          exact .inr ⟨j,hj,e⟩
      refine List.pairwise_append.mpr ⟨List.pairwise_append.mpr ⟨u1,ul,fun x hx y hy=>?_⟩,u3,fun x hx y hy=>?_⟩
      · obtain ⟨i,hi,ex⟩:=of1 x hx
        rw [ex]
        rcases ofl y hy with ⟨j,hj1,hj2,ey⟩ | ⟨j,hj,ey⟩
        · rw [ey]; exact sA i j (by omega) hj2
        · rw [ey]; exact KeyOrd.kle_trans (a1 i hi) (b0 j (by omega))
      · obtain ⟨j,hj1,hj2,ey⟩:=of3 y hy
        rw [ey]
        rcases List.mem_append.mp hx with z | z
        · obtain ⟨i,hi,ex⟩:=of1 x z
          rw [ex]; exact KeyOrd.kle_trans (a1 i hi) (b0 j hj2)
        · rcases ofl x z with ⟨i,hi1,hi2,ex⟩ | ⟨i,hi,ex⟩
          · rw [ex]; exact KeyOrd.kle_trans (aL i hi2) (c2 j hj1 hj2)
          · rw [ex]; exact sB i j (by omega) hj2
  by_cases hle:na - k≤m
  · rw [if_pos hle]
    refine wpS_bind (wmergeLo hc hA hB S1.kind uA uB (by omega) (by omega) ?_ last fun r st2 hst hm=>fin r st2 hst hm)
    refine first _ ?_
    rw [getD_of (by omega)]
    exact List.getElem_mem _
  · rw [if_neg hle]
    exact wpS_bind (wmergeHi hc hA hB S1.kind uA uB (by omega) (by omega) first last fun r st2 hst hm=>fin r st2 hst hm)
end
end SO
set_option Elab.async false
set_option linter.all false
set_option maxRecDepth 100000
set_option maxHeartbeats 2000000
namespace SO
open PySem PySem.W PyProof.Rows
abbrev pr (t:Nat × Nat × Nat):Nat × Nat:=(t.1,t.2.1)
def Chain:Nat→List (Nat × Nat)→Nat→Prop
  | a,[],b=>a=b
  | a,t :: r,b=>t.1=a∧1≤t.2∧Chain (a+t.2) r b
theorem Chain.append:∀ {a b:Nat} {P S:List (Nat × Nat)},Chain a (P++S) b↔∃ c,Chain a P c∧Chain c S b
  | a,b,[],S=>⟨fun h=>⟨a,rfl,h⟩,fun ⟨c,e,h⟩=>by have e:a=c:=e; subst e; exact h⟩
  | a,b,t :: P,S=>by
    constructor
    · rintro ⟨h1,h2,h3⟩
      obtain ⟨c,h4,h5⟩:=Chain.append.mp h3
      exact ⟨c,⟨h1,h2,h4⟩,h5⟩
    · rintro ⟨c,⟨h1,h2,h4⟩,h5⟩
      exact ⟨h1,h2,Chain.append.mpr ⟨c,h4,h5⟩⟩
theorem Chain.le:∀ {a b:Nat} {P:List (Nat × Nat)},Chain a P b→a+P.length≤b∧∀ t∈P,a≤t.1∧t.1+t.2≤b
  | a,b,[],h=>by have h:a=b:=h; subst h; exact ⟨Nat.le_refl _,fun t ht=>by cases ht⟩
  | a,b,t :: P,⟨h1,h2,h3⟩=>by
    obtain ⟨g1,g2⟩:=Chain.le h3
    refine ⟨by rw [List.length_cons]; omega,fun u hu=>?_⟩
    rcases List.mem_cons.mp hu with rfl | hu
    · omega
    · have:=g2 u hu
      omega
section
variable {O:KeyOrd} {key:Nat→O.α} {N:Nat} {prog:Program} {w:World} {A:Around} {E:Value→Shared→Prop} {s:Shared} {κ:SortKind} {it:Array Keyed} {pend:Array (Nat × Nat × Nat)} {st:SortSt} {q:Array Nat}
structure Rn (key:Nat→O.α) (N:Nat) (κ:SortKind) (it:Array Keyed) (pend:Array (Nat × Nat × Nat)) (q:Array Nat) (st:SortSt) (lo:Nat):Prop where
  S:Ss κ it pend q st
  hq:InN N q
  ch:Chain 0 (pend.toList.map pr) lo
  up:∀ t∈pend.toList.map pr,SortedR key q t.1 t.2
theorem wmergeRn {i lo:Nat} {Q:Bool→SortSt→Prop} (hc:Cmp key N (kas_cmp prog w A κ it) s) (R:Rn key N κ it pend q st lo) (hlo:lo≤N) (hi:i+1 < pend.size) (h:∀ pend' q' st',Rn key N κ it pend' q' st' lo→pend'.size+1=pend.size→Fix key 0 lo q q'→Q true st') :
    wpS (model prog w) A E s (mergeAt' i) Q st:=by
  have hl:pend.toList.length=pend.size:=by simp
  obtain ⟨P,t,u,S',hP,e⟩:∃ P t u S',P.length=i∧pend.toList=P++t :: u :: S':=by
    refine ⟨pend.toList.take i,pend.toList[i],pend.toList[i+1],pend.toList.drop (i+2),by rw [List.length_take]; omega,?_⟩
    rw [← List.drop_eq_getElem_cons (by omega),← List.drop_eq_getElem_cons (by omega),List.take_append_drop]
  have hch:=R.ch
  rw [e,List.map_append,List.map_cons,List.map_cons] at hch
  obtain ⟨c,c1,c2,c3,c4,c5,c6⟩:=Chain.append.mp hch
  obtain ⟨sa,na,pw⟩:=t
  obtain ⟨sb,nb,pw2⟩:=u
  dsimp only [pr] at c2 c3 c4 c5 c6
  have l6:=Chain.le c6
  have l1:=Chain.le c1
  have g1:pend[i]?=some (sa,na,pw):=by
    rw [← Array.getElem?_toList,e,← hP,List.getElem?_append_right (Nat.le_refl _)]; simp
  have g2:pend[i+1]?=some (sb,nb,pw2):=by
    rw [← Array.getElem?_toList,e,← hP,List.getElem?_append_right (by omega)]; simp
  have up1:=R.up (sa,na) (by rw [e]; simp [pr])
  have up2:=R.up (sb,nb) (by rw [e]; simp [pr])
  refine wmergeAt hc R.S R.hq g1 g2 (by omega) c3 c5 (by omega) up1 up2 fun q' st' S2 hq2 hfix hso=>?_
  have e2:((pend.setIfInBounds i (sa,na+nb,pw)).eraseIdxIfInBounds (i+1)).toList=P++(sa,na+nb,pw) :: S':=by
    rw [Array.toList_eraseIdxIfInBounds,Array.toList_setIfInBounds,e,← hP,List.set_append_right _ _ (Nat.le_refl _),List.eraseIdx_append_of_length_le (by omega)]
    simp
  refine h _ q' st' ⟨S2,hq2,?_,fun v hv=>?_⟩ ?_ fun j hj=>hfix j (by omega)
  · rw [e2,List.map_append,List.map_cons]
    refine Chain.append.mpr ⟨c,c1,c2,by dsimp only [pr]; omega,?_⟩
    dsimp only [pr]
    rw [show c+(na+nb)=c+na+nb by omega]
    exact c6
  · rw [e2,List.map_append,List.map_cons] at hv
    rcases List.mem_append.mp hv with hv | hv
    · have b:=l1.2 v hv
      intro x y hxy hy
      rw [hfix _ (by omega),hfix _ (by omega)]
      exact R.up v (by rw [e,List.map_append]; exact List.mem_append_left _ hv) x y hxy hy
    · rcases List.mem_cons.mp hv with rfl | hv
      · exact hso
      · have b:=l6.2 v hv
        intro x y hxy hy
        rw [hfix _ (by omega),hfix _ (by omega)]
        exact R.up v (by rw [e,List.map_append]; exact List.mem_append_right _ (List.mem_cons_of_mem _ (List.mem_cons_of_mem _ hv))) x y hxy hy
  · have h3:=congrArg List.length e2
    have h0:=congrArg List.length e
    rw [Array.length_toList] at h3 h0
    simp only [List.length_append,List.length_cons] at h3 h0
    omega
theorem mod_pr (p:Array (Nat × Nat × Nat)) (i g:Nat):(p.modify i fun x=>(x.1,x.2.1,g)).toList.map pr=p.toList.map pr:=by
  apply List.ext_getElem?
  intro k
  rw [List.getElem?_map,List.getElem?_map,Array.getElem?_toList,Array.getElem?_toList,Array.getElem?_modify]
  split
  · rw [Option.map_map]; rfl
  · rfl
theorem wruns {Q:Unit→SortSt→Prop} (hc:Cmp key N (kas_cmp prog w A κ it) s) (S:Ss κ it #[] q st) (hq:InN N q) (h2:2≤N)
    (h:∀ q' st',arrOf st'=q'.map (kas_item it)→failedOf st'=none→InN N q'→SortedN key q' N→Q () st'):wpS (model prog w) A E s sortRuns' Q st:=by
  have hsz:(arrOf st).size=N:=by rw [S.arr,Array.size_map,hq.size]
  rw [sortRuns'_eq]
  refine wpS_bind (wpS_get ?_)
  dsimp only
  rw [hsz]
  refine wpS_bind (wpS_mono (wpS_forRange
    (I:=fun (x:Nat) (c:Option Unit × Nat) (st':SortSt)=>c.1=none∧∃ pend' q',Rn key N κ it pend' q' st' c.2∧c.2≤N∧x≤c.2)
    (Q:=fun (c:Option Unit × Nat) (st':SortSt)=>c.1=none∧∃ pend' q',Rn key N κ it pend' q' st' N) ?step ?fin ⟨rfl,#[],q,⟨S,hq,rfl,fun t ht=>by cases ht⟩,Nat.zero_le _,Nat.zero_le _⟩) ?post)
  case fin =>
    rintro ⟨c0,lo⟩ st' ⟨e0,pend',q',R,b1,b2⟩
    dsimp only at *
    obtain rfl:lo=N:=by omega
    exact ⟨e0,pend',q',R⟩
  case step =>
    rintro x ⟨c0,lo⟩ st0 _ hx ⟨e0,pend0,q0,R0,b1,b2⟩
    dsimp only at *
    subst e0
    by_cases hlo:lo ≥ N
    · rw [if_pos hlo]
      obtain rfl:lo=N:=by omega
      exact wpS_pure ⟨rfl,pend0,q0,R0⟩
    rw [if_neg hlo]
    refine wpS_bind (wcountRun hc R0.S R0.hq (by omega) (by omega) fun m q2 st2 S2 hq2 hfix2 m1 m2 hm=>?_)
    dsimp only
    have keep:∀ {q2 q3:Array Nat} {hi:Nat},(∀ t∈pend0.toList.map pr,SortedR key q2 t.1 t.2)→Fix key lo hi q2 q3→∀ t∈pend0.toList.map pr,SortedR key q3 t.1 t.2:=fun {q2 q3 hi} hu hf t ht i j hij hj=>by
      have:=(Chain.le R0.ch).2 t ht
      rw [hf _ (by omega),hf _ (by omega)]
      exact hu t ht i j hij hj
    have u2:=keep R0.up hfix2
    by_cases hmr:m < minRun' N N 0
    · rw [if_pos hmr]
      refine wpS_bind (wpS_lift (wpAny_rule ⟨rfl,?_⟩))
      refine wpS_bind (wbinary hc S2 hq2 (by omega) m1 (by omega) hm fun q1 st1 S1 hq1 hfix1 hs1=>?_)
      rw [if_neg (by simp)]
      have R1:Rn key N κ it pend0 q1 st1 lo:=⟨S1,hq1,R0.ch,keep u2 hfix1⟩
      have hn1:1≤min (N - lo) (minRun' N N 0):=by omega
      have hn2:lo+min (N - lo) (minRun' N N 0)≤N:=by omega
      generalize min (N - lo) (minRun' N N 0)=n at hs1 hn1 hn2 ⊢
      generalize pend0=pend1 at R1
      refine wpS_bind (wpS_get ?_)
      rw [R1.S.pend]
      have fin:∀ pend2 q2 st2,Rn key N κ it pend2 q2 st2 lo→SortedR key q2 lo n→∃ pend' q',Rn key N κ it pend' q' (setPending st2 ((pendingOf st2).push (lo,n,0))) (lo+n):=fun pend2 q2 st2 R2 hs2=>by
        refine ⟨pend2.push (lo,n,0),q2,⟨R2.S.kind,R2.S.arr,by show (pendingOf st2).push _=_; rw [R2.S.pend],R2.S.failed⟩,R2.hq,?_,fun t ht=>?_⟩
        · rw [Array.toList_push,List.map_append]
          exact Chain.append.mpr ⟨lo,R2.ch,rfl,hn1,rfl⟩
        · rw [Array.toList_push,List.map_append] at ht
          rcases List.mem_append.mp ht with ht | ht
          · exact R2.up t ht
          · rw [List.mem_singleton.mp ht]; exact hs2
      cases hb:pend1.back? with
      | none =>
        dsimp only
        refine wpS_bind (wpS_modify (wpS_pure ?_))
        obtain ⟨pend',q',R'⟩:=fin pend1 q1 _ R1 hs1
        exact ⟨rfl,pend',q',R',by dsimp only; omega,by dsimp only; omega⟩
      | some t =>
        obtain ⟨s1,n1,p1⟩:=t
        dsimp only
        refine wpS_bind (wpS_mono (wpS_forRange
          (I:=fun (_:Nat) (c:Option Unit × PUnit) (st':SortSt)=>c.1=none∧∃ pend' q',Rn key N κ it pend' q' st' lo∧SortedR key q' lo n)
          (Q:=fun (c:Option Unit × PUnit) (st':SortSt)=>c.1=none∧∃ pend' q',Rn key N κ it pend' q' st' lo∧SortedR key q' lo n) ?_ (fun _ _ z=>z) ⟨rfl,pend1,q1,R1,hs1⟩) ?_)
        · rintro y ⟨c0,_⟩ st2 _ hy ⟨e0,pend2,q2,R2,hs2⟩
          dsimp only at *
          subst e0
          refine wpS_bind (wpS_get ?_)
          rw [R2.S.pend]
          by_cases h2z:pend2.size > 1
          · rw [if_pos h2z,getElem?_pos pend2 (pend2.size - 2) (by omega)]
            generalize pend2[pend2.size - 2]=t2
            obtain ⟨x1,x2,older⟩:=t2
            dsimp only
            split
            · exact wpS_pure ⟨rfl,pend2,q2,R2,hs2⟩
            · refine wpS_bind (wmergeRn hc R2 (by omega) (by omega) fun pend3 q3 st3 R3 _ hfix=>?_)
              rw [if_neg (by simp)]
              refine wpS_pure ⟨rfl,pend3,q3,R3,fun i j hij hj=>?_⟩
              rw [hfix _ (by omega),hfix _ (by omega)]
              exact hs2 i j hij hj
          · rw [if_neg h2z]
            exact wpS_pure ⟨rfl,pend2,q2,R2,hs2⟩
        · rintro ⟨c0,_⟩ st2 ⟨e0,pend2,q2,R2,hs2⟩
          dsimp only at *
          subst e0
          dsimp only
          refine wpS_bind (wpS_modify (wpS_bind (wpS_modify (wpS_pure ?_))))
          have R3:Rn key N κ it (pend2.modify (pend2.size - 1) fun x=>(x.1,x.2.1,power' N (2 * s1+n1) (2 * s1+n1+n1+n) N)) q2 (setPending st2 ((pendingOf st2).modify ((pendingOf st2).size - 1) fun x=>(x.1,x.2.1,power' N (2 * s1+n1) (2 * s1+n1+n1+n) N))) lo :=
            ⟨⟨R2.S.kind,R2.S.arr,by rw [R2.S.pend],R2.S.failed⟩,R2.hq,by rw [mod_pr]; exact R2.ch,by rw [mod_pr]; exact R2.up⟩
          obtain ⟨pend',q',R'⟩:=fin _ q2 _ R3 hs2
          exact ⟨rfl,pend',q',R',by dsimp only; omega,by dsimp only; omega⟩
    · rw [if_neg hmr]
      have R1:Rn key N κ it pend0 q2 st2 lo:=⟨S2,hq2,R0.ch,u2⟩
      have hn1:=m1
      have hn2:lo+m≤N:=by omega
      have hs1:=hm
      generalize m=n at hs1 hn1 hn2 ⊢
      generalize pend0=pend1 at R1
      generalize q2=q1 at R1 hs1
      refine wpS_bind (wpS_get ?_)
      rw [R1.S.pend]
      have fin:∀ pend2 q2 st2,Rn key N κ it pend2 q2 st2 lo→SortedR key q2 lo n→∃ pend' q',Rn key N κ it pend' q' (setPending st2 ((pendingOf st2).push (lo,n,0))) (lo+n):=fun pend2 q2 st2 R2 hs2=>by
        refine ⟨pend2.push (lo,n,0),q2,⟨R2.S.kind,R2.S.arr,by show (pendingOf st2).push _=_; rw [R2.S.pend],R2.S.failed⟩,R2.hq,?_,fun t ht=>?_⟩
        · rw [Array.toList_push,List.map_append]
          exact Chain.append.mpr ⟨lo,R2.ch,rfl,hn1,rfl⟩
        · rw [Array.toList_push,List.map_append] at ht
          rcases List.mem_append.mp ht with ht | ht
          · exact R2.up t ht
          · rw [List.mem_singleton.mp ht]; exact hs2
      cases hb:pend1.back? with
      | none =>
        dsimp only
        refine wpS_bind (wpS_modify (wpS_pure ?_))
        obtain ⟨pend',q',R'⟩:=fin pend1 q1 _ R1 hs1
        exact ⟨rfl,pend',q',R',by dsimp only; omega,by dsimp only; omega⟩
      | some t =>
        obtain ⟨s1,n1,p1⟩:=t
        dsimp only
        refine wpS_bind (wpS_mono (wpS_forRange
          (I:=fun (_:Nat) (c:Option Unit × PUnit) (st':SortSt)=>c.1=none∧∃ pend' q',Rn key N κ it pend' q' st' lo∧SortedR key q' lo n)
          (Q:=fun (c:Option Unit × PUnit) (st':SortSt)=>c.1=none∧∃ pend' q',Rn key N κ it pend' q' st' lo∧SortedR key q' lo n) ?_ (fun _ _ z=>z) ⟨rfl,pend1,q1,R1,hs1⟩) ?_)
        · rintro y ⟨c0,_⟩ st2 _ hy ⟨e0,pend2,q2,R2,hs2⟩
          dsimp only at *
          subst e0
          refine wpS_bind (wpS_get ?_)
          rw [R2.S.pend]
          by_cases h2z:pend2.size > 1
          · rw [if_pos h2z,getElem?_pos pend2 (pend2.size - 2) (by omega)]
            generalize pend2[pend2.size - 2]=t2
            obtain ⟨x1,x2,older⟩:=t2
            dsimp only
            split
            · exact wpS_pure ⟨rfl,pend2,q2,R2,hs2⟩
            · refine wpS_bind (wmergeRn hc R2 (by omega) (by omega) fun pend3 q3 st3 R3 _ hfix=>?_)
              rw [if_neg (by simp)]
              refine wpS_pure ⟨rfl,pend3,q3,R3,fun i j hij hj=>?_⟩
              rw [hfix _ (by omega),hfix _ (by omega)]
              exact hs2 i j hij hj
          · rw [if_neg h2z]
            exact wpS_pure ⟨rfl,pend2,q2,R2,hs2⟩
        · rintro ⟨c0,_⟩ st2 ⟨e0,pend2,q2,R2,hs2⟩
          dsimp only at *
          subst e0
          dsimp only
          refine wpS_bind (wpS_modify (wpS_bind (wpS_modify (wpS_pure ?_))))
          have R3:Rn key N κ it (pend2.modify (pend2.size - 1) fun x=>(x.1,x.2.1,power' N (2 * s1+n1) (2 * s1+n1+n1+n) N)) q2 (setPending st2 ((pendingOf st2).modify ((pendingOf st2).size - 1) fun x=>(x.1,x.2.1,power' N (2 * s1+n1) (2 * s1+n1+n1+n) N))) lo :=
            ⟨⟨R2.S.kind,R2.S.arr,by rw [R2.S.pend],R2.S.failed⟩,R2.hq,by rw [mod_pr]; exact R2.ch,by rw [mod_pr]; exact R2.up⟩
          obtain ⟨pend',q',R'⟩:=fin _ q2 _ R3 hs2
          exact ⟨rfl,pend',q',R',by dsimp only; omega,by dsimp only; omega⟩
  case post =>
    rintro ⟨c0,lo⟩ st0 ⟨e0,pend0,q0,R0⟩
    dsimp only at *
    subst e0
    dsimp only
    have hl0:pend0.size≤N:=by
      have:=(Chain.le R0.ch).1
      rw [List.length_map,Array.length_toList] at this
      omega
    refine wpS_bind (wpS_mono (wpS_forRange
      (I:=fun (x:Nat) (c:Option Unit × PUnit) (st':SortSt)=>c.1=none∧∃ pend' q',Rn key N κ it pend' q' st' N∧pend'.size+x≤N)
      (Q:=fun (c:Option Unit × PUnit) (st':SortSt)=>c.1=none∧∃ pend' q',Rn key N κ it pend' q' st' N∧pend'.size≤1) ?step3 ?fin3 ⟨rfl,pend0,q0,R0,by omega⟩) ?post3)
    case fin3 =>
      rintro ⟨c0,_⟩ st' ⟨e0,pend',q',R,b⟩
      exact ⟨e0,pend',q',R,by omega⟩
    case post3 =>
      rintro ⟨c0,_⟩ st' ⟨e0,pend',q',R,b⟩
      dsimp only at *
      subst e0
      dsimp only
      have hch:=R.ch
      have hup:=R.up
      obtain ⟨n0,e⟩:∃ n0,pend'.toList.map pr=[(0,n0)]∧n0=N:=by
        match hL:pend'.toList.map pr with
        | []=>rw [hL] at hch; have:0=N:=hch; omega
        | [(a,n0)] =>
          rw [hL] at hch
          obtain ⟨h3,h4,h5⟩:=hch
          have h3:a=0:=h3
          have h5:0+n0=N:=h5
          subst h3
          exact ⟨n0,rfl,by omega⟩
        | _ :: _ :: _ =>
          have:=congrArg List.length hL
          rw [List.length_map,Array.length_toList,List.length_cons,List.length_cons] at this
          omega
      obtain ⟨e,rfl⟩:=e
      refine wpS_pure (h q' st' R.S.arr R.S.failed R.hq fun i j hij hj=>?_)
      have:=hup (0,n0) (by rw [e]; exact .head _) i j hij hj
      rwa [Nat.zero_add,Nat.zero_add] at this
    case step3 =>
      rintro x ⟨c0,_⟩ st2 _ hx ⟨e0,pend2,q2,R2,b⟩
      dsimp only at *
      subst e0
      refine wpS_bind (wpS_get ?_)
      rw [R2.S.pend]
      by_cases h1:pend2.size≤1
      · rw [if_pos h1]
        exact wpS_pure ⟨rfl,pend2,q2,R2,h1⟩
      · rw [if_neg h1]
        have hi:∀ (c:Prop) [Decidable c],(if c then pend2.size - 2 - 1 else pend2.size - 2)+1 < pend2.size:=fun c _=>by split <;> omega
        refine wpS_bind (wmergeRn hc R2 (Nat.le_refl _) (hi _) fun pend3 q3 st3 R3 hsz3 _=>?_)
        rw [if_neg (by simp)]
        exact wpS_pure ⟨rfl,pend3,q3,R3,by omega⟩
end
end SO
set_option Elab.async false
set_option linter.all false
set_option maxRecDepth 100000
set_option maxHeartbeats 1000000
namespace SO
open PySem PySem.W PyProof.Rows
variable {O:KeyOrd} {key:Nat→O.α} {N:Nat}
section
variable {prog:Program} {w:World} {A:Around} {E:Value→Shared→Prop} {s:Shared}
theorem list_sortB {a:Addr} {vs:List Value} {n:Nat} {P:PySem.Fin→Shared→Prop} (key:Nat→O.α) (κ:SortKind) (ho:s.heap.get? a=some (seqObj "list" vs.toArray n)) (h64:vs.length≤100000)
    (hk:2≤vs.length→∀ h',(∀ b o,b≠a→s.heap.get? b=some o→h'.get? b=some o)→∀ (Q:SortKind→Shared→Prop),Q κ { s with heap:=h' }→wpAny (model prog w) A (keyKind' vs.toArray) Q E { s with heap:=h' })
    (hc:∀ h',(∀ b o,b≠a→s.heap.get? b=some o→h'.get? b=some o)→Cmp key vs.length (kas_ask prog w A κ vs) { s with heap:=h' })
    (h:∀ p,InN vs.length p→SortedN key p vs.length→P (.done (.ret .none)) { s with heap:=sortedHeap s.heap a vs (List.toArray (p.toList.map fun i=>vs.getD i Value.none)) }) :
    wpAny (model prog w) A (Builtin.«list.sort» ⟨[.ref a],[]⟩) P E s:=by
  rw [list_sort_plain]
  have ha:a < s.heap.objs.size:=Heap.lt_size ho
  refine wpAny_bind (listItems_at ho rfl ?_)
  refine wpAny_bind (listUpdate_at ho rfl ?_ (by rw [sizeLine_eq]; simp; omega))
  obtain ⟨e1,ho1⟩:∃ e1,(s.heap.update a (Obj.mapSeq fun _=>#[])).get? a=some (seqObj "list" #[] e1):=⟨_,get?_update_seq ho (fun _=>#[])⟩
  refine wpAny_bind (seqEpoch_at ho1 rfl ?_)
  refine wpAny_bind (wpAny_newTuple ?_ (by rw [sizeLine_eq]; simp; omega))
  refine wpAny_bind (wpAny_newList ?_)
  refine wpAny_holding ?_
  have keep:∀ b o,b≠a→s.heap.get? b=some o→(((s.heap.update a (Obj.mapSeq fun _=>#[])).push (seqObj "tuple" vs.toArray 0)).push (seqObj "list" #[] 0)).get? b=some o:=fun b o hb q=>by
    have hlt:b < s.heap.objs.size:=Heap.lt_size q
    rw [Heap.get?_push_ne _ _ _ (by rw [size_push',Heap.size_update]; exact Nat.ne_of_lt (Nat.lt_succ_of_lt hlt)),Heap.get?_push_ne _ _ _ (by rw [Heap.size_update]; exact Nat.ne_of_lt hlt),Heap.get?_update_ne _ _ _ _ hb]
    exact q
  have ho6:(((s.heap.update a (Obj.mapSeq fun _=>#[])).push (seqObj "tuple" vs.toArray 0)).push (seqObj "list" #[] 0)).get? a=some (seqObj "list" #[] e1):=by
    rw [Heap.get?_push_ne _ _ _ (by rw [size_push',Heap.size_update]; exact Nat.ne_of_lt (Nat.lt_succ_of_lt ha)),Heap.get?_push_ne _ _ _ (by rw [Heap.size_update]; exact Nat.ne_of_lt ha)]
    exact ho1
  show wpAny (model prog w) A _ P E { s with heap:=((s.heap.update a (Obj.mapSeq fun _=>#[])).push (seqObj "tuple" vs.toArray 0)).push (seqObj "list" #[] 0) }
  dsimp only
  have hsz:vs.toArray.size=vs.length:=by simp
  by_cases h2:vs.toArray.size < 2
  · rw [if_pos h2,if_pos h2]
    refine wpAny_bind (wpAny_pure ?_)
    rw [StateT.run_pure]
    refine wpAny_bind (wpAny_pure ?_)
    dsimp only
    refine wpAny_bind (seqEpoch_at ho6 rfl ?_)
    have e:((arrOf (SortSt.mk' general' (vs.toArray.zip vs.toArray) #[] 7 none)).map (·.2))=List.toArray ((List.range vs.length).toArray.toList.map fun i=>vs.getD i Value.none):=by
      show (vs.toArray.zip vs.toArray).map (·.2)=_
      apply Array.toList_inj.mp
      apply List.ext_getElem
      · simp
      · intro i h1 h2'
        simp at h1 h2' ⊢
        simp [h1]
    rw [e]
    refine wpAny_bind (listUpdate_at ho6 rfl ?_ (hsz2:=by rw [sizeLine_eq]; simp; omega))
    simp only [bne_self_eq_false,Bool.false_eq_true,if_false]
    refine wpAny_pure (h _ (show InN vs.length (List.range vs.length).toArray from List.Perm.refl _) ?_)
    intro i j hij hj
    have:i=j:=by omega
    subst this; exact KeyOrd.kle_refl _
  · rw [if_neg h2,if_neg h2]
    refine wpAny_bind (hk (by omega) _ keep _ ?_)
    have hN:(vs.toArray.zip vs.toArray).size=vs.length:=by simp
    refine wpAny_bind (wpAny_mono (wruns (key:=key) (κ:=κ) (it:=vs.toArray.zip vs.toArray) (N:=vs.length) (q:=(List.range vs.length).toArray) (Q:=fun _ st'=>∃ p:Array Nat,arrOf st'=p.map (kas_item (vs.toArray.zip vs.toArray))∧failedOf st'=none∧InN vs.length p∧SortedN key p vs.length)
      (by have:=hc _ keep; rw [kas_ask_eq] at this; exact this) ⟨rfl,?_,rfl,rfl⟩ (show InN vs.length (List.range vs.length).toArray from List.Perm.refl _) (by omega) fun p st' a b c d=>⟨p,a,b,c,d⟩) ?_ fun _ _ x=>x)
    · show vs.toArray.zip vs.toArray=_
      have:=kas_range (vs.toArray.zip vs.toArray)
      rw [hN] at this
      exact this.symm
    rintro ⟨⟨⟩,st'⟩ s' ⟨rfl,p,har,hf,hi,hso⟩
    dsimp only
    have hpl:p.size≤100000:=by rw [hi.size]; omega
    refine wpAny_bind (seqEpoch_at ho6 rfl ?_)
    rw [kat_snds rfl har]
    refine wpAny_bind (listUpdate_at ho6 rfl ?_ (hsz2:=by rw [sizeLine_eq]; simp; omega))
    rw [hf]
    simp only [bne_self_eq_false,Bool.false_eq_true,if_false]
    exact wpAny_pure (h p hi hso)
end
end SO
set_option Elab.async false
set_option linter.all false
set_option maxRecDepth 100000
namespace L2
open PySem PySem.W PyProof.Rows
section
variable {prog:Program} {w:World} {A:Around} {E:Value→Shared→Prop} {s:Shared}
variable {X:Cx} {pins:List (Addr × Obj)} {σ:St} {H:Hp} {s:Shared}
end
end L2
set_option Elab.async false
set_option linter.all false
set_option maxRecDepth 100000
set_option maxHeartbeats 400000
namespace PySem.SeqAt
open AutoSeq1 (wpAny_loadPart')
open MeetsSeq MeetsSeq2 MeetsSeq3 SeqRoads2
end PySem.SeqAt
namespace L2
open PySem PySem.Spec PyProof.Rows
end L2
set_option Elab.async false
set_option linter.all false
set_option maxRecDepth 100000
set_option maxHeartbeats 400000
namespace L2
open PySem PySem.Spec PyProof.Rows
end L2
set_option Elab.async false
set_option linter.all false
set_option maxRecDepth 100000
namespace L2
open PySem
structure Row70 (xs:List (List Nat)):Prop where
  len:xs.length=70
  nd:xs.Nodup
  nm:∀ x∈xs,isNm ⟨x.toArray⟩=true
end L2
set_option Elab.async false
set_option linter.all false
set_option maxRecDepth 100000
set_option maxHeartbeats 400000
namespace L2
open PySem PySem.Spec PyProof.Rows
end L2
set_option Elab.async false
set_option linter.all false
set_option maxRecDepth 100000
set_option maxHeartbeats 400000
namespace L2
open PySem PySem.Spec PyProof.Rows
end L2
set_option Elab.async false
set_option linter.all false
set_option maxRecDepth 100000
set_option maxHeartbeats 4000000
namespace L2
open PySem PySem.Spec PyProof.Rows
end L2
set_option Elab.async false
set_option linter.all false
set_option maxRecDepth 100000
namespace L2
open PySem PySem.W PyProof.Rows
section
variable {X:Cx} {pins:List (Addr × Obj)} {σ:St} {H:Hp} {s:Shared}
def SObl (X:Cx) (s:Shared) (its:List Value) (ds:List D):Prop:=∃ κ:SortKind,
  (2≤its.length→∀ h',SO.Keeps s.heap h'→∀ (E:Value→Shared→Prop) (Q:SortKind→Shared→Prop),Q κ { s with heap:=h' }→wpAny (model X.prog X.w) X.A.in1.in1 (keyKind' its.toArray) Q E { s with heap:=h' }) ∧
  (∀ h',SO.Keeps s.heap h'→SO.Cmp (O:=ordD) (fun i=>ds.getD i .non) its.length (PySem.W.kas_ask X.prog X.w X.A.in1.in1 κ its) { s with heap:=h' })
theorem sobl (hu:X.A.units+64 < cLine) (I:Inv X pins σ H s) {vs:List V} {ds:List D} {its:List Value} (hD:DenL H vs ds) (rv:Vals vs its) (hom:Hom ds) (h64:ds.length≤100000) (hsh:∀ d∈ds,Shal 50 d):SObl X s its ds:=by
  have l1:=hD.len
  have l2:=rv.length
  have one:(∀ d∈ds,∀ xs,d≠.tup xs)→∀ T,(T != Value.type "tuple")=true→(T == T)=true→(∀ d∈ds,tyD d=T)→SObl X s its ds:=by
    intro nt T hT1 hT2 hT
    refine ⟨oneType',fun h2 h' kp E Q q=>?_,fun h' kp i j C hi hj q=>?_⟩
    · refine PySem.W.kas_kind h2 (T:=T) (fun v hv=>?_) hT1 hT2 q
      obtain ⟨i,hi,rfl⟩:=List.mem_iff_getElem.mp hv
      obtain ⟨x,v,e1,e2,e3,e4,e5,e6⟩:=at3 (i:=i) hD rv (by omega)
      rw [List.getElem?_eq_getElem hi] at e2
      cases e2
      rw [← hT _ e6]
      exact looks_ty I kp (hom.1 _ e6 _ e6) e4 e5
    · obtain ⟨x,v,e1,e2,e3,e4,e5,e6⟩:=at3 (i:=i) hD rv (by omega)
      obtain ⟨y,u,f1,f2,f3,f4,f5,f6⟩:=at3 (i:=j) hD rv (by omega)
      unfold PySem.W.kas_ask
      rw [e3,f3,keyLt'_oneType]
      exact one_true (hom.1 _ e6 _ f6) e4 f4 e5 f5 (nt _ e6) _ _ q
  rcases hom.2 with hi | hi | hi
  · exact one (fun d hd xs e=>by obtain ⟨i,z⟩:=hi d hd; rw [z] at e; cases e) (.type "int") (by decide) (by rfl) (fun d hd=>by obtain ⟨i,z⟩:=hi d hd; rw [z]; rfl)
  · exact one (fun d hd xs e=>by obtain ⟨i,z⟩:=hi d hd; rw [z] at e; cases e) (.type "str") (by decide) (by rfl) (fun d hd=>by obtain ⟨i,z⟩:=hi d hd; rw [z]; rfl)
  · obtain ⟨T,hT2,hT⟩:∃ T:Value,(T == T)=true∧∀ d r,D.tup (d :: r)∈ds→tyD d=T∧Sim d d:=by
      cases hds:ds with
      | nil=>exact ⟨.type "int",by rfl,fun d r z=>by cases z⟩
      | cons d0 ds0 =>
        obtain ⟨e0,r0,rfl⟩:=hi d0 (by rw [hds]; exact .head _)
        refine ⟨tyD e0,tyD_self e0,fun d r z=>?_⟩
        have s1:=hom.1 _ (show D.tup (d :: r)∈ds by rw [hds]; exact z) (.tup (e0 :: r0)) (by rw [hds]; exact .head _)
        have s2:=hom.1 _ (show D.tup (d :: r)∈ds by rw [hds]; exact z) (.tup (d :: r)) (by rw [hds]; exact z)
        replace s1:=SimL_c' (Sim_t' s1)
        replace s2:=SimL_c' (Sim_t' s2)
        exact ⟨tyD_sim s1.1,s2.1⟩
    refine ⟨tuples' (T != Value.type "tuple"),fun h2 h' kp E Q q=>?_,fun h' kp i j C hi' hj q=>?_⟩
    · obtain ⟨fs,k,l,m⟩:=kat_tups I kp hD rv hi
      refine PySem.W.kat_kind k (by omega) (T:=T) (fun v hv=>?_) hT2 q
      obtain ⟨x,d,r,z1,z2,z3⟩:=m v hv
      obtain ⟨t1,t2⟩:=hT d r z3
      rw [← t1]
      exact looks_ty I kp t2 z1 z2
    · obtain ⟨x,v,e1,e2,e3,e4,e5,e6⟩:=at3 (i:=i) hD rv (by omega)
      obtain ⟨y,u,f1,f2,f3,f4,f5,f6⟩:=at3 (i:=j) hD rv (by omega)
      unfold PySem.W.kas_ask
      rw [e3,f3]
      have hq:C (dlt (ds.getD i .non) (ds.getD j .non)) { s with heap:=h' }:=q
      obtain ⟨d1,r1,E1⟩:=hi _ e6
      obtain ⟨d2,r2,E2⟩:=hi _ f6
      have sh1:=hsh _ e6
      have sh2:=hsh _ f6
      have sm:=hom.1 _ e6 _ f6
      rw [E1] at e4 e6 hq sh1 sm
      rw [E2] at f4 f6 hq sh2 sm
      obtain ⟨a1,w1,rfl,ha1,hda1⟩:=den_tup e4
      obtain ⟨a2,w2,rfl,ha2,hda2⟩:=den_tup f4
      cases e5
      cases f5
      obtain ⟨its1,v1,⟨o1,eo1,ec1,n1,ed1⟩,_⟩:=I.tuple (SqT.of (K:=X.K) ha1)
      obtain ⟨its2,v2,⟨o2,eo2,ec2,n2,ed2⟩,_⟩:=I.tuple (SqT.of (K:=X.K) ha2)
      have k1:=hda1.len
      have k2:=hda2.len
      have k3:=v1.length
      have k4:=v2.length
      replace sm:=Sim_t' sm
      have cm:=cmpD I (s':={ s with heap:=h' }) kp 49
      have each:∀ (k:Nat) (p q:Value),(its1.zip its2)[k]?=some (p,q)→∃ (x y:V),Den H x ((d1 :: r1).getD k .non)∧Den H y ((d2 :: r2).getD k .non)∧RelV x p∧RelV y q∧Sim ((d1 :: r1).getD k .non) ((d2 :: r2).getD k .non)∧Shal 49 ((d1 :: r1).getD k .non)∧Shal 49 ((d2 :: r2).getD k .non):=by
        intro k p q hz
        rw [List.getElem?_zip_eq_some] at hz
        have b1:k < its1.length:=(List.getElem?_eq_some_iff.mp hz.1).1
        have b2:k < its2.length:=(List.getElem?_eq_some_iff.mp hz.2).1
        obtain ⟨x1,p1,_,g1,_,g2,g3,g4⟩:=at3 (i:=k) hda1 v1 (by omega)
        obtain ⟨x2,p2,_,g1',_,g2',g3',g4'⟩:=at3 (i:=k) hda2 v2 (by omega)
        rw [hz.1] at g1
        rw [hz.2] at g1'
        cases g1
        cases g1'
        refine ⟨x1,x2,g2,g2',g3,g3',sm.at_ (i:=k) ?_ ?_,(sh1.2 _ rfl).2 _ g4,(sh2.2 _ rfl).2 _ g4'⟩
        · rw [List.getD_eq_getElem?_getD,List.getElem?_eq_getElem (by omega)]; rfl
        · rw [List.getD_eq_getElem?_getD,List.getElem?_eq_getElem (by omega)]; rfl
      refine PySem.W.kat_lt (kp _ _ eo1) ed1 (kp _ _ eo2) ed2 (SO.katlex (e:=fun k=>eqD ((d1 :: r1).getD k .non) ((d2 :: r2).getD k .non)) (f:=fun k=>dlt ((d1 :: r1).getD k .non) ((d2 :: r2).getD k .non)) _ 0 (fun k p q z=>?_) (fun k p q z _ Q E hq=>?_) ?_)
      · obtain ⟨x,y,h1,h2,h3,h4,h5,h6,h7⟩:=each k p q z
        rw [Nat.zero_add]
        exact (cm _ _ _ _ _ _ _ h6 h7 h5 h1 h2 h3 h4 (by simp only [Around.in1]; omega)).1
      · obtain ⟨x,y,h1,h2,h3,h4,h5,h6,h7⟩:=each k p q z
        rw [Nat.zero_add] at hq ⊢
        have lt:=(cm _ _ X.A.in1.in1 _ _ _ _ h6 h7 h5 h1 h2 h3 h4 (by simp only [Around.in1]; omega)).2
        cases hb:(T != Value.type "tuple") && k == 0 with
        | false=>exact one_false lt Q E hq
        | true =>
          rw [Bool.and_eq_true,beq_iff_eq] at hb
          obtain ⟨hb,rfl⟩:=hb
          have t1:=hT d1 r1 e6
          exact one_true h5 h1 h2 h3 h4 (show ∀ ds,d1≠.tup ds from tyD_tup t1.2 (by rw [t1.1]; exact hb)) Q E hq
      · have hl:=lexR_dlt (d1 :: r1) (d2 :: r2)
        have e:List.range' 0 (its1.toArray.toList.zip its2.toArray.toList).length=List.range (min (d1 :: r1).length (d2 :: r2).length):=by
          rw [List.range_eq_range']
          congr 1
          simp only [List.length_zip]
          omega
        have ef:decide (its1.toArray.size < its2.toArray.size)=decide ((d1 :: r1).length < (d2 :: r2).length):=by
          rw [show its1.toArray.size=(d1 :: r1).length by simp at k1 k3 ⊢; omega,show its2.toArray.size=(d2 :: r2).length by simp at k2 k4 ⊢; omega]
        rw [e,ef,hl]
        rw [dlt_tt] at hq
        exact hq
end
end L2
namespace SO
open PySem PySem.W PyProof.Rows
section
variable {O:KeyOrd} {prog:Program} {w:World} {A:Around} {E:Value→Shared→Prop} {s:Shared}
theorem sorted_ofGB {v:Value} {Q:Value→Shared→Prop} (G:List Value→Heap→Nat→Prop)
    (hcol:∀ (Q:List Value→Shared→Prop),(∀ vs g tk,G vs g tk→Q vs { s with heap:=g,toks:=tk })→wpAny (model prog w) A.in1 (collect v) Q E s)
    (hrest:∀ vs g tk,G vs g tk→∃ (key:Nat→O.α) (κ:SortKind),vs.length≤100000∧
      (2≤vs.length→∀ h',Keeps g h'→∀ (E:Value→Shared→Prop) (Q:SortKind→Shared→Prop),Q κ { s with heap:=h',toks:=tk }→wpAny (model prog w) A.in1.in1 (keyKind' vs.toArray) Q E { s with heap:=h',toks:=tk }) ∧
      (∀ h',Keeps g h'→Cmp key vs.length (kas_ask prog w A.in1.in1 κ vs) { s with heap:=h',toks:=tk }) ∧
      (∀ (g':Heap) (p:Array Nat),Keeps g g'→InN vs.length p→SortedN key p vs.length→(∃ n,g'.get? g.objs.size=some (seqObj "list" (List.toArray (p.toList.map fun i=>vs.getD i Value.none)) n))→Q (.ref g.objs.size) { s with heap:=g',toks:=tk })) :
    wpAny (model prog w) A (call (.builtin "sorted") [v]) Q E s:=by
  refine Calls.call_function_entry kind_sorted plain_sorted entry_sorted (args_sorted1 _) ?_
  unfold Builtin.«sorted»
  refine wpAny_bind (m:=checkCount "sorted" 1 1 _) (wpAny_pure ?_)
  refine wpAny_bind (hcol _ fun vs g tk hG=>?_)
  obtain ⟨key,κ,h64,hk,hc,h⟩:=hrest vs g tk hG
  refine wpAny_bind (wpAny_newList ?_ (by rw [sizeLine_eq]; omega))
  have hoL:(g.push (seqObj "list" vs.toArray 0)).get? g.objs.size=some (seqObj "list" vs.toArray 0):=Heap.get?_push_size _ rfl
  have kp:∀ h',(∀ b o,b≠g.objs.size→(g.push (seqObj "list" vs.toArray 0)).get? b=some o→h'.get? b=some o)→Keeps g h':=fun h' k b o q=>by
    exact k b o (Nat.ne_of_lt (Heap.lt_size q)) (Heap.get?_push_of_some _ q)
  show wpAny _ _ _ _ _ { s with heap:=g.push (seqObj "list" vs.toArray 0),toks:=tk }
  refine wpAny_bind (wpAny_holding (wpAny_call_entry slot_list_sort ⟨_,hoL,rfl⟩ entry_list_sort (list_sortB (s:={ s with heap:=g.push (seqObj "list" vs.toArray 0),toks:=tk }) key κ hoL h64 (fun z h' k Q q=>hk z h' (kp h' k) _ Q q) (fun h' k=>hc h' (kp h' k)) fun p a1 a2=>⟨_,rfl,?_⟩) (args_list_sort _)))
  refine wpAny_pure ⟨_,rfl,h _ p (kp _ fun b o hb q=>?_) a1 a2 ?_⟩
  · unfold sortedHeap
    have hlt:b < (g.push (seqObj "list" vs.toArray 0)).objs.size:=Heap.lt_size q
    rw [Heap.get?_update_ne _ _ _ _ hb,Heap.get?_push_ne _ _ _ (by rw [size_push',Heap.size_update]; exact Nat.ne_of_lt (Nat.lt_succ_of_lt hlt)),Heap.get?_push_ne _ _ _ (by rw [Heap.size_update]; exact Nat.ne_of_lt hlt),Heap.get?_update_ne _ _ _ _ hb]
    exact q
  · unfold sortedHeap
    have ha:g.objs.size < (g.push (seqObj "list" vs.toArray 0)).objs.size:=Heap.lt_size hoL
    obtain ⟨e1,ho1⟩:∃ e1,((g.push (seqObj "list" vs.toArray 0)).update g.objs.size (Obj.mapSeq fun _=>#[])).get? g.objs.size=some (seqObj "list" #[] e1):=⟨_,get?_update_seq hoL (fun _=>#[])⟩
    have ho6:((((g.push (seqObj "list" vs.toArray 0)).update g.objs.size (Obj.mapSeq fun _=>#[])).push (seqObj "tuple" vs.toArray 0)).push (seqObj "list" #[] 0)).get? g.objs.size=some (seqObj "list" #[] e1):=by
      rw [Heap.get?_push_ne _ _ _ (by rw [size_push',Heap.size_update]; exact Nat.ne_of_lt (Nat.lt_succ_of_lt ha)),Heap.get?_push_ne _ _ _ (by rw [Heap.size_update]; exact Nat.ne_of_lt ha)]
      exact ho1
    exact ⟨_,get?_update_seq ho6 _⟩
end
end SO
namespace L2
open PySem PySem.Spec PyProof.Rows
end L2
set_option Elab.async false
set_option linter.all false
set_option maxRecDepth 100000
set_option maxHeartbeats 4000000
namespace DR
open PySem PySem.W
open Sem (wp)
section
variable {prog:Program} {w:World} {A:Around} {E:Value→Shared→Prop} {s:Shared} {it dd:Addr} {es:Array DictEntry} {i ep:Nat}
end
end DR
namespace L2
open PySem PySem.Spec PyProof.Rows
theorem vals_refs:∀ as:List Addr,Vals (as.map V.ref) (as.map Value.ref)
  | []=>.nil
  | _ :: as=>.cons rfl (vals_refs as)
end L2
namespace L2
open PySem PySem.Spec PyProof.Rows
end L2
namespace L2
open PySem PySem.Spec PyProof.Rows
end L2
set_option Elab.async false
set_option linter.all false
set_option maxRecDepth 100000
namespace ST
open PySem PySem.SetTable
def S5:Nat→Nat
  | 0=>0
  | d+1=>5 * S5 d+1
theorem s5_pow (d:Nat):5 ^ d=4 * S5 d+1:=by
  induction d with
  | zero=>rfl
  | succ d ih=>rw [Nat.pow_succ,ih]; show (4 * S5 d+1) * 5=4 * (5 * S5 d+1)+1; omega
theorem s5_add (d e:Nat):S5 (d+e)=5 ^ e * S5 d+S5 e:=by
  induction e with
  | zero=>show S5 d=5 ^ 0 * S5 d+0; simp
  | succ e ih =>
    show 5 * S5 (d+e)+1=5 ^ (e+1) * S5 d+(5 * S5 e+1)
    rw [ih,Nat.pow_succ]
    have:5 * (5 ^ e * S5 d)=5 ^ e * 5 * S5 d:=by rw [Nat.mul_comm (5 ^ e) 5,Nat.mul_assoc]
    omega
theorem two_pow (k:Nat):∃ a b:Nat,5 ^ (2 ^ k)=1+2 ^ (k+2) * a∧S5 (2 ^ k)=2 ^ k * (2 * b+1):=by
  induction k with
  | zero=>exact ⟨1,0,rfl,rfl⟩
  | succ k ih =>
    obtain ⟨a,b,h1,h2⟩:=ih
    have e:2 ^ (k+1)=2 ^ k+2 ^ k:=by rw [Nat.pow_succ]; omega
    refine ⟨a+2 ^ (k+1) * (a * a),b+2 ^ k * a+2 * (b * (2 ^ k * a)),?_,?_⟩
    · have e3:(2:Nat) ^ (k+1+2)=2 * 2 ^ (k+2):=by rw [show k+1+2=(k+2)+1 from rfl,Nat.pow_succ,Nat.mul_comm]
      have e4:(2:Nat) ^ (k+2)=4 * 2 ^ k:=by rw [Nat.pow_add]; omega
      rw [e3,e4,e,Nat.pow_add,h1,e4]
      generalize (2:Nat) ^ k=x
      grind
    · rw [e,s5_add,h1,h2]
      have e4:(2:Nat) ^ (k+2)=4 * 2 ^ k:=by rw [Nat.pow_add]; omega
      rw [e4]
      generalize (2:Nat) ^ k=x
      grind
theorem all5 (k:Nat):∀ i r:Nat,∃ d,d < 2 ^ k∧(5 ^ d * i+S5 d) % 2 ^ k=r % 2 ^ k:=by
  induction k with
  | zero=>intro i r; exact ⟨0,by decide,by rw [Nat.pow_zero,Nat.mod_one,Nat.mod_one]⟩
  | succ k ih =>
    intro i r
    obtain ⟨d,hd,e⟩:=ih i r
    obtain ⟨a,b,h1,h2⟩:=two_pow k
    have e2:(2:Nat) ^ (k+1)=2 * 2 ^ k:=by rw [Nat.pow_succ,Nat.mul_comm]
    have hx:0 < (2:Nat) ^ k:=Nat.pow_pos (by decide)
    generalize hy:5 ^ d * i+S5 d=y at e
    by_cases h:y % (2 * 2 ^ k)=r % (2 * 2 ^ k)
    · exact ⟨d,by omega,by rw [hy,e2]; exact h⟩
    · refine ⟨d+2 ^ k,by omega,?_⟩
      have e3:5 ^ (d+2 ^ k) * i+S5 (d+2 ^ k)=5 ^ (2 ^ k) * y+S5 (2 ^ k):=by
        rw [s5_add,Nat.pow_add,← hy]
        generalize 5 ^ 2 ^ k=u
        generalize 5 ^ d=v
        generalize S5 d=s
        grind
      rw [e3,h1,h2,e2]
      have e4:(2:Nat) ^ (k+2)=2 * 2 ^ k * 2:=by rw [Nat.pow_add]; omega
      rw [e4]
      generalize (2:Nat) ^ k=x at *
      have e5:(1+2 * x * 2 * a) * y+x * (2 * b+1)=(y+x)+2 * x * (2 * a * y+b):=by grind
      rw [e5,Nat.add_mul_mod_self_left]
      have q1:=Nat.mod_add_div y x
      have q2:=Nat.mod_add_div r x
      have m1:y % (2 * x)=y % x+x * (y / x % 2):=by rw [Nat.mul_comm 2 x,Nat.mod_mul]
      have m2:r % (2 * x)=r % x+x * (r / x % 2):=by rw [Nat.mul_comm 2 x,Nat.mod_mul]
      have m3:(y+x) % (2 * x)=(y+x) % x+x * ((y+x) / x % 2):=by rw [Nat.mul_comm 2 x,Nat.mod_mul]
      have q3:(y+x) % x=y % x:=Nat.add_mod_right y x
      have q4:(y+x) / x=y / x+1:=Nat.add_div_right y hx
      rw [m3,m2,q3,q4,e]
      have p1:y / x % 2≠r / x % 2:=fun z=>h (by rw [m1,m2,e,z])
      have p2:(y / x+1) % 2=r / x % 2:=by omega
      rw [p2]
def leapN (mask:Nat):Nat→Nat × Nat→Nat × Nat
  | 0,p=>p
  | n+1,p=>leapN mask n (leap mask p.1 p.2)
theorem leapN_snd (mask n:Nat):∀ p:Nat × Nat,(leapN mask n p).2=p.2 / 32 ^ n:=by
  induction n with
  | zero=>intro p; show p.2=_; rw [Nat.pow_zero,Nat.div_one]
  | succ n ih =>
    intro p
    show (leapN mask n (leap mask p.1 p.2)).2=_
    rw [ih]
    show p.2 / 32 / 32 ^ n=_
    rw [Nat.div_div_eq_div_mul,Nat.pow_succ,Nat.mul_comm]
theorem leapN_add (mask n m:Nat):∀ p,leapN mask (n+m) p=leapN mask m (leapN mask n p):=by
  induction n with
  | zero=>intro p; rw [Nat.zero_add]; rfl
  | succ n ih=>intro p; rw [Nat.succ_add]; exact ih _
theorem leap0 (mask n:Nat):∀ i,i≤mask→leapN mask n (i,0)=((5 ^ n * i+S5 n) % (mask+1),0):=by
  induction n with
  | zero=>intro i hi; show (i,0)=_; rw [Nat.pow_zero,Nat.one_mul]; show (i,0)=((i+0) % (mask+1),0); rw [Nat.add_zero,Nat.mod_eq_of_lt (by omega)]
  | succ n ih =>
    intro i hi
    show leapN mask n (leap mask i 0)=_
    have e:leap mask i 0=((i * 5+1) % (mask+1),0):=rfl
    rw [e,ih _ (by have:=Nat.mod_lt (i * 5+1) (show 0 < mask+1 by omega); omega)]
    congr 1
    have:∀ x y z M:Nat,(x * (y % M)+z) % M=(x * y+z) % M:=fun x y z M=>by
      rw [Nat.add_mod,Nat.mul_mod,Nat.mod_mod,← Nat.mul_mod,← Nat.add_mod]
    rw [this]
    congr 1
    have e1:S5 (n+1)=5 ^ n+S5 n:=by
      have:=s5_pow n
      show 5 * S5 n+1=_
      omega
    rw [e1,Nat.pow_succ]
    generalize 5 ^ n=u
    generalize S5 n=s
    grind
theorem leaps_all {k mask:Nat} (hm:mask+1=2 ^ k) {i p r:Nat} (hp:p < 2 ^ 64) (hr:r≤mask):∃ n,1≤n∧n≤mask+14∧(leapN mask n (i,p)).1=r:=by
  have h13:(leapN mask 13 (i,p)).2=0:=by
    rw [leapN_snd]
    exact Nat.div_eq_of_lt (by show p < 32 ^ 13; omega)
  have hi:(leapN mask 13 (i,p)).1≤mask:=by
    have e:leapN mask 13 (i,p)=leap mask (leapN mask 12 (i,p)).1 (leapN mask 12 (i,p)).2:=leapN_add mask 12 1 _
    rw [e]
    have:=Nat.mod_lt ((leapN mask 12 (i,p)).1 * 5+1+(leapN mask 12 (i,p)).2 / 32) (show 0 < mask+1 by omega)
    show _ % (mask+1)≤mask
    omega
  generalize hq:leapN mask 13 (i,p)=q at h13 hi
  obtain ⟨d,hd,e⟩:=all5 k q.1 r
  refine ⟨13+d,by omega,by omega,?_⟩
  rw [leapN_add,hq,show q=(q.1,0) from Prod.ext rfl h13,leap0 _ _ _ hi]
  show (5 ^ d * q.1+S5 d) % (mask+1)=r
  rw [hm,e,Nat.mod_eq_of_lt (by omega)]
def adv (t:SetTable):Nat→Probe→Probe
  | 0,p=>p
  | d+1,p=>adv t d (t.advance p)
theorem adv_add (t:SetTable) (d e:Nat):∀ p,adv t (d+e) p=adv t e (adv t d p):=by
  induction d with
  | zero=>intro p; rw [Nat.zero_add]; rfl
  | succ d ih=>intro p; rw [Nat.succ_add]; exact ih _
theorem run_le (mask i:Nat):runEnd mask i - i≤9:=by
  unfold runEnd
  split <;> omega
theorem adv_run (t:SetTable):∀ (m:Nat) (q:Probe),q.more=m→(adv t m q).more=0∧(adv t m q).i=q.i∧(adv t m q).perturb=q.perturb:=by
  intro m
  induction m with
  | zero=>intro q h; exact ⟨h,rfl,rfl⟩
  | succ m ih =>
    intro q h
    have e:t.advance q={ q with j:=q.j+1,more:=q.more - 1 }:=by
      unfold SetTable.advance
      rw [if_pos (by omega)]
    show (adv t m (t.advance q)).more=0∧_
    obtain ⟨a,b,c⟩:=ih (t.advance q) (by rw [e]; show q.more - 1=m; omega)
    rw [e] at b c
    exact ⟨a,by show (adv t m (t.advance q)).i=_; rw [e]; exact b,by show (adv t m (t.advance q)).perturb=_; rw [e]; exact c⟩
theorem reach (t:SetTable):∀ (n:Nat) (q:Probe),q.more≤9→∃ d,d≤10 * (n+1)∧(adv t d q).j=(leapN t.mask (n+1) (q.i,q.perturb)).1∧(adv t d q).i=(leapN t.mask (n+1) (q.i,q.perturb)).1∧(adv t d q).perturb=(leapN t.mask (n+1) (q.i,q.perturb)).2∧(adv t d q).more≤9:=by
  intro n
  induction n with
  | zero =>
    intro q hq
    obtain ⟨a,b,c⟩:=adv_run t q.more q rfl
    refine ⟨q.more+1,by omega,?_⟩
    have e:adv t (q.more+1) q=t.advance (adv t q.more q):=adv_add t q.more 1 q
    have e2:t.advance (adv t q.more q)={ adv t q.more q with j:=(leap t.mask q.i q.perturb).1,more:=runEnd t.mask (leap t.mask q.i q.perturb).1 - (leap t.mask q.i q.perturb).1,i:=(leap t.mask q.i q.perturb).1,perturb:=(leap t.mask q.i q.perturb).2 }:=by
      unfold SetTable.advance
      rw [if_neg (by omega),b,c]
    rw [e,e2]
    exact ⟨rfl,rfl,rfl,run_le _ _⟩
  | succ n ih =>
    intro q hq
    obtain ⟨d,hd,h1,h2,h3,h4⟩:=ih q hq
    obtain ⟨a,b,c⟩:=adv_run t (adv t d q).more (adv t d q) rfl
    refine ⟨d+((adv t d q).more+1),by omega,?_⟩
    have e:adv t (d+((adv t d q).more+1)) q=t.advance (adv t (adv t d q).more (adv t d q)):=by rw [adv_add,adv_add]; rfl
    have e3:leapN t.mask (n+1+1) (q.i,q.perturb)=leap t.mask (adv t d q).i (adv t d q).perturb:=by
      rw [leapN_add _ (n+1) 1,h2,h3]
      rfl
    have e2:t.advance (adv t (adv t d q).more (adv t d q))={ adv t (adv t d q).more (adv t d q) with j:=(leap t.mask (adv t d q).i (adv t d q).perturb).1,more:=runEnd t.mask (leap t.mask (adv t d q).i (adv t d q).perturb).1 - (leap t.mask (adv t d q).i (adv t d q).perturb).1,i:=(leap t.mask (adv t d q).i (adv t d q).perturb).1,perturb:=(leap t.mask (adv t d q).i (adv t d q).perturb).2 }:=by
      unfold SetTable.advance
      rw [if_neg (by omega),b,c]
    rw [e,e2,e3]
    exact ⟨rfl,rfl,rfl,run_le _ _⟩
theorem meets {k:Nat} {t:SetTable} (hm:t.mask+1=2 ^ k) {q:Probe} (hq:q.more≤9) (hp:q.perturb < 2 ^ 64) {r:Nat} (hr:r≤t.mask):∃ d,d≤10 * (t.mask+14)∧(adv t d q).j=r:=by
  obtain ⟨n,h1,h2,h3⟩:=leaps_all (mask:=t.mask) hm (i:=q.i) hp hr
  obtain ⟨m,rfl⟩:∃ m,n=m+1:=⟨n - 1,by omega⟩
  obtain ⟨d,hd,e,_⟩:=reach t m q hq
  exact ⟨d,by omega,by rw [e,h3]⟩
def Dist (t:SetTable) (q:Probe) (d:Nat):Prop:=t.slot (adv t d q).j=.empty∧∀ e < d,t.slot (adv t e q).j≠.empty
theorem dist_ex {t:SetTable} {q:Probe}:∀ (d:Nat),t.slot (adv t d q).j=.empty→∃ e,e≤d∧Dist t q e:=by
  intro d
  induction d using Nat.strongRecOn with
  | ind d ih =>
    intro h
    by_cases z:∃ e,e < d∧t.slot (adv t e q).j=.empty
    · obtain ⟨e,he,h2⟩:=z
      obtain ⟨e',h3,h4⟩:=ih e he h2
      exact ⟨e',by omega,h4⟩
    · exact ⟨d,Nat.le_refl _,h,fun e he h2=>z ⟨e,he,h2⟩⟩
theorem Dist.next {t:SetTable} {q:Probe} {d:Nat} (h:Dist t q (d+1)):Dist t (t.advance q) d:=⟨h.1,fun e he=>h.2 (e+1) (by omega)⟩
theorem probe_go {t:SetTable} (hd:t.dummies = #[]) {hashAt:Nat→Int} {h:Int}:∀ (d fuel:Nat) (q:Probe),Dist t q d→d < fuel →
    (SetTable.probe.go t hashAt h fuel q=some (.empty (adv t d q).j q.dummy))∨∃ e i,e < d∧t.slot (adv t e q).j=.live i∧hashAt i=h∧SetTable.probe.go t hashAt h fuel q=some (.candidate (adv t e q).j i (t.advance (adv t e q))):=by
  intro d
  induction d with
  | zero =>
    intro fuel q h hf
    obtain ⟨fuel,rfl⟩:∃ f,fuel=f+1:=⟨fuel - 1,by omega⟩
    refine .inl ?_
    unfold SetTable.probe.go
    have:t.slot q.j=.empty:=h.1
    rw [this]
    rfl
  | succ d ih =>
    intro fuel q hD hf
    obtain ⟨fuel,rfl⟩:∃ f,fuel=f+1:=⟨fuel - 1,by omega⟩
    have hne:t.slot q.j≠.empty:=hD.2 0 (by omega)
    cases hs:t.slot q.j with
    | empty=>exact absurd hs hne
    | dummy =>
      exfalso
      unfold SetTable.slot at hs
      simp only at hs
      split at hs
      · cases hs
      · split at hs
        · rename_i h2
          unfold SetTable.has at h2
          rw [hd] at h2
          simp at h2
        · cases hs
    | live i =>
      by_cases hh:hashAt i=h
      · refine .inr ⟨0,i,by omega,hs,hh,?_⟩
        unfold SetTable.probe.go
        rw [hs]
        simp only [hh,beq_self_eq_true,if_true]
        rfl
      · have e0:SetTable.probe.go t hashAt h (fuel+1) q=SetTable.probe.go t hashAt h fuel (t.advance q):=by
          rw [SetTable.probe.go]
          rw [hs]
          simp only
          rw [if_neg (by simpa using hh)]
        have hdum:(t.advance q).dummy=q.dummy:=by
          unfold SetTable.advance
          split <;> rfl
        rw [e0]
        rcases ih fuel (t.advance q) hD.next (by omega) with h1 | ⟨e,i',h1,h2,h3,h4⟩
        · exact .inl (by rw [h1,hdum]; rfl)
        · exact .inr ⟨e+1,i',by omega,h2,h3,h4⟩
end ST
set_option Elab.async false
set_option linter.all false
set_option maxRecDepth 100000
namespace ST
open PySem PySem.SetTable
def Up (xs:Array Nat):Prop:=xs.toList.Pairwise (· < ·)
theorem Up.lt {xs:Array Nat} (h:Up xs) {i k a b:Nat} (hik:i < k) (ha:xs[i]?=some a) (hb:xs[k]?=some b):a < b:=by
  rw [← Array.getElem?_toList] at ha hb
  obtain ⟨h1,e1⟩:=List.getElem?_eq_some_iff.mp ha
  obtain ⟨h2,e2⟩:=List.getElem?_eq_some_iff.mp hb
  have:=List.pairwise_iff_getElem.mp h i k h1 h2 hik
  rw [e1,e2] at this
  exact this
theorem Up.nil:Up #[]:=List.Pairwise.nil
theorem below_go {xs:Array Nat} {j:Nat} (h:Up xs):∀ (fuel lo hi:Nat),hi≤xs.size→lo≤hi→hi - lo≤fuel→(∀ i v,i < lo→xs[i]?=some v→v < j)→(∀ i v,hi≤i→xs[i]?=some v→j≤v) →
    SetTable.below.go xs j fuel lo hi≤xs.size∧(∀ i v,i < SetTable.below.go xs j fuel lo hi→xs[i]?=some v→v < j)∧(∀ i v,SetTable.below.go xs j fuel lo hi≤i→xs[i]?=some v→j≤v):=by
  intro fuel
  induction fuel with
  | zero =>
    intro lo hi h1 h2 h3 h4 h5
    unfold SetTable.below.go
    exact ⟨by omega,h4,fun i v hi'=>h5 i v (by omega)⟩
  | succ fuel ih =>
    intro lo hi h1 h2 h3 h4 h5
    unfold SetTable.below.go
    by_cases hl:lo < hi
    · rw [if_pos hl]
      dsimp only
      have hm:(lo+hi) / 2 < xs.size:=by omega
      have hg:xs[(lo+hi) / 2]?=some (xs.getD ((lo+hi) / 2) j):=by
        rw [Array.getD_eq_getD_getElem?,Array.getElem?_eq_getElem hm]
        rfl
      generalize xs.getD ((lo+hi) / 2) j=m at hg ⊢
      by_cases hq:m < j
      · rw [if_pos hq]
        refine ih _ _ h1 (by omega) (by omega) (fun i v hi' hv=>?_) h5
        rcases Nat.lt_or_ge i ((lo+hi) / 2) with z | z
        · exact Nat.lt_trans (h.lt z hv hg) hq
        · obtain rfl:i=(lo+hi) / 2:=by omega
          rw [hg] at hv
          cases hv
          exact hq
      · rw [if_neg hq]
        refine ih _ _ (by omega) (by omega) (by omega) h4 fun i v hi' hv=>?_
        rcases Nat.lt_or_ge ((lo+hi) / 2) i with z | z
        · have:=h.lt z hg hv
          omega
        · obtain rfl:i=(lo+hi) / 2:=by omega
          rw [hg] at hv
          cases hv
          omega
    · rw [if_neg hl]
      exact ⟨by omega,h4,fun i v hi'=>h5 i v (by omega)⟩
theorem below_spec {xs:Array Nat} {j:Nat} (h:Up xs):below xs j≤xs.size∧(∀ i v,i < below xs j→xs[i]?=some v→v < j)∧(∀ i v,below xs j≤i→xs[i]?=some v→j≤v):=by
  unfold SetTable.below
  refine below_go h _ _ _ (Nat.le_refl _) (Nat.zero_le _) (by omega) (fun i v hi=>absurd hi (Nat.not_lt_zero _)) fun i v hi hv=>?_
  rw [Array.getElem?_eq_none hi] at hv
  cases hv
theorem below_at {xs:Array Nat} {j i:Nat} (h:Up xs) (hi:i≤xs.size) (h1:∀ k v,k < i→xs[k]?=some v→v < j) (h2:∀ k v,i≤k→xs[k]?=some v→j≤v):below xs j=i:=by
  obtain ⟨a,b,c⟩:=below_spec (j:=j) h
  rcases Nat.lt_trichotomy (below xs j) i with z | z | z
  · have e:=Array.getElem?_eq_getElem (xs:=xs) (i:=below xs j) (by omega)
    have:=h1 _ _ z e
    have:=c _ _ (Nat.le_refl _) e
    omega
  · exact z
  · have e:=Array.getElem?_eq_getElem (xs:=xs) (i:=i) (by omega)
    have:=h2 _ _ (Nat.le_refl _) e
    have:=b _ _ z e
    omega
theorem below_zero {xs:Array Nat} (h:Up xs):below xs 0=0:=below_at h (Nat.zero_le _) (fun k v hk=>absurd hk (Nat.not_lt_zero _)) fun _ _ _ _=>Nat.zero_le _
theorem below_next {xs:Array Nat} {i v:Nat} (h:Up xs) (hv:xs[i]?=some v):below xs (v+1)=i+1:=by
  have hs:i < xs.size:=by
    rcases Nat.lt_or_ge i xs.size with z | z
    · exact z
    · rw [Array.getElem?_eq_none z] at hv
      cases hv
  refine below_at h hs (fun k u hk hu=>?_) fun k u hk hu=>h.lt hk hv hu
  rcases Nat.lt_or_ge k i with z | z
  · exact Nat.lt_succ_of_lt (h.lt z hu hv)
  · obtain rfl:k=i:=by omega
    rw [hv] at hu
    cases hu
    exact Nat.lt_succ_self _
theorem insert_list {α:Type} (xs:Array α) (p:Nat) (x:α):(SetTable.insertAt xs p x).toList=xs.toList.take p++x :: xs.toList.drop p:=by
  unfold SetTable.insertAt
  rw [Array.toList_append,Array.toList_push,Array.toList_extract,Array.toList_extract,List.extract_eq_take_drop,List.extract_eq_take_drop]
  have e:(xs.toList.drop p).take (xs.size - p)=xs.toList.drop p:=List.take_of_length_le (by rw [List.length_drop,Array.length_toList]; omega)
  rw [e,List.drop_zero,Nat.sub_zero,List.append_assoc]
  rfl
theorem insert_up {xs:Array Nat} {j:Nat} (h:Up xs) (hn:xs[below xs j]?≠some j):Up (SetTable.insertAt xs (below xs j) j):=by
  obtain ⟨a,b,c⟩:=below_spec (j:=j) h
  have h0:=h
  unfold Up at h0 ⊢
  rw [insert_list]
  rw [← List.take_append_drop (below xs j) xs.toList] at h0
  obtain ⟨p1,p2,p3⟩:=List.pairwise_append.mp h0
  have l1:∀ x∈xs.toList.take (below xs j),x < j:=fun x hx=>by
    obtain ⟨i,hi,e⟩:=List.mem_iff_getElem.mp hx
    rw [List.length_take] at hi
    rw [List.getElem_take] at e
    exact b i x (by omega) (by rw [← Array.getElem?_toList]; exact List.getElem?_eq_some_iff.mpr ⟨by omega,e⟩)
  have l2:∀ x∈xs.toList.drop (below xs j),j < x:=fun x hx=>by
    obtain ⟨i,hi,e⟩:=List.mem_iff_getElem.mp hx
    rw [List.length_drop] at hi
    rw [List.getElem_drop] at e
    have q:xs[below xs j+i]?=some x:=by rw [← Array.getElem?_toList]; exact List.getElem?_eq_some_iff.mpr ⟨by omega,e⟩
    have:=c _ _ (Nat.le_add_right _ _) q
    rcases Nat.lt_or_ge j x with z | z
    · exact z
    · exfalso
      obtain rfl:x=j:=by omega
      cases i with
      | zero=>exact hn q
      | succ i =>
        have e2:=Array.getElem?_eq_getElem (xs:=xs) (i:=below xs x) (by rw [Array.length_toList] at hi; omega)
        have:=h.lt (by omega) e2 q
        have:=c _ _ (Nat.le_refl _) e2
        omega
  refine List.pairwise_append.mpr ⟨p1,List.pairwise_cons.mpr ⟨l2,p2⟩,fun x hx y hy=>?_⟩
  rcases List.mem_cons.mp hy with rfl | hy
  · exact l1 x hx
  · exact p3 x hx y hy
theorem slot_empty {t:SetTable} {j:Nat} (h:t.slot j=.empty):t.place[below t.place j]?≠some j:=by
  intro e
  unfold SetTable.slot at h
  dsimp only at h
  rw [e] at h
  simp at h
theorem live_up (N:Nat) (f:Nat→Option Nat):Up (((List.range N).filterMap fun j=>(f j).map (j,·)).map (·.1)).toArray:=by
  show List.Pairwise (· < ·) (((List.range N).filterMap fun j=>(f j).map (j,·)).map (·.1))
  rw [List.map_filterMap,List.pairwise_filterMap]
  refine List.Pairwise.imp ?_ List.pairwise_lt_range
  intro a b hab x hx y hy
  cases ha:f a <;> rw [ha] at hx <;> simp at hx
  cases hb:f b <;> rw [hb] at hy <;> simp at hy
  omega
end ST
set_option Elab.async false
set_option linter.all false
set_option maxRecDepth 100000
namespace ST
open PySem PySem.SetTable
theorem holes:∀ (N:Nat) (l:List Nat),(∀ r,r < N→r∈l)→N≤l.length:=by
  intro N
  induction N with
  | zero=>intro l _; exact Nat.zero_le _
  | succ N ih =>
    intro l h
    have h1:=h N (by omega)
    have:=ih (l.erase N) fun r hr=>(List.mem_erase_of_ne (by omega)).mpr (h r (by omega))
    rw [List.length_erase_of_mem h1] at this
    have:=List.length_pos_of_mem h1
    omega
theorem hole {N:Nat} {l:List Nat} (h:l.length < N):∃ r,r < N∧r ∉ l:=by
  by_cases z:∃ r,r < N∧r ∉ l
  · exact z
  · have:=holes N l fun r hr=>by
      by_cases q:r∈l
      · exact q
      · exact absurd ⟨r,hr,q⟩ z
    omega
structure TOk (t:SetTable) (n:Nat):Prop where
  k:∃ k,t.mask+1=2 ^ k
  d:t.dummies = #[]
  sz:t.place.size=n
  room:n≤t.mask
  o:t.mask % 2=1
  up:Up t.place
theorem TOk.empty {t:SetTable} {n:Nat} (h:TOk t n):∃ r,r≤t.mask∧t.slot r=.empty:=by
  obtain ⟨r,hr,hn⟩:=hole (N:=t.mask+1) (l:=t.place.toList) (by rw [Array.length_toList,h.sz]; have:=h.room; omega)
  refine ⟨r,by omega,?_⟩
  unfold SetTable.slot
  simp only
  rw [if_neg,if_neg]
  · unfold SetTable.has
    rw [h.d]
    simp
  · intro z
    refine hn ?_
    have z:=eq_of_beq z
    rw [← Array.getElem?_toList] at z
    exact List.mem_of_getElem? z
theorem TOk.dist {t:SetTable} {n:Nat} (h:TOk t n) {q:Probe} (hq:q.more≤9) (hp:q.perturb < 2 ^ 64):∃ d,d≤10 * (t.mask+14)∧Dist t q d:=by
  obtain ⟨k,hk⟩:=h.k
  obtain ⟨r,hr,he⟩:=h.empty
  obtain ⟨d,hd,e⟩:=meets hk hq hp hr
  obtain ⟨e',h1,h2⟩:=dist_ex d (by rw [e]; exact he)
  exact ⟨e',by omega,h2⟩
theorem start_ok (t:SetTable) (h:Int):(t.probeStart h).more≤9∧(t.probeStart h).perturb < 2 ^ 64∧(t.probeStart h).dummy=none:=by
  refine ⟨run_le _ _,?_,rfl⟩
  show bits h < 2 ^ 64
  unfold bits
  have h1:=Int.emod_nonneg h (b:=(2 ^ 64:Int)) (by decide)
  have h2:=Int.emod_lt_of_pos h (b:=(2 ^ 64:Int)) (by decide)
  omega
def vals (N:Nat) (owner:Array (Option Nat)):List Nat:=(List.range N).filterMap fun j=>owner.getD j none
theorem free_some {mask:Nat} {owner:Array (Option Nat)}:∀ (n fuel i p:Nat),n < fuel→(owner.getD (leapN mask n (i,p)).1 (some 0))=none→∃ j,SetTable.layClean.free mask owner fuel i p=some j∧owner.getD j (some 0)=none:=by
  intro n
  induction n with
  | zero =>
    intro fuel i p hf he
    obtain ⟨fuel,rfl⟩:∃ f,fuel=f+1:=⟨fuel - 1,by omega⟩
    unfold SetTable.layClean.free
    cases hq:(List.range (runEnd mask i+1 - i)).find? fun k=>(owner.getD (i+k) (some 0)).isNone with
    | some k =>
      refine ⟨i+k,rfl,?_⟩
      have:=List.find?_some hq
      simpa using this
    | none =>
      exfalso
      have h0:=List.find?_eq_none.mp hq 0 (List.mem_range.mpr (by unfold runEnd; split <;> omega))
      have he:owner.getD i (some 0)=none:=he
      refine h0 ?_
      show (owner.getD (i+0) (some 0)).isNone=true
      rw [Nat.add_zero,he]
      rfl
  | succ n ih =>
    intro fuel i p hf he
    obtain ⟨fuel,rfl⟩:∃ f,fuel=f+1:=⟨fuel - 1,by omega⟩
    unfold SetTable.layClean.free
    cases hq:(List.range (runEnd mask i+1 - i)).find? fun k=>(owner.getD (i+k) (some 0)).isNone with
    | some k =>
      refine ⟨i+k,rfl,?_⟩
      have:=List.find?_some hq
      simpa using this
    | none=>exact ih fuel _ _ (by omega) he
theorem vals_put {N j m:Nat} {owner:Array (Option Nat)} (hs:owner.size=N) (hj:owner.getD j (some 0)=none):(vals N (owner.setIfInBounds j (some m))).Perm (m :: vals N owner):=by
  have hlt:j < N:=by
    rw [← hs]
    rcases Nat.lt_or_ge j owner.size with h | h
    · exact h
    · rw [Array.getD_eq_getD_getElem?,Array.getElem?_eq_none h] at hj
      cases hj
  have hjn:owner.getD j none=none:=by
    rw [Array.getD_eq_getD_getElem?,Array.getElem?_eq_getElem (by omega)] at hj ⊢
    exact hj
  have hat:(owner.setIfInBounds j (some m)).getD j none=some m:=by
    rw [Array.getD_eq_getD_getElem?,Array.getElem?_setIfInBounds,if_pos rfl,if_pos (by omega)]
    rfl
  have hne:∀ i,i≠j→(owner.setIfInBounds j (some m)).getD i none=owner.getD i none:=fun i hi=>by
    rw [Array.getD_eq_getD_getElem?,Array.getD_eq_getD_getElem?,Array.getElem?_setIfInBounds,if_neg (by omega)]
  obtain ⟨r,rfl⟩:∃ r,N=j+(r+1):=⟨N - j - 1,by omega⟩
  have fc:∀ {f g:Nat→Option Nat} {l:List Nat},(∀ x∈l,f x=g x)→l.filterMap f=l.filterMap g:=fun {f g l} h=>by
    induction l with
    | nil=>rfl
    | cons x l ih=>rw [List.filterMap_cons,List.filterMap_cons,h x List.mem_cons_self,ih fun y hy=>h y (List.mem_cons_of_mem _ hy)]
  have e:List.range (j+(r+1))=List.range j++j :: (List.range r).map fun x=>j+(x+1):=by
    rw [List.range_add,List.range_succ_eq_map,List.map_cons,List.map_map]
    rfl
  unfold vals
  rw [e,List.filterMap_append,List.filterMap_append,List.filterMap_cons,List.filterMap_cons,hat,hjn]
  rw [fc (g:=fun i=>owner.getD i none) fun x hx=>hne x (by have:=List.mem_range.mp hx; omega)]
  rw [fc (f:=fun i=>(owner.setIfInBounds j (some m)).getD i none) (g:=fun i=>owner.getD i none) (l:=(List.range r).map fun x=>j+(x+1)) fun x hx=>by
    obtain ⟨y,_,rfl⟩:=List.mem_map.mp hx
    exact hne _ (by omega)]
  exact List.perm_middle
theorem vals_new (N:Nat):vals N (Array.replicate N none)=[]:=by
  unfold vals
  rw [List.filterMap_eq_nil_iff]
  intro j hj
  rw [Array.getD_eq_getD_getElem?,Array.getElem?_replicate]
  split <;> rfl
theorem some_free {mask:Nat} {owner:Array (Option Nat)} (hs:owner.size=mask+1) (h:(vals (mask+1) owner).length≤mask):∃ r,r≤mask∧owner.getD r (some 0)=none:=by
  by_cases z:∃ r,r≤mask∧owner.getD r (some 0)=none
  · exact z
  · exfalso
    have:(vals (mask+1) owner).length=mask+1:=by
      unfold vals
      have:∀ l:List Nat,(∀ x∈l,x≤mask)→(l.filterMap fun j=>owner.getD j none).length=l.length:=fun l hl=>by
        induction l with
        | nil=>rfl
        | cons x l ih =>
          have hx:=hl x List.mem_cons_self
          have hv:∃ v,owner.getD x none=some v:=by
            rw [Array.getD_eq_getD_getElem?,Array.getElem?_eq_getElem (by omega)]
            cases q:owner[x] with
            | none=>exact absurd ⟨x,hx,by rw [Array.getD_eq_getD_getElem?,Array.getElem?_eq_getElem (by omega),q]; rfl⟩ z
            | some v=>exact ⟨v,rfl⟩
          obtain ⟨v,hv⟩:=hv
          rw [List.filterMap_cons,hv]
          show (l.filterMap _).length+1=l.length+1
          rw [ih fun y hy=>hl y (List.mem_cons_of_mem _ hy)]
      rw [this _ fun x hx=>by have:=List.mem_range.mp hx; omega,List.length_range]
    omega
theorem lay_fold {mask k:Nat} (hm:mask+1=2 ^ k):∀ (hs:List Int) (owner:Array (Option Nat)) (m:Nat),owner.size=mask+1→(vals (mask+1) owner).Perm (List.range m)→m+hs.length≤mask →
    ∃ owner':Array (Option Nat),(hs.foldl (fun (acc:Option (Array (Option Nat) × Nat)) h=>do
      let (owner,k) ← acc
      let j ← SetTable.layClean.free mask owner (turns mask) (bits h % (mask+1)) (bits h)
      pure (owner.setIfInBounds j (some k),k+1)) (some (owner,m)))=some (owner',m+hs.length)∧owner'.size=mask+1∧(vals (mask+1) owner').Perm (List.range (m+hs.length)):=by
  intro hs
  induction hs with
  | nil=>intro owner m h1 h2 _; exact ⟨owner,rfl,h1,h2⟩
  | cons h hs ih =>
    intro owner m h1 h2 h3
    rw [List.length_cons] at h3
    obtain ⟨r,hr,he⟩:=some_free h1 (by rw [h2.length_eq,List.length_range]; omega)
    have hb:bits h < 2 ^ 64:=(start_ok (SetTable.fresh 0 0 true) h).2.1
    obtain ⟨n,_,hn,e⟩:=leaps_all hm (i:=bits h % (mask+1)) hb hr
    obtain ⟨j,hj1,hj2⟩:=free_some n (turns mask) (bits h % (mask+1)) (bits h) (by unfold turns; omega) (by rw [e]; exact he)
    have hp:(vals (mask+1) (owner.setIfInBounds j (some m))).Perm (List.range (m+1)):=by
      refine (vals_put h1 hj2).trans ?_
      rw [List.range_succ]
      exact (h2.cons m).trans (List.perm_append_singleton m (List.range m)).symm
    obtain ⟨o',q1,q2,q3⟩:=ih (owner.setIfInBounds j (some m)) (m+1) (by rw [Array.size_setIfInBounds]; exact h1) hp (by omega)
    refine ⟨o',?_,q2,?_⟩
    · rw [List.foldl_cons,List.length_cons,show m+(hs.length+1)=m+1+hs.length by omega,← q1]
      congr 1
      show (SetTable.layClean.free mask owner (turns mask) (bits h % (mask+1)) (bits h)).bind _=_
      rw [hj1]
      rfl
    · rw [List.length_cons,show m+(hs.length+1)=m+1+hs.length by omega]
      exact q3
theorem laid_ok {mask k finger moves:Nat} {led plain:Bool} {hashes:Array Int} (hm:mask+1=2 ^ k) (ho:mask % 2=1) (hn:hashes.size≤mask):∃ (t:SetTable) (order:Array Nat),SetTable.laid mask finger moves led plain hashes=some (t,order)∧TOk t hashes.size∧order.toList.Perm (List.range hashes.size)∧t.mask=mask∧t.plain=plain∧t.led=led:=by
  obtain ⟨o',h1,h2,h3⟩:=lay_fold hm hashes.toList (Array.replicate (mask+1) none) 0 (Array.size_replicate ..) (by rw [vals_new]; exact List.Perm.refl _) (by rw [Array.length_toList]; omega)
  rw [Nat.zero_add,Array.length_toList] at h1 h3
  have hl:SetTable.layClean mask hashes=some o':=by
    unfold SetTable.layClean
    rw [← Array.foldl_toList,h1]
    rfl
  have hv:(((List.range (mask+1)).filterMap fun j=>(o'.getD j none).map (j,·)).map (·.2))=vals (mask+1) o':=by
    unfold vals
    rw [List.map_filterMap]
    congr 1
    funext j
    cases o'.getD j none <;> rfl
  have hlen:((List.range (mask+1)).filterMap fun j=>(o'.getD j none).map (j,·)).length=hashes.size:=by
    have:=congrArg List.length hv
    rw [List.length_map] at this
    rw [this,h3.length_eq,List.length_range]
  refine ⟨_,_,by unfold SetTable.laid; rw [hl]; rfl,⟨⟨k,hm⟩,rfl,?_,hn,ho,live_up _ _⟩,?_,rfl,rfl,rfl⟩
  · show (((List.range (mask+1)).filterMap fun j=>(o'.getD j none).map (j,·)).map (·.1)).toArray.size=_
    rw [List.size_toArray,List.length_map,hlen]
  · show (((List.range (mask+1)).filterMap fun j=>(o'.getD j none).map (j,·)).map (·.2)).toArray.toList.Perm _
    rw [List.toList_toArray,hv]
    exact h3
theorem size_go:∀ (fuel a n:Nat),∃ k,SetTable.sizeAbove.go n fuel (2 ^ a)=2 ^ k∧a≤k∧(n < 2 ^ (a+fuel)→n < 2 ^ k)∧(k=a∨2 ^ k≤2 * n):=by
  intro fuel
  induction fuel with
  | zero=>intro a n; exact ⟨a,rfl,Nat.le_refl _,fun h=>h,.inl rfl⟩
  | succ fuel ih =>
    intro a n
    unfold SetTable.sizeAbove.go
    by_cases h:2 ^ a≤n
    · rw [if_pos h,show 2 ^ a * 2=2 ^ (a+1) from (Nat.pow_succ ..).symm]
      obtain ⟨k,e,h1,h2,h3⟩:=ih (a+1) n
      refine ⟨k,e,by omega,fun z=>h2 (by rw [show a+1+fuel=a+(fuel+1) by omega]; exact z),?_⟩
      rcases h3 with h3 | h3
      · refine .inr ?_
        rw [h3,Nat.pow_succ]
        omega
      · exact .inr h3
    · rw [if_neg h]
      exact ⟨a,rfl,Nat.le_refl _,fun _=>by omega,.inl rfl⟩
theorem sizeAbove_ok {n:Nat} (h:n < 2 ^ 60):∃ k,SetTable.sizeAbove n=2 ^ k∧3≤k∧n < 2 ^ k∧(2 ^ k=8∨2 ^ k≤2 * n):=by
  obtain ⟨k,e,h1,h2,h3⟩:=size_go 64 3 n
  refine ⟨k,e,h1,h2 (Nat.lt_trans h (by decide)),?_⟩
  rcases h3 with rfl | h3
  · exact .inl rfl
  · exact .inr h3
theorem relaid_ok {t:SetTable} {hashes:Array Int} {wanted:Nat} (hw:wanted < 2 ^ 60) (hn:hashes.size≤wanted) (h0:1≤wanted):∃ (t':SetTable) (order:Array Nat),t.relaid hashes wanted=some (t',order)∧TOk t' hashes.size∧order.toList.Perm (List.range hashes.size)∧t'.plain=t.plain∧t'.led=t.led∧(t'.mask≤7∨t'.mask+1≤2 * wanted)∧wanted≤t'.mask:=by
  obtain ⟨k,e,h1,h2,h3⟩:=sizeAbove_ok hw
  obtain ⟨t',order,q1,q2,q3,q4,q5,q6⟩:=laid_ok (mask:=2 ^ k - 1) (k:=k) (finger:=t.finger) (moves:=t.movedTo (2 ^ k - 1)) (led:=t.led) (plain:=t.plain) (hashes:=hashes) (by omega) (by obtain ⟨r,rfl⟩:∃ r,k=r+1:=⟨k - 1,by omega⟩; rw [Nat.pow_succ] at h2 ⊢; omega) (by omega)
  refine ⟨t',order,by unfold SetTable.relaid; rw [e]; exact q1,q2,q3,q5,q6,by rw [q4]; omega,by rw [q4]; omega⟩
end ST
set_option Elab.async false
set_option linter.all false
set_option maxRecDepth 100000
set_option maxHeartbeats 4000000
namespace ST
open PySem PySem.SetTable
section
variable {prog:Program} {w:World} {A:Around} {E:Value→Shared→Prop} {s:Shared}
theorem ints_of {ks:List Int} {vs:List Value} (h:ItemsAre (intKind prog w) ks vs):∀ v∈vs,∃ i t,v=Value.int i t:=by
  induction h with
  | nil=>intro v hv; cases hv
  | cons h1 _ ih =>
    intro v hv
    rcases List.mem_cons.mp hv with rfl | hv
    · obtain ⟨t,rfl⟩:=Value.isInt_shape h1
      exact ⟨_,t,rfl⟩
    · exact ih v hv
theorem ofClass_tuple {ks:List Int} {a:Addr} {Q:Bool→Shared→Prop} (hk:IsTupleKey (intKind prog w) s.heap ks a) (h:Q false s):wpAny (model prog w) A (ofAClassStatement 8 (.ref a)) Q E s:=by
  have hT:=hk.typeIs
  obtain ⟨o,items,n,ho,_,hd,hi⟩:=hk
  unfold ofAClassStatement
  refine wpAny_bind (wpAny_typeOf hT ?_)
  simp only [beq_self_eq_true,if_true]
  refine wpAny_bind (wpAny_pure ?_)
  simp only [Bool.not_true,Bool.false_eq_true,if_false]
  refine wpAny_bind (wpAny_seqItems ho hd ?_)
  refine wpAny_bind ?_
  show wpAny _ _ (forIn items _ _) _ _ s
  rw [← Array.forIn_toList]
  refine wpAny_forIn_list _ (fun rest r s'=>r.1=none∧s'=s∧∀ v∈rest,∃ i t,v=Value.int i t) _ ?_ ?_ _ _ ⟨rfl,rfl,ints_of hi⟩
  · rintro v rest r s' ⟨hr,rfl,hall⟩
    obtain ⟨i,t,rfl⟩:=hall v List.mem_cons_self
    have e:ofAClassStatement 7 (.int i t)=pure false:=by unfold ofAClassStatement; rfl
    rw [e]
    refine wpAny_bind (wpAny_pure ?_)
    simp only [Bool.false_eq_true,if_false]
    exact wpAny_pure ⟨rfl,rfl,fun u hu'=>hall u (List.mem_cons_of_mem _ hu')⟩
  · rintro ⟨r1,r2⟩ s' ⟨hr,rfl,_⟩
    simp only at hr
    subst hr
    exact wpAny_pure h
theorem hashBy_tuple {ks:List Int} {a:Addr} {Q:Bool→Shared→Prop} (hk:IsTupleKey (intKind prog w) s.heap ks a) (h:Q true s):wpAny (model prog w) A (hashByValue 8 (.ref a)) Q E s:=by
  have hT:=hk.typeIs
  obtain ⟨o,items,n,ho,_,hd,hi⟩:=hk
  unfold hashByValue
  refine wpAny_bind (wpAny_specialOf hT F.slot_tuple_hash.lookup ?_)
  show wpAny _ _ (seqItems? (.ref a) >>= _) _ _ s
  refine wpAny_bind (wpAny_seqItems ho hd ?_)
  refine wpAny_bind ?_
  show wpAny _ _ (forIn items _ _) _ _ s
  rw [← Array.forIn_toList]
  refine wpAny_forIn_list _ (fun rest r s'=>r.1=none∧s'=s∧∀ v∈rest,∃ i t,v=Value.int i t) _ ?_ ?_ _ _ ⟨rfl,rfl,ints_of hi⟩
  · rintro v rest r s' ⟨hr,rfl,hall⟩
    obtain ⟨i,t,rfl⟩:=hall v List.mem_cons_self
    have e:hashByValue 7 (.int i t)=pure true:=by unfold hashByValue; rfl
    rw [e]
    refine wpAny_bind (wpAny_pure ?_)
    simp only [Bool.not_true,Bool.false_eq_true,if_false]
    exact wpAny_pure ⟨rfl,rfl,fun u hu'=>hall u (List.mem_cons_of_mem _ hu')⟩
  · rintro ⟨r1,r2⟩ s' ⟨hr,rfl,_⟩
    simp only at hr
    subst hr
    exact wpAny_pure h
theorem seen_not {ks:List Int} {a:Addr} {ys:List Value} {Q:Bool→Shared→Prop} (hk:IsTupleKey (intKind prog w) s.heap ks a) (hy:∀ y∈ys,∃ ls b,y=Value.ref b∧IsTupleKey (intKind prog w) s.heap ls b) (h:Q false s):wpAny (model prog w) A (searchCouldBeSeen (.ref a) ys) Q E s:=by
  unfold searchCouldBeSeen
  refine wpAny_bind ?_
  refine wpAny_forIn_list _ (fun rest r s'=>r.1=none∧s'=s∧∀ y∈rest,∃ ls b,y=Value.ref b∧IsTupleKey (intKind prog w) s.heap ls b) _ ?_ ?_ _ _ ⟨rfl,rfl,hy⟩
  · rintro v rest r s' ⟨hr,rfl,hall⟩
    obtain ⟨ls,b,rfl,hb⟩:=hall v List.mem_cons_self
    have hrest:∀ y∈rest,∃ ls b,y=Value.ref b∧IsTupleKey (intKind prog w) s'.heap ls b:=fun u hu'=>hall u (List.mem_cons_of_mem _ hu')
    dsimp only
    split
    · exact wpAny_pure ⟨rfl,rfl,hrest⟩
    · refine wpAny_bind (wpAny_eqIsQuiet_tuple hk ?_)
      simp only [Bool.not_true,Bool.false_eq_true,if_false]
      refine wpAny_bind (wpAny_eqIsQuiet_tuple hb ?_)
      simp only [Bool.not_true,Bool.false_eq_true,if_false]
      refine wpAny_bind (ofClass_tuple hk ?_)
      simp only [Bool.false_eq_true,if_false]
      refine wpAny_bind (ofClass_tuple hb ?_)
      simp only [Bool.false_eq_true,if_false]
      exact wpAny_pure ⟨rfl,rfl,hrest⟩
  · rintro ⟨r1,r2⟩ s' ⟨hr,rfl,_⟩
    simp only at hr
    subst hr
    exact wpAny_pure h
theorem adv_dummy (t:SetTable):∀ (d:Nat) (q:Probe),(adv t d q).dummy=q.dummy:=by
  intro d
  induction d with
  | zero=>intro q; rfl
  | succ d ih =>
    intro q
    show (adv t d (t.advance q)).dummy=_
    rw [ih]
    unfold SetTable.advance
    split <;> rfl
theorem Dist.shift {t:SetTable} {q:Probe}:∀ {e d:Nat},Dist t q d→e≤d→Dist t (adv t e q) (d - e)
  | 0,_,h,_=>h
  | e+1,d,h,he=>by
    obtain ⟨d,rfl⟩:∃ d',d=d' + 1:=⟨d - 1,by omega⟩
    rw [show d+1 - (e+1)=d - e by omega]
    exact Dist.shift h.next (by omega)
structure EntOf (prog:Program) (w:World) (h:Heap) (es:Array (Int × Value)) (kas:List (List Int × Addr)):Prop where
  e:es.toList=kas.map fun p=>(tupleKeyHash (intKind prog w) p.1,Value.ref p.2)
  k:∀ p∈kas,IsTupleKey (intKind prog w) h p.1 p.2
theorem slot_live {t:SetTable} {j i:Nat} (h:t.slot j=.live i):t.place[i]?=some j:=by
  unfold SetTable.slot at h
  simp only at h
  split at h
  · rename_i z
    injection h with h
    rw [← h]
    exact eq_of_beq z
  · split at h <;> cases h
theorem search_new {S a:Addr} {o:Obj} {es:Array (Int × Value)} {ep:Nat} {t:SetTable} {kas:List (List Int × Addr)} {ks:List Int} {Q:SetFound→Shared→Prop}
    (hu:A.units < cLine) (ho:s.heap.get? S=some o) (hd:o.data=.set es ep t) (hT:TOk t es.size) (hE:EntOf prog w s.heap es kas) (hk:IsTupleKey (intKind prog w) s.heap ks a) (hn:∀ p∈kas,p.1≠ks) (h:∀ j,t.slot j=.empty→Q (.free j false) s) :
    ∀ (d fuel:Nat) (q:Probe),Dist t q d→d < 10 * turns t.mask→d < fuel→q.dummy=none→∀ st:Option Probe,st.getD (t.probeStart (tupleKeyHash (intKind prog w) ks))=q→wpAny (model prog w) A (setSearchFrom S (.ref a) (tupleKeyHash (intKind prog w) ks) true fuel st) Q E s:=by
  intro d
  induction d using Nat.strongRecOn with
  | ind d ih =>
    intro fuel q hD hdt hdf hq st hst
    obtain ⟨fuel,rfl⟩:∃ f,fuel=f+1:=⟨fuel - 1,by omega⟩
    have hf:t.fits es.size=true:=by
      unfold SetTable.fits SetTable.fill
      rw [hT.d,hT.sz]
      have:=hT.room
      simp
      exact this
    unfold setSearchFrom
    refine wpAny_bind (wpAny_setState_of ho hd hf ?_)
    dsimp only
    have hg:t.gaveWay=false:=by
      unfold SetTable.gaveWay
      rw [hT.o]
      rfl
    rw [hg]
    simp only [Bool.false_eq_true,if_false]
    rw [hst]
    have key:∀ (F:Nat→Int) (met:Option Met),SetTable.probe t F (tupleKeyHash (intKind prog w) ks) q=met→met=some (.empty (adv t d q).j q.dummy)∨∃ e i,e < d∧t.slot (adv t e q).j=.live i∧met=some (.candidate (adv t e q).j i (t.advance (adv t e q))):=fun F met hF=>by
      have:=probe_go hT.d (hashAt:=F) (h:=tupleKeyHash (intKind prog w) ks) d (10 * turns t.mask) q hD hdt
      rw [show SetTable.probe.go t F (tupleKeyHash (intKind prog w) ks) (10 * turns t.mask) q=met from hF] at this
      rcases this with this | ⟨e,i,h1,h2,_,h3⟩
      · exact .inl this
      · exact .inr ⟨e,i,h1,h2,h3⟩
    generalize hF:SetTable.probe t _ (tupleKeyHash (intKind prog w) ks) q=met
    rcases key _ _ hF with k2 | ⟨e,i,he,hs,k2⟩
    · subst k2
      dsimp only
      rw [hq]
      exact wpAny_pure (h _ hD.1)
    · subst k2
      dsimp only
      have hpl:=slot_live hs
      have hi:i < es.size:=by
        rw [← hT.sz]
        rcases Nat.lt_or_ge i t.place.size with z | z
        · exact z
        · rw [Array.getElem?_eq_none z] at hpl
          cases hpl
      have hik:i < kas.length:=by
        have:=congrArg List.length hE.e
        rw [Array.length_toList,List.length_map] at this
        omega
      have hei:es[i]?=some (tupleKeyHash (intKind prog w) kas[i].1,Value.ref kas[i].2):=by
        rw [← Array.getElem?_toList,hE.e,List.getElem?_map,List.getElem?_eq_getElem hik]
        rfl
      have hki:=hE.k _ (List.getElem_mem hik)
      have hni:=hn _ (List.getElem_mem hik)
      generalize kas[i]=ka at hei hki hni
      have hseen:∀ {Q':Bool→Shared→Prop},Q' false s→wpAny (model prog w) A (searchCouldBeSeen (.ref a) ((es.filter (·.1 == tupleKeyHash (intKind prog w) ks)).toList.map (·.2))) Q' E s:=fun {Q'} q=>by
        refine seen_not hk (fun y hy=>?_) q
        obtain ⟨x,hx,rfl⟩:=List.mem_map.mp hy
        rw [Array.toList_filter] at hx
        have hx:=(List.mem_filter.mp hx).1
        rw [hE.e] at hx
        obtain ⟨p,hp,rfl⟩:=List.mem_map.mp hx
        exact ⟨p.1,p.2,rfl,hE.k p hp⟩
      have rest:wpAny (model prog w) A (do
          let some (_,y):=es[i]? | unsupported "internal:set-entry"
          let equal ← holding [y] (eqBool y (.ref a))
          let (es',_,t') ← setState S
          if true && equal then return SetFound.there none
          let some same:=t'.sameMemory t.moves t.mask | unsupported "set.changed-during-lookup:is-the-new-block-at-the-old-address"
          let still ← match (if same then t'.slot (adv t e q).j else .empty) with
            | .live i'=>match es'[i']? with
              | some (_,y')=>do pure (if ← isSame y' y then some i' else none)
              | none=>pure none
            | _=>pure none
          match still with
          | none=>rule "set.search.anew"; setSearchFrom S (.ref a) (tupleKeyHash (intKind prog w) ks) true fuel none
          | some i'=>if equal then return .there (some i') else setSearchFrom S (.ref a) (tupleKeyHash (intKind prog w) ks) true fuel (some (t.advance (adv t e q)))) Q E s:=by
        rw [hei]
        dsimp only
        refine wpAny_bind (wpAny_holding (wpAny_eqBool_tuple hu hki hk ?_))
        rw [decide_eq_false hni]
        refine wpAny_bind (wpAny_setState_of ho hd hf ?_)
        dsimp only
        simp only [Bool.and_false,Bool.false_eq_true,if_false]
        have hsm:t.sameMemory t.moves t.mask=some true:=by
          unfold SetTable.sameMemory
          rw [if_pos (beq_self_eq_true _)]
        rw [hsm]
        dsimp only
        rw [if_pos rfl,hs]
        dsimp only
        rw [hei]
        dsimp only
        refine wpAny_bind (wpAny_isSame_ref_self (wpAny_bind (wpAny_pure ?_)))
        rw [if_pos rfl]
        dsimp only
        have hnx:t.advance (adv t e q)=adv t (e+1) q:=(adv_add t e 1 q).symm
        refine ih (d - (e+1)) (by omega) fuel (adv t (e+1) q) (hD.shift (by omega)) (by omega) (by omega) (by rw [adv_dummy]; exact hq) _ ?_
        rw [hnx]
        rfl
      cases hl:t.led with
      | true =>
        simp only [Bool.not_true,Bool.false_eq_true,if_false]
        exact rest
      | false =>
        simp only [Bool.not_false,if_true]
        refine wpAny_bind (hseen ?_)
        simp only [Bool.false_eq_true,if_false]
        exact rest
end
end ST
set_option Elab.async false
set_option linter.all false
set_option maxRecDepth 100000
set_option maxHeartbeats 4000000
namespace ST
open PySem PySem.SetTable
section
variable {prog:Program} {w:World} {A:Around} {E:Value→Shared→Prop} {s:Shared}
theorem keepsT {h h':Heap} {ks:List Int} {a d:Addr} {o:Obj} {es ep t} (x:IsTupleKey (intKind prog w) h ks a) (ho:h.get? d=some o) (hd:o.data=.set es ep t) (hs:Heap.SameBut d h h'):IsTupleKey (intKind prog w) h' ks a:=by
  obtain ⟨o',items,n,ho',hc,hd',hi⟩:=x
  have hne:a≠d:=by
    rintro rfl
    obtain rfl:o'=o:=Option.some.inj (ho'.symm.trans ho)
    rw [hd] at hd'
    exact nomatch hd'
  exact ⟨o',items,n,(hs.2 a hne).trans ho',hc,hd',hi⟩
theorem perm_ex {α β:Type} {f:α→β} {xs ds:List β} (h:xs.Perm ds):∀ {l:List α},l.map f=xs→∃ ss:List α,ss.Perm l∧ds=ss.map f:=by
  induction h with
  | nil=>intro l e; exact ⟨[],by rw [List.map_eq_nil_iff.mp e],rfl⟩
  | cons x _ ih =>
    intro l e
    cases l with
    | nil=>cases e
    | cons y l =>
      rw [List.map_cons] at e
      injection e with e1 e2
      obtain ⟨ss,p,q⟩:=ih e2
      exact ⟨y :: ss,p.cons y,by rw [List.map_cons,e1,q]⟩
  | swap x y zs =>
    intro l e
    match l,e with
    | a :: b :: l,e =>
      rw [List.map_cons,List.map_cons] at e
      injection e with e1 e2
      injection e2 with e2 e3
      exact ⟨b :: a :: l,List.Perm.swap a b l,by rw [List.map_cons,List.map_cons,e1,e2,e3]⟩
  | trans _ _ ih1 ih2 =>
    intro l e
    obtain ⟨ss,p,q⟩:=ih1 e
    obtain ⟨ts,p2,q2⟩:=ih2 q.symm
    exact ⟨ts,p2.trans p,q2⟩
structure TupSet (prog:Program) (w:World) (h:Heap) (S:Addr) (kas:List (List Int × Addr)):Prop where
  ex:∃ (o:Obj) (es:Array (Int × Value)) (ep:Nat) (t:SetTable) (kas':List (List Int × Addr)),h.get? S=some o∧o.ExactSet∧o.data=.set es ep t∧TOk t es.size∧es.size * 5 < t.mask * 3∧t.plain=true∧(w.params.followText "set-order" = true∨t.led=true)∧t.mask≤8000∧kas'.Perm kas∧EntOf prog w h es kas'
theorem insert_perm {α:Type} (xs:Array α) (p:Nat) (x:α):(SetTable.insertAt xs p x).toList.Perm (x :: xs.toList):=by
  unfold SetTable.insertAt
  rw [Array.toList_append,Array.toList_push,Array.toList_extract,Array.toList_extract,List.extract_eq_take_drop,List.extract_eq_take_drop]
  have e:(xs.toList.drop p).take (xs.size - p)=xs.toList.drop p:=List.take_of_length_le (by rw [List.length_drop,Array.length_toList]; omega)
  rw [e,List.drop_zero,Nat.sub_zero,List.append_assoc]
  refine (List.perm_middle (a:=x)).trans ?_
  show (x :: (List.take p xs.toList++List.drop p xs.toList)).Perm (x :: xs.toList)
  rw [List.take_append_drop]
theorem insert_size {α:Type} (xs:Array α) (p:Nat) (x:α):(SetTable.insertAt xs p x).size=xs.size+1:=by
  have:=(insert_perm xs p x).length_eq
  rw [Array.length_toList,List.length_cons,Array.length_toList] at this
  exact this
theorem add_new {S a:Addr} {kas:List (List Int × Addr)} {ks:List Int} {Q:Bool→Shared→Prop} (hu:A.units < cLine) (hS:TupSet prog w s.heap S kas) (hk:IsTupleKey (intKind prog w) s.heap ks a) (hn:∀ p∈kas,p.1≠ks) (hz:kas.length+1≤900)
    (h:∀ h',Heap.SameBut S s.heap h'→TupSet prog w h' S ((ks,a) :: kas)→Q true { s with heap:=h' }):wpAny (model prog w) A (setAddHashed S (.ref a) (tupleKeyHash (intKind prog w) ks)) Q E s:=by
  obtain ⟨o,es,ep,t,kas',ho,hex,hd,hT,hrm,hpl,hld,hmk,hp,hE⟩:=hS.ex
  have hsz:es.size=kas.length:=by
    have:=congrArg List.length hE.e
    rw [Array.length_toList,List.length_map,hp.length_eq] at this
    exact this
  have hf:t.fits es.size=true:=by
    unfold SetTable.fits SetTable.fill
    rw [hT.d,hT.sz]
    have:=hT.room
    simp
    exact this
  unfold setAddHashed setAddHashedIn
  refine wpAny_holding (wpAny_bind (wpAny_setState_of ho hd hf ?_))
  dsimp only
  have hb:byScan (.ref a) es=false:=by unfold byScan; rfl
  rw [hb]
  simp only [Bool.false_eq_true,if_false]
  obtain ⟨c1,c2,c3⟩:=start_ok t (tupleKeyHash (intKind prog w) ks)
  obtain ⟨d,hd1,hD⟩:=hT.dist c1 c2
  refine wpAny_bind (search_new hu ho hd hT hE hk (fun p hq=>hn p (hp.mem_iff.mp hq)) (fun j hje=>?_) d 100000 _ hD (by unfold turns; omega) (by omega) c3 none rfl)
  dsimp only
  refine wpAny_bind (wpAny_setState_of ho hd hf ?_)
  dsimp only
  have hput:(t.put j).1.mask=t.mask∧(t.put j).1.dummies = #[]∧(t.put j).1.place.size=es.size+1∧(t.put j).1.plain=true∧(t.put j).1.led=t.led∧Up (t.put j).1.place:=by
    refine ⟨rfl,?_,?_,hpl,rfl,insert_up hT.up (slot_empty hje)⟩
    · show (if SetTable.has t.dummies j then _ else t.dummies) = #[]
      rw [hT.d]
      rfl
    · show (SetTable.insertAt t.place _ j).size=_
      rw [insert_size,hT.sz]
  obtain ⟨m1,m2,m3,m4,m5,m6⟩:=hput
  rw [if_pos m4]
  refine wpAny_bind (hashBy_tuple hk ?_)
  rw [if_pos rfl]
  generalize (t.put j).2=p
  generalize (t.put j).1=t1 at m1 m2 m3 m4 m5 m6 ⊢
  have hs1:=insert_size es p (tupleKeyHash (intKind prog w) ks,Value.ref a)
  have hp1:=insert_perm es p (tupleKeyHash (intKind prog w) ks,Value.ref a)
  generalize SetTable.insertAt es p (tupleKeyHash (intKind prog w) ks,Value.ref a)=es1 at hs1 hp1 ⊢
  have hln:es1.size≤sizeLine:=by rw [sizeLine_eq]; omega
  refine wpAny_bind (wpAny_storeSet_of ho hd ?_ hln)
  have hg1:(s.heap.update S (Obj.putSet es1 t1)).get? S=some { o with data:=.set es1 (ep+1) t1 }:=by
    have:=Heap.get?_update_self (Obj.putSet es1 t1) ho (by rw [putSet_of es1 t1 hd]; rfl)
    rw [putSet_of es1 t1 hd] at this
    exact this
  have hsb1:=Heap.SameBut.update s.heap S (Obj.putSet es1 t1)
  have hent:∀ (h':Heap) (es2:Array (Int × Value)),Heap.SameBut S s.heap h'→es2.toList.Perm es1.toList→∃ kas2:List (List Int × Addr),kas2.Perm ((ks,a) :: kas)∧EntOf prog w h' es2 kas2:=fun h' es2 hsb hpe=>by
    have hpm:es2.toList.Perm (((ks,a) :: kas').map fun p=>(tupleKeyHash (intKind prog w) p.1,Value.ref p.2)):=by
      refine (hpe.trans hp1).trans ?_
      rw [List.map_cons,hE.e]
    obtain ⟨kas2,k1,k2⟩:=perm_ex hpm.symm rfl
    refine ⟨kas2,k1.trans (hp.cons _),k2,fun q hq=>?_⟩
    rcases List.mem_cons.mp (k1.mem_iff.mp hq) with rfl | hq
    · exact keepsT hk ho hd hsb
    · exact keepsT (hE.k q hq) ho hd hsb
  have hodd:t1.mask % 2=1:=by rw [m1]; exact hT.o
  have hpow:∃ k,t1.mask+1=2 ^ k:=by rw [m1]; exact hT.k
  have hle:es1.size≤t1.mask:=by rw [m1,hs1]; have:=hT.o; omega
  have hfl:t1.fill=es1.size:=by
    unfold SetTable.fill
    rw [m2,m3,hs1]
    rfl
  by_cases htf:t1.tooFull=true
  · rw [if_pos (by rw [htf]; rfl)]
    have hgr:SetTable.grown (es.size+1)=(es.size+1) * 4:=by
      unfold SetTable.grown
      rw [if_neg (by omega)]
    unfold setRelay
    have hf1:t1.fits es1.size=true:=by
      unfold SetTable.fits
      rw [hfl,m3,hs1]
      simp
      omega
    refine wpAny_bind (wpAny_bind (wpAny_setState_of hg1 rfl hf1 ?_))
    dsimp only
    rw [hgr]
    obtain ⟨kk,se,s3,s4,s5⟩:=sizeAbove_ok (n:=(es.size+1) * 4) (by omega)
    have hsl:¬ SetTable.sizeAbove ((es.size+1) * 4) > sizeLine:=by
      rw [se,sizeLine_eq]
      omega
    rw [if_neg hsl]
    obtain ⟨t2,order,r1,r2,r3,r4,r5,r6,r7⟩:=relaid_ok (t:=t1) (hashes:=es1.map (·.1)) (wanted:=(es.size+1) * 4) (by omega) (by rw [Array.size_map,hs1]; omega) (by omega)
    rw [Array.size_map] at r2 r3
    refine wpAny_bind ?_
    rw [r1]
    have hes2:(order.filterMap (es1[·]?)).toList.Perm es1.toList:=by
      rw [Array.toList_filterMap]
      refine (r3.filterMap _).trans ?_
      have:(List.range es1.size).filterMap (es1[·]?)=es1.toList:=PySem.W.krv_all es1
      rw [this]
    have hsz2:(order.filterMap (es1[·]?)).size=es1.size:=by
      have:=hes2.length_eq
      rw [Array.length_toList,Array.length_toList] at this
      exact this
    show wpAny (model prog w) A (if ((order.filterMap (es1[·]?)).size != es1.size)=true then _ else pure (order.filterMap (es1[·]?),t2)) _ _ _
    rw [hsz2,if_neg (by simp)]
    refine wpAny_pure ?_
    dsimp only
    generalize order.filterMap (es1[·]?)=es2 at hes2 hsz2
    refine wpAny_storeSet_of hg1 rfl ?_ (by rw [hsz2]; exact hln)
    have hg2:((s.heap.update S (Obj.putSet es1 t1)).update S (Obj.putSet es2 t2)).get? S=some { o with data:=.set es2 (ep+1+1) t2 }:=by
      have:=Heap.get?_update_self (Obj.putSet es2 t2) hg1 rfl
      exact this
    have hsb2:=hsb1.trans (Heap.SameBut.update _ S (Obj.putSet es2 t2))
    obtain ⟨kas2,k1,k2⟩:=hent _ es2 hsb2 hes2
    refine wpAny_pure (h _ hsb2 ⟨_,es2,_,t2,kas2,hg2,hex,rfl,by rw [hsz2]; exact r2,by rw [hsz2,hs1]; omega,by rw [r4]; exact m4,by rw [r5,m5]; exact hld,by omega,k1,k2⟩)
  · rw [if_neg (by simpa using htf)]
    obtain ⟨kas2,k1,k2⟩:=hent _ es1 hsb1 (List.Perm.refl _)
    have hr1:es1.size * 5 < t1.mask * 3:=by
      unfold SetTable.tooFull at htf
      rw [hfl] at htf
      simp at htf
      exact htf
    exact wpAny_pure (h _ hsb1 ⟨_,es1,_,t1,kas2,hg1,hex,rfl,⟨hpow,m2,by rw [m3,hs1],hle,hodd,m6⟩,hr1,m4,by rw [m5]; exact hld,by rw [m1]; exact hmk,k1,k2⟩)
end
end ST
set_option Elab.async false
set_option linter.all false
set_option maxRecDepth 100000
set_option maxHeartbeats 4000000
namespace SX
open PySem PySem.Spec PyProof.Rows
def lstT (val:Nat→List Int) (adr:Nat→Addr):Nat→List (List Int × Addr)
  | 0=>[]
  | i+1=>(val i,adr i) :: lstT val adr i
theorem lstT_mem {val:Nat→List Int} {adr:Nat→Addr}:∀ {i:Nat} {p:List Int × Addr},p∈lstT val adr i→∃ j,j < i∧p=(val j,adr j)
  | i+1,p,h=>by
    rcases List.mem_cons.mp h with rfl | h
    · exact ⟨i,Nat.lt_succ_self i,rfl⟩
    · obtain ⟨j,hj,e⟩:=lstT_mem h
      exact ⟨j,by omega,e⟩
theorem lstT_len {val:Nat→List Int} {adr:Nat→Addr}:∀ {i:Nat},(lstT val adr i).length=i
  | 0=>rfl
  | i+1=>by show (lstT val adr i).length+1=i+1; rw [lstT_len]
theorem tupKeep {prog:Program} {w:World} {h h':Heap} {S:Addr} {kas:List (List Int × Addr)} (x:ST.TupSet prog w h S kas) (hS:∀ o,h.get? S=some o→h'.get? S=some o) (hk:∀ p∈kas,∀ o,h.get? p.2=some o→h'.get? p.2=some o):ST.TupSet prog w h' S kas:=by
  obtain ⟨o,es,ep,t,kas',ho,a1,a2,a3,a4,a5,a5b,a6,hp,hE⟩:=x.ex
  refine ⟨o,es,ep,t,kas',hS o ho,a1,a2,a3,a4,a5,a5b,a6,hp,hE.e,fun p hq=>?_⟩
  obtain ⟨o',its,n,g,r⟩:=hE.k p hq
  exact ⟨o',its,n,hk p (hp.mem_iff.mp hq) o' g,r⟩
section
variable {prog:Program} {w:World} {A:Around} {R:Result→Shared→Prop} {I:Addr} {fp wr:List Addr} {G:Array GenState→Array GenState→Prop} {n:Nat} {P:Nat→Value→Prop} {St:Nat→Shared→Prop}
theorem fillT (W:WalksS prog w A.in1 I fp wr G n P St) (S:Addr) (nf:S ∉ fp) (val:Nat→List Int) (adr:Nat→Addr) (hv:∀ i v,P i v→v=.ref (adr i)) (hna:∀ i,i < n→adr i ∉ S :: wr) (hdis:∀ i j,i < n→j < n→val i=val j→i=j) (room:n+1≤900) (hu:A.in1.units < cLine) :
    ∀ (k i:Nat) (s:Shared),n - i=k→i≤n→St i s→(∀ j,j < n→IsTupleKey (intKind prog w) s.heap (val j) (adr j))→ST.TupSet prog w s.heap S (lstT val adr i)→(∀ s',Moved (S :: wr) G s s'→(∀ j,j < n→IsTupleKey (intKind prog w) s'.heap (val j) (adr j))→ST.TupSet prog w s'.heap S (lstT val adr n)→R (.ok (.ret .none)) s') →
      codeAny (model prog w) A (.builtin "set.update.loop" ⟨[.ref S,.ref I],[]⟩) R s:=by
  have nw:S ∉ wr:=fun z=>nf (W.sub _ z)
  have sub:∀ b∈wr,b∈S :: wr:=fun b z=>List.mem_cons_of_mem _ z
  have ha:∀ j,j < n→adr j ∉ wr:=fun j hj z=>hna j hj (List.mem_cons_of_mem _ z)
  have haS:∀ j,j < n→adr j≠S:=fun j hj z=>hna j hj (by rw [z]; exact List.mem_cons_self)
  intro k
  induction k with
  | zero =>
    intro i s ek le st hK hS q
    have e:i=n:=by omega
    subst e
    refine codeAny_builtin F.entry_set_update_loop ?_
    rw [Around.under_plainId F.plain_set_update_loop _]
    show wpAny _ A.in1 (pyNext (.ref I) >>= _) _ _ _
    refine wpAny_bind (W.done s _ _ st fun s' mv=>?_)
    show wpAny _ A.in1 (ret Value.none) _ _ _
    refine wpAny_pure (q s' (mv.mono sub) (fun j hj=>?_) (tupKeep hS (fun o e=>mv.heap S o nw e) fun p hp o e=>?_))
    · obtain ⟨o,its,m,g,r⟩:=hK j hj
      exact ⟨o,its,m,mv.heap _ o (ha j hj) g,r⟩
    · obtain ⟨j,hj,rfl⟩:=lstT_mem hp
      exact mv.heap _ o (ha j hj) e
  | succ k ih =>
    intro i s ek le st hK hS q
    have lt:i < n:=by omega
    refine codeAny_builtin F.entry_set_update_loop ?_
    rw [Around.under_plainId F.plain_set_update_loop _]
    show wpAny _ A.in1 (pyNext (.ref I) >>= _) _ _ _
    refine wpAny_bind (W.item i s _ _ lt st fun v s' hP st' mv=>?_)
    have ev:=hv i v hP
    subst ev
    have hK':∀ j,j < n→IsTupleKey (intKind prog w) s'.heap (val j) (adr j):=fun j hj=>by
      obtain ⟨o,its,m,g,r⟩:=hK j hj
      exact ⟨o,its,m,mv.heap _ o (ha j hj) g,r⟩
    have hS':ST.TupSet prog w s'.heap S (lstT val adr i):=tupKeep hS (fun o e=>mv.heap S o nw e) fun p hp o e=>by
      obtain ⟨j,hj,rfl⟩:=lstT_mem hp
      exact mv.heap _ o (ha j (by omega)) e
    show wpAny _ A.in1 (holding [.ref (adr i)] (setAdd S (.ref (adr i))) >>= _) _ _ _
    refine wpAny_bind (wpAny_holding ?_)
    unfold setAdd
    refine wpAny_holding (wpAny_bind (wpAny_pyHash_tuple hu (hK' i lt) ?_))
    refine ST.add_new (s:={ s' with toks:=s'.toks+((val i).length+1) }) hu hS' (hK' i lt) (fun p hp z=>?_) (by rw [lstT_len]; omega) fun g sb hS2=>?_
    · obtain ⟨j,hj,rfl⟩:=lstT_mem hp
      have:=hdis j i (by omega) lt z
      omega
    refine wpAny_pure ⟨plainId_quiet F.plain_set_update_loop _,ih (i+1) _ (by omega) lt (W.frame _ s' _ _ st' (Nat.le_add_right _ _) fun b hb o e=>?_) (fun j hj=>?_) hS2 fun s'' mv2 hK'' hS''=>?_⟩
    · rw [sb.2 b fun z=>nf (z ▸ hb)]
      exact e
    · obtain ⟨o,its,m,g',r⟩:=hK' j hj
      exact ⟨o,its,m,(sb.2 _ (haS j hj)).trans g',r⟩
    · refine q s'' (Moved.trans W.gtrans ((mv.mono sub).then_heap (Nat.le_add_right _ _) fun b o hb e=>?_) mv2) hK'' hS''
      rw [sb.2 b fun z=>hb (by rw [z]; exact List.mem_cons_self)]
      exact e
end
set_option maxHeartbeats 6400000 in
theorem code_set_newL {prog:Program} {w:World} {A:Around} {E:Value→Shared→Prop} {s:Shared} (a:Value) {Q₁:Value→Shared→Prop}
    (h:Q₁ (.ref s.heap.objs.size) { s with heap:=s.heap.push { cls:=.type "set",dict:=none,data:=.set #[] 0 (.fresh 0 0 (!w.params.followText "set-order")) } }) :
    codeAny (model prog w) A (.call (.builtin "set.__new__") ⟨[.type "set",a],[]⟩) (wants Q₁ E) s:=by
  refine codeAny_of_tree ?_
  show wpAny _ A.in1 (do checkBuiltinCall "set.__new__" ⟨[.type "set",a],[]⟩; again (.builtin "set.__new__" ⟨[.type "set",a],[]⟩)) _ _ s
  refine wpAny_bind (wpAny_of_eq (F.newCall_set_1 a) (wpAny_pure ⟨plainId_quiet F.plain_set_new _,codeAny_builtin F.entry_set_new ?_⟩))
  rw [Around.under_plainId F.plain_set_new _]
  unfold Builtin.«set.__new__» Builtin.Frozenset.newClass
  have hsub:=sub_set_self
  obtain ⟨hp,g,d,tk,os⟩:=s
  dsimp only
  wp_walk
  refine wpAny_askSetting (wpAny_pure ?_)
  dsimp only
  simp only [newObj]
  refine wpAny_bind (wpAny_alloc (wpAny_pure ?_))
  exact wpAny_pure h
theorem call_set_tups {prog:Program} {w:World} {A:Around} {E:Value→Shared→Prop} {s:Shared} {l:Addr} {items:Array Value} {val:Nat→List Int} {adr:Nat→Addr} {Q:Value→Shared→Prop}
    (hd:A.handled=none) (tl:s.heap.IsList l items) (hu:A.units+64 < cLine) (hv:∀ (i:Nat) (v:Value),items[i]?=some v→v=Value.ref (adr i)) (hK:∀ i,i < items.size→IsTupleKey (intKind prog w) s.heap (val i) (adr i)) (hdis:∀ i j,i < items.size→j < items.size→val i=val j→i=j) (room:items.size+1≤900)
    (q:∀ (g:Heap) (tk:Nat),ST.TupSet prog w g s.heap.objs.size (lstT val adr items.size)→(∀ b o,b < s.heap.objs.size→s.heap.get? b=some o→g.get? b=some o)→Q (.ref s.heap.objs.size) { s with heap:=g,toks:=tk }) :
    wpAny (model prog w) A (call (.type "set") [.ref l]) Q E s:=by
  obtain ⟨c,tl',hmro⟩:=PySem.F.called_set.mro
  have hmade:=PySem.F.called_set.made
  have hsub:=PySem.F.called_set.sub
  refine wpAny_call (codeAny_of_tree ?_)
  show wpAny _ _ (callAny (.type "set") _) _ _ _
  refine wpAny_pure ⟨Code.quiet_builtin _ (by decide +kernel),codeAny_builtin PySem.F.entry_type_call ?_⟩
  rw [Around.under_plain (weight_type_call_type "set" [.ref l] []) rfl]
  have h1:=PySem.F.called_set.notType
  have h2:=PySem.F.called_set.canCreate
  have hct:=PySem.F.typeCall_set_1 (.ref l)
  repeat (any_goals (first | assumption | wp_step))
  refine codeAny_mono (code_set_newL (.ref l) (E:=E) (Q₁:=fun ob s₁=>∃ led:Bool,(w.params.followText "set-order" = true∨led=true)∧ob=.ref s.heap.objs.size∧s₁={ s with heap:=s.heap.push { cls:=.type "set",dict:=none,data:=.set #[] 0 (.fresh 0 0 led) } }) ⟨_,by cases w.params.followText "set-order" <;> simp,rfl,rfl⟩) fun r s₁ hr=>?_
  cases r with
  | error e=>exact hr
  | ok fl =>
    cases fl with
    | ret ob =>
      obtain ⟨led,hled,rfl,rfl⟩:=hr
      have eS:(s.heap.push { cls:=.type "set",dict:=none,data:=.set #[] 0 (.fresh 0 0 led) }).get? s.heap.objs.size=some { cls:=.type "set",dict:=none,data:=.set #[] 0 (.fresh 0 0 led) }:=Heap.get?_push_size _ rfl
      have tS:Shared.TypeIs { s with heap:=s.heap.push { cls:=.type "set",dict:=none,data:=.set #[] 0 (.fresh 0 0 led) } } (.ref s.heap.objs.size) "set":=⟨_,eS,rfl⟩
      have hli:=PySem.F.called_set.init.lookup
      have hbi:=PySem.F.called_set.init.bind (.ref s.heap.objs.size)
      repeat (any_goals (first | assumption | wp_step))
      refine codeAny_mono (codeAny_call_builtin (R:=wants (fun r s₂=>r=.none∧∃ g tk,s₂={ s with heap:=g,toks:=tk }∧ST.TupSet prog w g s.heap.objs.size (lstT val adr items.size) ∧
          (∀ b o,b < s.heap.objs.size→s.heap.get? b=some o→g.get? b=some o)) E) PySem.F.called_set.init.plain PySem.F.entry_set_init (check_set_init_1 tS ?_)) fun r₂ s₂ hr₂=>?_
      · obtain ⟨⟨oc,od,odt,osl⟩,eol,ecl,nl,edl⟩:=tl
        simp only at ecl edl
        subst ecl
        subst edl
        have eol':(s.heap.push { cls:=.type "set",dict:=none,data:=.set #[] 0 (.fresh 0 0 led) }).get? l=some { cls:=.type "list",dict:=od,data:=.seq items nl,slots:=osl }:=Heap.get?_push_of_some _ eol
        have hsls:=PySem.F.sub_list_set
        have hslf:=PySem.F.sub_list_frozenset
        have hne:(Value.type "list" == Value.type "dict")=false:=by decide
        have tl1:(s.heap.push { cls:=.type "set",dict:=none,data:=.set #[] 0 (.fresh 0 0 led) }).IsList l items:=⟨_,eol',rfl,nl,rfl⟩
        unfold Builtin.«set.__init__» noKeywords Builtin.Frozenset.updateFrom
        generalize hPI:pyIter=PI
        wp_walk
        subst hPI
        refine wpAny_pyIter_list tl1 (wpAny_bind (wpAny_runValue ?_))
        have lS:l < s.heap.objs.size:=Heap.lt_size eol
        have hd3:A.in1.in1.in1.handled=none:=by simp [hd]
        have neI:l≠(s.heap.push { cls:=.type "set",dict:=none,data:=.set #[] 0 (.fresh 0 0 led) }).objs.size:=by
          rw [Heap.size_push]
          exact Nat.ne_of_lt (Nat.lt_succ_of_lt lS)
        have nf:s.heap.objs.size ∉ [(s.heap.push { cls:=.type "set",dict:=none,data:=.set #[] 0 (.fresh 0 0 led) }).objs.size,l]:=by
          rw [Heap.size_push]
          simp only [List.mem_cons,List.mem_singleton,List.not_mem_nil,or_false,not_or]
          exact ⟨Nat.ne_of_lt (Nat.lt_succ_self _),Nat.ne_of_gt lS⟩
        refine fillT ((Walks.list hd3 _ l neI items).toS) s.heap.objs.size nf val adr hv ?hna hdis room (by simp; omega) (items.size - 0) 0 _ (by omega) (Nat.zero_le _) ⟨⟨_,Heap.get?_push_size _ rfl,rfl,rfl⟩,tl1.push _⟩ ?hK0 ?hS0 ?hR
        case hS0 =>
          have eg:((s.heap.push { cls:=.type "set",dict:=none,data:=.set #[] 0 (.fresh 0 0 led) }).push { cls:=.type "list_iterator",data:=.fields #[.ref l,.int 0 0] }).get? s.heap.objs.size=some { cls:=.type "set",dict:=none,data:=.set #[] 0 (.fresh 0 0 led) }:=Heap.get?_push_of_some _ eS
          exact ⟨_,#[],0,.fresh 0 0 led,[],eg,⟨rfl,rfl,rfl⟩,rfl,⟨⟨3,rfl⟩,rfl,rfl,by show 0≤7; decide,by show 7 % 2=1; rfl,ST.Up.nil⟩,by show 0 * 5 < 7 * 3; decide,rfl,hled,by show 7≤8000; decide,List.Perm.refl _,⟨rfl,fun p hp=>by cases hp⟩⟩
        case hna =>
          intro i hi
          obtain ⟨o,its,n,ho,_⟩:=hK i hi
          have lA:adr i < s.heap.objs.size:=Heap.lt_size ho
          rw [Heap.size_push]
          simp only [List.mem_cons,List.mem_singleton,List.not_mem_nil,or_false,not_or]
          refine ⟨?_,?_⟩ <;> first | exact Nat.ne_of_lt lA | exact Nat.ne_of_lt (Nat.lt_succ_of_lt lA) | exact Nat.ne_of_gt lA | skip
        case hK0 =>
          intro i hi
          obtain ⟨o,its,n,ho,r⟩:=hK i hi
          exact ⟨o,its,n,Heap.get?_push_of_some _ (Heap.get?_push_of_some _ ho),r⟩
        case hR =>
          intro s' mv _ hS'
          obtain ⟨g,gg,d',tk',os'⟩:=s'
          have e1:gg=s.gens:=mv.gens
          have e2:d'=s.drawn:=mv.drawn
          have e3:os'=s.os:=mv.os
          subst e1
          subst e2
          subst e3
          show wpAny _ _ _ _ _ _
          refine wpAny_pure ?_
          show wpAny _ _ (ret Value.none) _ _ _
          refine wpAny_pure ⟨rfl,g,tk',rfl,hS',fun b o hb e=>?_⟩
          have hb2:b≠(s.heap.push { cls:=.type "set",dict:=none,data:=.set #[] 0 (.fresh 0 0 led) }).objs.size:=by
            rw [Heap.size_push]
            exact Nat.ne_of_lt (Nat.lt_succ_of_lt hb)
          exact mv.heap b o (by simp only [List.mem_cons,List.mem_singleton,List.not_mem_nil,or_false,not_or]; exact ⟨Nat.ne_of_lt hb,hb2⟩) (Heap.get?_push_of_some _ (Heap.get?_push_of_some _ e))
      · cases r₂ with
        | error e=>exact hr₂
        | ok fl₂ =>
          cases fl₂ with
          | ret r =>
            obtain ⟨rfl,g,tk,rfl,hS',hk'⟩:=hr₂
            repeat (any_goals (first | assumption | wp_step))
            exact q _ _ hS' hk'
          | _=>exact hr₂.elim
    | _=>exact hr.elim
end SX
set_option Elab.async false
set_option linter.all false
set_option maxRecDepth 100000
set_option maxHeartbeats 4000000
namespace SA
open PySem PySem.Spec PyProof.Rows
theorem erase_perm {α:Type} {l:List α} {i:Nat} (h:i < l.length):(l[i] :: l.eraseIdx i).Perm l:=by
  have e:l=l.take i++l[i] :: l.drop (i+1):=by
    rw [List.getElem_cons_drop,List.take_append_drop]
  rw [List.eraseIdx_eq_take_drop_succ]
  exact (List.perm_middle.symm).trans (by rw [← e])
theorem go_perm {α:Type} (next:Nat→Nat):∀ (fuel k:Nat) (left:List α) (out:Array α),left.length≤fuel→(pickOrder.go next fuel k left out).toList.Perm (out.toList++left)
  | 0,k,left,out,h=>by
    have e:left=[]:=List.length_eq_zero_iff.mp (by omega)
    subst e
    rw [pickOrder.go,List.append_nil]
  | fuel+1,k,left,out,h=>by
    rw [pickOrder.go]
    cases hx:left[next k % left.length]? with
    | none =>
      have e:left=[]:=by
        cases left with
        | nil=>rfl
        | cons a r =>
          have:=List.getElem?_eq_none_iff.mp hx
          have:=Nat.mod_lt (next k) (show 0 < (a :: r).length by simp)
          omega
      subst e
      rw [List.append_nil]
    | some x =>
      obtain ⟨hi,ex⟩:=List.getElem?_eq_some_iff.mp hx
      refine (go_perm next fuel (k+1) (left.eraseIdx (next k % left.length)) (out.push x) ?_).trans ?_
      · rw [List.length_eraseIdx_of_lt hi]
        omega
      · rw [Array.toList_push,List.append_assoc]
        refine List.Perm.append_left _ ?_
        rw [← ex]
        exact erase_perm hi
theorem pick_perm {α:Type} (next:Nat→Nat) (xs:Array α):(pickOrder next xs).toList.Perm xs.toList:=by
  have:=go_perm next xs.size 0 xs.toList #[] (by simp)
  simpa [pickOrder] using this
section
variable {prog:Program} {w:World} {K:Type} [DecidableEq K] {knd:KeyKind prog w K} {A:Around} {E:Value→Shared→Prop} {s:Shared}
end
end SA
set_option Elab.async false
set_option linter.all false
set_option maxRecDepth 100000
set_option maxHeartbeats 4000000
namespace SI
open PySem PySem.Spec PyProof.Rows PySem.SetTable
theorem slot_set_iterator_next:Slot "set_iterator" "__next__" "set_iterator.__next__" :=
  .of (owner:="set_iterator") (n:="__next__") (by rw [typeLookup_type,builtinLookup_eq_fast]; kernel_rfl) (by decide +kernel) (by decide +kernel) (by decide +kernel)
    (by first | exact .inl (by decide +kernel) | exact .inr (by decide +kernel)) (by rw [isSubtype_type]; kernel_rfl)
theorem entry_set_iterator_next:entryFor table "set_iterator.__next__" = some Builtin.«set_iterator.__next__»:=entryFor_of_tree (by kernel_rfl)
theorem owner_set_iterator:Manifest.owners.lookup (String.ofList ['r', 'o', 't', 'a', 'r', 'e', 't', 'i', '_', 't', 'e', 's'].reverse)=some Manifest.sig_set_iterator:=by kernel_rfl
theorem args_set_iterator_next_1 (a:Value):argsOk "set_iterator.__next__" ⟨[a],[]⟩:=by
  unfold argsOk; rw [signature?_of (id:="set_iterator.__next__") (n:=['_', '_', 't', 'x', 'e', 'n', '_', '_']) (o:=['r', 'o', 't', 'a', 'r', 'e', 't', 'i', '_', 't', 'e', 's']) (by kernel_rfl) owner_set_iterator]; kernel_rfl
theorem entry_set_iter:entryFor table "set.__iter__" = some Builtin.«frozenset.__iter__»:=entryFor_alias (id':="frozenset.__iter__") (by kernel_rfl) rfl (by decide +kernel) (by kernel_rfl)
def itO (slot i:Nat) (S:Addr) (n ep:Nat):Obj:={ cls:=.type "set_iterator",data:=.fields #[.int slot 0,.int i 0,.ref S,.int n 0,.int ep 0] }
section
variable {prog:Program} {w:World} {A:Around} {E:Value→Shared→Prop} {s:Shared} {I S:Addr} {o:Obj} {es:Array (Int × Value)} {ep slot i:Nat} {t:SetTable}
def byT (w:World):Bool:=w.params.followText "set-order"
def ord (w:World) (S:Addr) (es:Array (Int × Value)) (ep:Nat):Array (Int × Value):=if byT w=true then pickOrder (w.params.setOrder S ep) es else es
theorem iter_set {Q:Value→Shared→Prop} (ho:s.heap.get? S=some o) (hc:o.cls=.type "set") (hd:o.data=.set es ep t) (hf:t.fits es.size=true) (hpl:t.plain=true)
    (q:Q (.ref s.heap.objs.size) { s with heap:=s.heap.push (itO 0 0 S es.size ep) }):wpAny (model prog w) A (pyIter (.ref S)) Q E s:=by
  have ty:s.TypeIs (.ref S) "set":=⟨o,ho,hc⟩
  refine wpAny_pyIter_slot ty PySem.F.slot_set_iter (wpAny_call_entry PySem.F.slot_set_iter ty entry_set_iter ?_ (PySem.F.args_set_iter_1 _))
  unfold Builtin.«frozenset.__iter__» Builtin.Frozenset.slot0
  refine wpAny_bind (wpAny_bind (wpAny_pure (wpAny_pure ?_)))
  unfold Builtin.Frozenset.sizeOf
  refine wpAny_bind (wpAny_bind (wpAny_setEntries_of ho hd hf (wpAny_pure ?_)))
  unfold setDrawn setsByText
  refine wpAny_bind (wpAny_bind (wpAny_setState_of ho hd hf (wpAny_bind (wpAny_bind (wpAny_askSetting (wpAny_pure (wpAny_pure ?_)))))))
  refine wpAny_ite_split (fun hb=>absurd (show (_ && (!t.plain && decide (es.size > 1)))=true from hb) (by rw [hpl]; simp)) fun _=>wpAny_bind (wpAny_pure ?_)
  unfold setEpoch
  refine wpAny_bind (wpAny_bind (wpAny_setState_of ho hd hf (wpAny_pure ?_)))
  unfold newFields
  refine wpAny_bind (wpAny_newObj_type (wpAny_pure ⟨_,rfl, "set_iterator",_,⟨_,Heap.get?_push_size _ rfl,rfl⟩,slot_set_iterator_next.lookup,?_⟩) (by simp [sizeOk,sizeLine_eq]))
  exact q
theorem next_walk {Q:Option (Value × Nat)→Shared→Prop} (ho:s.heap.get? S=some o) (hd:o.data=.set es ep t) (hf:t.fits es.size=true) (hsz:t.place.size=es.size) (hup:ST.Up t.place) (hpl:t.plain=true)
    (hbl:byT w=false→t.led=true∧below t.place slot=i)
    (q1:∀ e slot',(ord w S es ep)[i]?=some e→(byT w=false→below t.place slot'=i+1)→Q (some (e.2,slot')) s)
    (q2:(ord w S es ep)[i]?=none→Q none s):wpAny (model prog w) A (setNext S slot i ep) Q E s:=by
  unfold setNext setsByText
  refine wpAny_bind (wpAny_setState_of ho hd hf (wpAny_bind (wpAny_bind (wpAny_askSetting (wpAny_pure ?_)))))
  refine wpAny_ite_split (fun hb=>?_) fun hb=>?_
  · have hb:byT w=true:=hb
    rw [if_neg (by simp)]
    refine wpAny_bind ?_
    unfold setWalk setsByText
    refine wpAny_bind (wpAny_setState_of ho hd hf (wpAny_bind (wpAny_bind (wpAny_askSetting (wpAny_pure ?_)))))
    refine wpAny_ite_split (fun _=>?_) fun hn=>absurd hb hn
    refine wpAny_bind (wpAny_askSetting (wpAny_pure (wpAny_pure ?_)))
    have e:ord w S es ep=pickOrder (w.params.setOrder S ep) es:=by unfold ord; rw [if_pos hb]
    show Q (Option.map (fun e=>(e.2,slot)) (pickOrder (w.params.setOrder S ep) es)[i]?) s
    rw [← e]
    cases hx:(ord w S es ep)[i]? with
    | none=>exact q2 hx
    | some x=>exact q1 x slot hx fun z=>absurd (hb.symm.trans z) (by decide)
  · have hb:byT w=false:=by
      cases z:byT w with
      | false=>rfl
      | true=>exact absurd z hb
    obtain ⟨hl,hbl⟩:=hbl hb
    refine wpAny_ite_split (fun hb=>absurd (show (!t.plain && decide (es.size > 1))=true from hb) (by rw [hpl]; simp)) fun _=>?_
    refine wpAny_bind ?_
    show wpAny _ _ (if (!t.led && !es.isEmpty)=true then _ else _) _ _ _
    rw [if_neg (by rw [hl]; simp)]
    refine wpAny_pure ?_
    dsimp only
    rw [hbl]
    have e:ord w S es ep=es:=by unfold ord; rw [if_neg (by rw [hb]; decide)]
    rw [e] at q1 q2
    cases hx:es[i]? with
    | none=>exact wpAny_pure (q2 hx)
    | some x =>
      have hi:i < es.size:=(Array.getElem?_eq_some_iff.mp hx).1
      have hp:t.place[i]?=some (t.place[i]'(by omega)):=Array.getElem?_eq_getElem (by omega)
      rw [hp]
      exact wpAny_pure (q1 x _ hx fun _=>ST.below_next hup hp)
theorem next_set {Q:Option Value→Shared→Prop} (ti:s.heap.get? I=some (itO slot i S es.size ep)) (ho:s.heap.get? S=some o) (hd:o.data=.set es ep t) (hf:t.fits es.size=true) (hsz:t.place.size=es.size) (hup:ST.Up t.place) (hpl:t.plain=true)
    (hbl:byT w=false→t.led=true∧below t.place slot=i) (hi:(ord w S es ep)[i]?≠none)
    (q:∀ g e slot',(ord w S es ep)[i]?=some e→g.get? I=some (itO slot' (i+1) S es.size ep)→Heap.SameBut I s.heap g→(byT w=false→below t.place slot'=i+1)→Q (some e.2) { s with heap:=g }):wpAny (model prog w) A (pyNext (.ref I)) Q E s:=by
  have ty:s.TypeIs (.ref I) "set_iterator":=⟨_,ti,rfl⟩
  unfold pyNext
  refine wpAny_bind (wpAny_attempt (wpAny_callSpecial?_slot (name:=Str.ofString "__next__") ty slot_set_iterator_next (wpAny_call_entry slot_set_iterator_next ty entry_set_iterator_next ?_ (args_set_iterator_next_1 _))))
  unfold Builtin.«set_iterator.__next__»
  refine wpAny_bind (wpAny_pure (wpAny_bind (wpAny_fieldsOf ti rfl ?_)))
  show wpAny _ _ (setEntries S >>= _) _ _ _
  refine wpAny_bind (wpAny_setEntries_of ho hd hf ?_)
  rw [if_neg (by simp)]
  dsimp only
  rw [Int.toNat_natCast,Int.toNat_natCast,Int.toNat_natCast]
  refine wpAny_bind (next_walk ho hd hf hsz hup hpl hbl (fun e slot' he hs=>?_) fun z=>absurd z hi)
  dsimp only
  refine wpAny_bind (wpAny_setField_rec ti (by simp) fun g1 f1 b1=>?_)
  replace f1:g1.get? I=some (itO slot' i S es.size ep):=f1
  refine wpAny_bind (wpAny_setField_rec f1 (by simp) fun g2 f2 b2=>?_)
  replace f2:g2.get? I=some (itO slot' (i+1) S es.size ep):=by
    have z:((i+1:Nat):Int)=(i:Int)+1:=by omega
    unfold itO; rw [z]; simpa [rawInt] using f2
  replace b1:Heap.SameBut I s.heap g1:=b1
  replace b2:Heap.SameBut I g1 g2:=b2
  exact wpAny_pure ⟨_,rfl,wpAny_pure (q g2 e slot' he f2 (b1.trans b2) hs)⟩
theorem end_set {Q:Option Value→Shared→Prop} (hh:A.handled=none) (ti:s.heap.get? I=some (itO slot i S es.size ep)) (ho:s.heap.get? S=some o) (hd:o.data=.set es ep t) (hf:t.fits es.size=true) (hsz:t.place.size=es.size) (hup:ST.Up t.place) (hpl:t.plain=true)
    (hbl:byT w=false→t.led=true∧below t.place slot=i) (hi:(ord w S es ep)[i]?=none)
    (q:∀ g,Heap.ExtBut I s.heap g→Q none { s with heap:=g }):wpAny (model prog w) A (pyNext (.ref I)) Q E s:=by
  have ty:s.TypeIs (.ref I) "set_iterator":=⟨_,ti,rfl⟩
  unfold pyNext
  refine wpAny_bind (wpAny_attempt (wpAny_callSpecial?_slot (name:=Str.ofString "__next__") ty slot_set_iterator_next (wpAny_call_entry slot_set_iterator_next ty entry_set_iterator_next ?_ (args_set_iterator_next_1 _))))
  unfold Builtin.«set_iterator.__next__»
  refine wpAny_bind (wpAny_pure (wpAny_bind (wpAny_fieldsOf ti rfl ?_)))
  show wpAny _ _ (setEntries S >>= _) _ _ _
  refine wpAny_bind (wpAny_setEntries_of ho hd hf ?_)
  rw [if_neg (by simp)]
  dsimp only
  rw [Int.toNat_natCast,Int.toNat_natCast,Int.toNat_natCast]
  refine wpAny_bind (next_walk ho hd hf hsz hup hpl hbl (fun e slot' he hs=>absurd (he.symm.trans hi) (by simp)) fun _=>?_)
  dsimp only
  refine wpAny_bind (wpAny_setField ti rfl (by simp) ?_)
  refine wpAny_bind ?_
  simp only [newExc,newTuple]
  refine wpAny_bind (wpAny_newObj_type ?_ (by size_fits)); refine wpAny_bind (m:=firstArgMember _ _) (wpAny_of_eq (a:=Value.none) (by first | rfl | (simp only [firstArgMember]; rfl)) ?_)
  refine wpAny_newObj_type ?_ (by size_fits)
  simp only [raiseNew]
  refine wpAny_bind (wpAny_handled ?_); rw [show A.in1.handled=none from hh]
  refine wpAny_bind (wpAny_pure (wpAny_throw ?_))
  refine wpAny_bind (wpAny_isInstance (T:="StopIteration") (b:=true) ⟨_,Heap.get?_push_size _ rfl,rfl⟩ isSubtype_stop ?_)
  exact wpAny_pure (q _ (((Heap.SameBut.update ..).extBut.push _).push _))
end
end SI
set_option Elab.async false
set_option linter.all false
set_option maxRecDepth 100000
set_option maxHeartbeats 4000000
namespace SI
open PySem PySem.Spec PyProof.Rows PySem.SetTable
theorem slot_set_iterator_iter:Slot "set_iterator" "__iter__" "set_iterator.__iter__" :=
  .of (owner:="set_iterator") (n:="__iter__") (by rw [typeLookup_type,builtinLookup_eq_fast]; kernel_rfl) (by decide +kernel) (by decide +kernel) (by decide +kernel)
    (by first | exact .inl (by decide +kernel) | exact .inr (by decide +kernel)) (by rw [isSubtype_type]; kernel_rfl)
theorem entry_set_iterator_iter:entryFor table "set_iterator.__iter__" = some Builtin.«dict_keyiterator.__iter__»:=entryFor_alias (id':="dict_keyiterator.__iter__") (by kernel_rfl) rfl (by decide +kernel) (by kernel_rfl)
theorem args_set_iterator_iter_1 (a:Value):argsOk "set_iterator.__iter__" ⟨[a],[]⟩:=by
  unfold argsOk; rw [signature?_of (id:="set_iterator.__iter__") (n:=['_', '_', 'r', 'e', 't', 'i', '_', '_']) (o:=['r', 'o', 't', 'a', 'r', 'e', 't', 'i', '_', 't', 'e', 's']) (by kernel_rfl) owner_set_iterator]; kernel_rfl
theorem len_of_set:typeLookup (.type "set") "__len__" = pure (some (.builtin "set.__len__")):=by rw [typeLookup_type,builtinLookup_eq_fast]; kernel_rfl
section
variable {prog:Program} {w:World} {A:Around} {E:Value→Shared→Prop} {s:Shared} {I S:Addr} {o:Obj} {es:Array (Int × Value)} {ep slot i:Nat} {t:SetTable}
theorem ord_perm:(ord w S es ep).toList.Perm es.toList:=by
  unfold ord
  split
  · exact SA.pick_perm _ _
  · exact List.Perm.refl _
theorem ord_size:(ord w S es ep).size=es.size:=by
  have:=(ord_perm (w:=w) (S:=S) (es:=es) (ep:=ep)).length_eq
  rw [Array.length_toList,Array.length_toList] at this
  exact this
def StS (w:World) (I S:Addr) (o:Obj) (es:Array (Int × Value)) (ep:Nat) (t:SetTable) (i:Nat) (s:Shared):Prop :=
  ∃ slot,s.heap.get? I=some (itO slot i S es.size ep)∧s.heap.get? S=some o∧(byT w=false→below t.place slot=i)
theorem walks (hh:A.handled=none) (hIS:S≠I) (hd:o.data=.set es ep t) (hf:t.fits es.size=true) (hsz:t.place.size=es.size) (hup:ST.Up t.place) (hpl:t.plain=true) (hld:byT w=false→t.led=true) :
    WalksS prog w A I [I,S] [I] (fun a b=>b=a) es.size (fun i v=>∃ e,(ord w S es ep)[i]?=some e∧v=e.2) (StS w I S o es ep t) where
  sub:=fun b hb=>by
    rcases List.mem_singleton.mp hb with rfl
    exact List.mem_cons_self
  grefl:=fun _=>rfl
  gtrans:=fun _ _ _ h1 h2=>h2.trans h1
  frame:=fun i s h' tk ⟨slot,h1,h2,h3⟩ _ hk=>⟨slot,hk I List.mem_cons_self _ h1,hk S (List.mem_cons_of_mem _ List.mem_cons_self) _ h2,h3⟩
  item:=fun i s Q E hi ⟨slot,h1,h2,h3⟩ hQ=>by
    refine next_set h1 h2 hd hf hsz hup hpl (fun z=>⟨hld z,h3 z⟩) ?_ fun g e slot' he hg hs hb=>?_
    · rw [Array.getElem?_eq_getElem (by rw [ord_size]; exact hi)]
      exact fun z=>nomatch z
    · refine hQ _ _ ⟨e,he,rfl⟩ ⟨slot',hg,hs.extBut S o hIS h2,hb⟩ ⟨fun b u hb e=>hs.extBut b u (fun z=>hb (by rw [z]; exact List.mem_cons_self)) e,rfl,rfl,rfl,Nat.le_refl _⟩
  done:=fun s Q E ⟨slot,h1,h2,h3⟩ hQ=>by
    refine end_set hh h1 h2 hd hf hsz hup hpl (fun z=>⟨hld z,h3 z⟩) (Array.getElem?_eq_none (by rw [ord_size]; exact Nat.le_refl _)) fun g hg=>?_
    exact hQ _ ⟨fun b u hb e=>hg b u (fun z=>hb (by rw [z]; exact List.mem_cons_self)) e,rfl,rfl,rfl,Nat.le_refl _⟩
  self:=fun i s Q E ⟨slot,h1,_⟩ hQ=>by
    have hT:s.TypeIs (.ref I) "set_iterator":=⟨_,h1,rfl⟩
    refine wpAny_pyIter_slot hT slot_set_iterator_iter (wpAny_call_entry slot_set_iterator_iter hT entry_set_iterator_iter ?_ (args_set_iterator_iter_1 _))
    show wpAny _ _ (ret (.ref I)) _ _ s
    exact wpAny_pure ⟨_,rfl, "set_iterator",_,hT,slot_set_iterator_next.lookup,hQ⟩
theorem hint {Q:Bool→Shared→Prop} (hT:s.TypeIs (.ref S) "set") (h:Q false s):wpAny (model prog w) A (Builtin.List.listLengthHint (.ref S)) Q E s:=by
  unfold Builtin.List.listLengthHint
  refine wpAny_bind (wpAny_specialOf hT len_of_set ?_)
  generalize hid:("set.__len__" : String)=id0
  wp_delta
  rw [show splitId id0=some ("set", "__len__") from by subst hid; decide +kernel]
  subst hid
  refine wpAny_bind (wpAny_isInstance (T:="set") (b:=true) hT (by rw [isSubtype_type]; kernel_rfl) ?_)
  refine wpAny_ite_split (fun hab=>absurd hab (by decide)) (fun _=>?_)
  refine wpAny_ite_split (fun _=>?_) (fun hab=>absurd (by decide +kernel) hab)
  refine wpAny_bind (wpAny_typeOf hT ?_)
  exact wpAny_pure h
theorem collect_set {Q:List Value→Shared→Prop} (hh:A.handled=none) (ho:s.heap.get? S=some o) (hc:o.cls=.type "set") (hd:o.data=.set es ep t) (hf:t.fits es.size=true) (hsz:t.place.size=es.size) (hup:ST.Up t.place) (hpl:t.plain=true) (hld:byT w=false→t.led=true) (hn:es.size≤sizeLine)
    (h:∀ (g:Heap) (tk:Nat),(∀ b u,s.heap.get? b=some u→g.get? b=some u)→Q ((ord w S es ep).toList.map (·.2)) { s with heap:=g,toks:=tk }):wpAny (model prog w) A (collect (.ref S)) Q E s:=by
  have hSs:S < s.heap.objs.size:=Heap.lt_size ho
  unfold collect
  refine wpAny_bind (wpAny_runValue (codeAny_builtin PySem.F.entry_proto_collect ?_))
  rw [Around.under_plainId PySem.F.plain_proto_collect _]
  show wpAny _ A.in1 (newList [] >>= fun l=>again (.builtin "list.__iadd__" ⟨[l,.ref S],[]⟩)) _ _ s
  refine wpAny_bind (wpAny_newObj_type ?_)
  refine wpAny_pure ⟨plainId_quiet PySem.F.plain_list_iadd _,codeAny_builtin PySem.F.entry_list_iadd ?_⟩
  rw [Around.under_plainId PySem.F.plain_list_iadd _]
  show wpAny _ A.in1 (Builtin.List.listExtendWith (.ref s.heap.objs.size) (.ref S) (.ref s.heap.objs.size)) _ _ _
  have hS₁:(s.heap.push { cls:=.type "list",data:=.seq ([]:List Value).toArray }).get? s.heap.objs.size=some { cls:=.type "list",data:=.seq ([]:List Value).toArray }:=Heap.get?_push_size _ rfl
  have ho₁:(s.heap.push { cls:=.type "list",data:=.seq ([]:List Value).toArray }).get? S=some o:=Heap.get?_push_of_some _ ho
  have keep₁:∀ b u,s.heap.get? b=some u→(s.heap.push { cls:=.type "list",data:=.seq ([]:List Value).toArray }).get? b=some u:=fun b u e=>Heap.get?_push_of_some _ e
  have hz₁:(s.heap.push { cls:=.type "list",data:=.seq ([]:List Value).toArray }).objs.size=s.heap.objs.size+1:=Heap.size_push ..
  generalize s.heap.push { cls:=.type "list",data:=.seq ([]:List Value).toArray }=h1 at hS₁ ho₁ keep₁ hz₁ ⊢
  unfold Builtin.List.listExtendWith
  refine wpAny_bind (wpAny_typeOf (T:="set") ⟨o,ho₁,hc⟩ ?_)
  have e1:Builtin.List.listSameRef (.ref s.heap.objs.size) (.ref S)=false:=by simp [Builtin.List.listSameRef]; exact Nat.ne_of_gt hSs
  have e2:(Value.type "set" == Value.type "list")=false:=by decide
  have e3:(Value.type "set" == Value.type "tuple")=false:=by decide
  simp only [e1,e2,e3,Bool.or_false,Bool.false_eq_true,if_false]
  refine wpAny_bind (iter_set ho₁ hc hd hf hpl ?_)
  have hS₂:(h1.push (itO 0 0 S es.size ep)).get? s.heap.objs.size=some { cls:=.type "list",data:=.seq ([]:List Value).toArray }:=Heap.get?_push_of_some _ hS₁
  have ho₂:(h1.push (itO 0 0 S es.size ep)).get? S=some o:=Heap.get?_push_of_some _ ho₁
  have hI₂:(h1.push (itO 0 0 S es.size ep)).get? h1.objs.size=some (itO 0 0 S es.size ep):=Heap.get?_push_size _ rfl
  have keep₂:∀ b u,s.heap.get? b=some u→(h1.push (itO 0 0 S es.size ep)).get? b=some u:=fun b u e=>Heap.get?_push_of_some _ (keep₁ b u e)
  dsimp only
  generalize h1.push (itO 0 0 S es.size ep)=h2 at hS₂ ho₂ hI₂ keep₂ ⊢
  refine wpAny_bind (wpAny_holding (hint ⟨o,ho₂,hc⟩ ?_))
  have W:=walks (prog:=prog) (w:=w) (A:=A.in1) (I:=h1.objs.size) (S:=S) (o:=o) (es:=es) (ep:=ep) (t:=t) hh (by rw [hz₁]; exact Nat.ne_of_lt (Nat.lt_succ_of_lt hSs)) hd hf hsz hup hpl hld
  have key:∀ (g:Heap) (c₁ tk:Nat),(∀ b u,b≠s.heap.objs.size→h2.get? b=some u→g.get? b=some u)→g.get? s.heap.objs.size=some { cls:=.type "list",data:=.seq #[] c₁ }→codeAny (model prog w) A (.builtin "list.extend.loop" ⟨[.ref s.heap.objs.size,.ref h1.objs.size,.ref s.heap.objs.size],[]⟩) (fun r s'=>∃ (g':Heap) (tk':Nat) (acc:Array Value) (c:Nat),r=.ok (.ret (.ref s.heap.objs.size))∧s'={ s with heap:=g',toks:=tk' }∧(∀ b u,s.heap.get? b=some u→g'.get? b=some u)∧g'.get? s.heap.objs.size=some { cls:=.type "list",data:=.seq acc c }∧acc.toList=(ord w S es ep).toList.map (·.2)) { s with heap:=g,toks:=tk }:=fun g c₁ tk hk hS₃=>by
    refine codeAny_extend_loopS W hn s.heap.objs.size ?_ _ es.size 0 _ #[] c₁ rfl (Nat.zero_le _) ⟨0,hk _ _ (by rw [hz₁]; exact Nat.ne_of_gt (Nat.lt_succ_self _)) hI₂,hk _ _ (Nat.ne_of_lt hSs) ho₂,fun _=>ST.below_zero hup⟩ hS₃ (ItemsOf.nil _) fun s' acc c' hm hS' hacc=>?_
    · rw [hz₁]
      simp only [List.mem_cons,List.mem_singleton,List.not_mem_nil,or_false,not_or]
      exact ⟨Nat.ne_of_lt (Nat.lt_succ_self _),Nat.ne_of_gt hSs⟩
    · obtain ⟨g',gg,d',tk',os'⟩:=s'
      have e1:gg=s.gens:=hm.gens
      have e2:d'=s.drawn:=hm.drawn
      have e3:os'=s.os:=hm.os
      subst e1
      subst e2
      subst e3
      refine ⟨g',tk',acc,c',rfl,rfl,fun b u e=>?_,hS',?_⟩
      · have hb:=Heap.lt_size e
        refine hm.heap b u ?_ (hk b u (Nat.ne_of_lt hb) (keep₂ b u e))
        rw [hz₁]
        simp only [List.mem_cons,List.mem_singleton,List.not_mem_nil,or_false,not_or]
        exact ⟨Nat.ne_of_lt hb,Nat.ne_of_lt (Nat.lt_succ_of_lt hb)⟩
      · refine List.ext_getElem? fun j=>?_
        rw [List.getElem?_map,Array.getElem?_toList,Array.getElem?_toList]
        rcases Nat.lt_or_ge j es.size with hj | hj
        · obtain ⟨e,he,hv⟩:=hacc.2 j _ (Array.getElem?_eq_getElem (by rw [hacc.1]; exact hj))
          rw [he,Array.getElem?_eq_getElem (by rw [hacc.1]; exact hj),hv]
          rfl
        · rw [Array.getElem?_eq_none (by rw [hacc.1]; exact hj),Array.getElem?_eq_none (by rw [ord_size]; exact hj)]
          rfl
  have fin:∀ (r:Result) (s':Shared),(∃ (g':Heap) (tk':Nat) (acc:Array Value) (c:Nat),r=.ok (.ret (.ref s.heap.objs.size))∧s'={ s with heap:=g',toks:=tk' }∧(∀ b u,s.heap.get? b=some u→g'.get? b=some u)∧g'.get? s.heap.objs.size=some { cls:=.type "list",data:=.seq acc c }∧acc.toList=(ord w S es ep).toList.map (·.2))→∃ (g':Heap) (tk':Nat) (acc:Array Value) (c:Nat),r=.ok (.ret (.ref s.heap.objs.size))∧s'={ s with heap:=g',toks:=tk' }∧g'.get? s.heap.objs.size=some { cls:=.type "list",data:=.seq acc c }∧Q acc.toList { s with heap:=g',toks:=tk' }:=fun r s' ⟨g',tk',acc,c,a1,a2,a3,a4,a5⟩=>⟨g',tk',acc,c,a1,a2,a4,by rw [a5]; exact h g' tk' a3⟩
  refine wpAny_ite_split (fun _=>?_) (fun _=>wpAny_pure ⟨plainId_quiet PySem.F.plain_extend_loop _,codeAny_mono (key _ 0 _ (fun b u _ e=>e) hS₂) fun r s' z=>?_⟩)
  · refine wpAny_bind (wpAny_rule ?_)
    refine wpAny_bind ?_
    show wpAny _ A.in1 (updateSeq s.heap.objs.size (·.push .none) >>= fun _=>updateSeq s.heap.objs.size (·.pop)) _ _ _
    refine wpAny_bind (wpAny_updateSeq hS₂ rfl ?_)
    have hS₃:=Heap.get?_update_self (Obj.mapSeq (·.push Value.none)) hS₂ rfl
    refine wpAny_updateSeq (hz:=by seq_fits) hS₃ rfl ?_
    have hS₄:=Heap.get?_update_self (Obj.mapSeq (·.pop)) hS₃ rfl
    refine wpAny_pure ⟨plainId_quiet PySem.F.plain_extend_loop _,codeAny_mono (key _ _ _ (fun b u hb e=>?_) hS₄) fun r s' z=>?_⟩
    · exact (Heap.get?_update_other _ _ (Ne.symm hb)).trans ((Heap.get?_update_other _ _ (Ne.symm hb)).trans e)
    · obtain ⟨g',tk',acc,c,rfl,rfl,a4,q⟩:=fin r s' z
      show wpAny _ A (load s.heap.objs.size >>= _) _ _ _
      exact wpAny_bind (wpAny_load a4 (wpAny_pure q))
  · obtain ⟨g',tk',acc,c,rfl,rfl,a4,q⟩:=fin r s' z
    show wpAny _ A (load s.heap.objs.size >>= _) _ _ _
    exact wpAny_bind (wpAny_load a4 (wpAny_pure q))
theorem collect_tups {Q:List Value→Shared→Prop} {kas:List (List Int × Addr)} (hh:A.handled=none) (hS:ST.TupSet prog w s.heap S kas)
    (h:∀ (g:Heap) (tk:Nat) (kas':List (List Int × Addr)),kas'.Perm kas→(∀ b u,s.heap.get? b=some u→g.get? b=some u)→(∀ p∈kas',IsTupleKey (intKind prog w) g p.1 p.2)→Q (kas'.map fun p=>.ref p.2) { s with heap:=g,toks:=tk }):wpAny (model prog w) A (collect (.ref S)) Q E s:=by
  obtain ⟨o,es,ep,t,kas',ho,hex,hd,hT,hrm,hpl,hld,hmk,hp,hE⟩:=hS.ex
  have hf:t.fits es.size=true:=by
    unfold SetTable.fits SetTable.fill
    rw [hT.d,hT.sz]
    have:=hT.room
    simp
    exact this
  refine collect_set hh ho hex.1 hd hf hT.sz hT.up hpl (fun z=>hld.resolve_left fun y=>absurd (y.symm.trans z) (by decide)) (by have:=hT.room; rw [sizeLine_eq]; omega) fun g tk hk=>?_
  have hpe:(ord w S es ep).toList.Perm (kas'.map fun p=>(tupleKeyHash (intKind prog w) p.1,Value.ref p.2)):=by
    rw [← hE.e]
    exact ord_perm
  obtain ⟨ks2,k1,k2⟩:=ST.perm_ex hpe.symm rfl
  have:=h g tk ks2 (k1.trans hp) hk fun p hq=>by
    obtain ⟨o',its,n,e,r⟩:=hE.k p (k1.mem_iff.mp hq)
    exact ⟨o',its,n,hk _ _ e,r⟩
  rw [k2,List.map_map]
  exact this
end
end SI
set_option Elab.async false
set_option linter.all false
set_option maxRecDepth 100000
set_option maxHeartbeats 4000000
namespace L2
open PySem PySem.Spec PyProof.Rows
def tI (p:List Int):D:=.tup (p.map D.int)
def tupΦ (P:Program) (w:World) (a:Addr) (kas:List (List Int × Addr)):Heap→Prop:=fun h =>
  ∃ (o:Obj) (es:Array (Int × Value)) (ep:Nat) (t:SetTable) (kas':List (List Int × Addr)),h.get? a=some o∧o.ExactSet∧o.data=.set es ep t∧ST.TOk t es.size∧es.size * 5 < t.mask * 3∧t.plain=true∧(w.params.followText "set-order" = true∨t.led=true)∧t.mask≤8000∧kas'.Perm kas∧es.toList=kas'.map fun p=>(tupleKeyHash (intKind P w) p.1,Value.ref p.2)
theorem tupΦ_of {P:Program} {w:World} {a:Addr} {kas kas2:List (List Int × Addr)} {h:Heap} (x:ST.TupSet P w h a kas) (hp:kas.Perm kas2):tupΦ P w a kas2 h:=by
  obtain ⟨o,es,ep,t,kas',a1,a2,a3,a4,a5,a6,a7,a8,a9,b⟩:=x.ex
  exact ⟨o,es,ep,t,kas',a1,a2,a3,a4,a5,a6,a7,a8,a9.trans hp,b.e⟩
theorem tupΦ_to {P:Program} {w:World} {a:Addr} {kas:List (List Int × Addr)} {h:Heap} (x:tupΦ P w a kas h) (hk:∀ p∈kas,IsTupleKey (intKind P w) h p.1 p.2):ST.TupSet P w h a kas:=by
  obtain ⟨o,es,ep,t,kas',a1,a2,a3,a4,a5,a6,a7,a8,a9,b⟩:=x
  exact ⟨o,es,ep,t,kas',a1,a2,a3,a4,a5,a6,a7,a8,a9,b,fun p hq=>hk p (a9.mem_iff.mp hq)⟩
theorem den_ints {H:Hp}:∀ {p:List Int} {vs:List V},DenL H vs (p.map D.int)→vs=p.map V.int
  | [],[],_=>rfl
  | i :: p,v :: vs,h=>by
    obtain ⟨h1,h2⟩:=h
    rw [show v=V.int i from h1,den_ints h2]
    rfl
  | [],_ :: _,h=>h.elim
  | _ :: _,[],h=>h.elim
theorem items_ints {P:Program} {w:World}:∀ {p:List Int} {its:List Value},Vals (p.map V.int) its→ItemsAre (intKind P w) p its
  | [],_,h=>by cases h; exact .nil
  | i :: p,_,h=>by
    cases h with
    | cons a b =>
      obtain ⟨t,rfl⟩:=a
      exact .cons (by show Value.isInt i (.int i t)=true; simp [Value.isInt]) (items_ints b)
section
variable {X:Cx} {pins:List (Addr × Obj)} {σ:St} {H:Hp} {s:Shared}
theorem tkey_of (I:Inv X pins σ H s) {a:Addr} {p:List Int} (h:Den H (.ref a) (tI p)):IsTupleKey (intKind X.prog X.w) s.heap p a:=by
  obtain ⟨a',vs,e,ha,hd⟩:=h
  cases e
  rw [den_ints hd] at ha
  obtain ⟨_,its,r,o,ho,hc,n,hdt⟩:=I.hok _ _ ha
  exact ⟨o,its.toArray,n,ho,hc,hdt,by rw [List.toList_toArray]; exact items_ints r⟩
theorem den_at {as:List Addr}:∀ {as:List Addr} {ps:List (List Int)},DenL H (as.map V.ref) (ps.map tI)→as.length=ps.length∧∀ q∈ps.zip as,Den H (.ref q.2) (tI q.1)
  | [],[],_=>⟨rfl,fun q hq=>by cases hq⟩
  | a :: as,p :: ps,h=>by
    obtain ⟨h1,h2⟩:=h
    obtain ⟨e,k⟩:=den_at (as:=as) h2
    refine ⟨by rw [List.length_cons,List.length_cons,e],fun q hq=>?_⟩
    rcases List.mem_cons.mp hq with rfl | hq
    · exact h1
    · exact k q hq
  | [],_ :: _,h=>h.elim
  | _ :: _,[],h=>h.elim
theorem den_pairs:∀ {l:List (List Int × Addr)},(∀ q∈l,Den H (.ref q.2) (tI q.1))→DenL H ((l.map (·.2)).map V.ref) (l.map fun q=>tI q.1)
  | [],_=>trivial
  | q :: l,h=>⟨h q (.head _),den_pairs fun r hr=>h r (.tail _ hr)⟩
end
theorem lstT_zip {ps:List (List Int)} {as:List Addr} (hl:as.length=ps.length):∀ i,i≤ps.length→SX.lstT (fun i=>ps.getD i []) (fun i=>as.getD i 0) i=((ps.zip as).take i).reverse
  | 0,_=>by simp [SX.lstT]
  | i+1,hi=>by
    have hz:i < (ps.zip as).length:=by rw [List.length_zip]; omega
    rw [List.take_succ_eq_append_getElem hz,List.reverse_append,← lstT_zip hl i (by omega)]
    show (ps.getD i [],as.getD i 0) :: SX.lstT (fun i=>ps.getD i []) (fun i=>as.getD i 0) i=_
    rw [List.getElem_zip,List.getD_eq_getElem?_getD,List.getD_eq_getElem?_getD,List.getElem?_eq_getElem (by omega),List.getElem?_eq_getElem (by omega)]
    rfl
def rSetT (K:PySem.W.Frag) (P:Program) (w:World):List V→Hp→VK→Prop:=fun xs H Q=>∃ (p:Addr) (as:List Addr) (ps:List (List Int)),xs=[.ref p]∧SqL K H p (as.map V.ref)∧DenL H (as.map V.ref) (ps.map tI)∧ps.Nodup∧ps.length≤899∧∀ a,H a=none→Q (.ref a) (upd H a (.ext (tupΦ P w a (ps.zip as))))
theorem call_setT {X:Cx} (hc:X.calm=true) (hu:X.A.units+64 < cLine):CallR X (.type "set") (rSetT X.K X.prog X.w):=by
  intro pins s σ H xs us Q I r h
  obtain ⟨p,as,ps,rfl,hp,hD,hnd,hz,q⟩:=h
  obtain ⟨u,rfl,rx⟩:=vals1 r
  cases rx
  obtain ⟨its,rv,pl,hzz⟩:=I.list hp
  obtain ⟨hl,hk⟩:=den_at (as:=as) hD
  have hil:=rv.length
  rw [List.length_map] at hil
  have hsz:its.toArray.size=ps.length:=by simp; omega
  refine SX.call_set_tups (val:=fun i=>ps.getD i []) (adr:=fun i=>as.getD i 0) (I.ok.hd hc) pl.isList hu (fun i v hv=>?_) (fun i hi=>?_) (fun i j hi hj e=>?_) (by rw [hsz]; omega) fun g tk hS kp=>?_
  · have hv':its[i]?=some v:=by simpa using hv
    have hi:i < its.length:=(List.getElem?_eq_some_iff.mp hv').1
    have hn:(as.map V.ref)[i]?=some (.ref as[i]):=by rw [List.getElem?_map,List.getElem?_eq_getElem (by omega)]; rfl
    obtain ⟨u,hu,ru⟩:=rv.get hn
    rw [hv'] at hu
    cases hu
    rw [List.getD_eq_getElem?_getD,List.getElem?_eq_getElem (by omega)]
    exact ru
  · rw [hsz] at hi
    have hm:(ps[i],as[i])∈ps.zip as:=by
      have:=List.getElem_mem (l:=ps.zip as) (n:=i) (by rw [List.length_zip]; omega)
      rw [List.getElem_zip] at this
      exact this
    have:=tkey_of I (hk _ hm)
    rw [List.getD_eq_getElem?_getD,List.getD_eq_getElem?_getD,List.getElem?_eq_getElem hi,List.getElem?_eq_getElem (by omega)]
    exact this
  · rw [hsz] at hi hj
    have e:ps.getD i []=ps.getD j []:=e
    rw [List.getD_eq_getElem?_getD,List.getD_eq_getElem?_getD,List.getElem?_eq_getElem hi,List.getElem?_eq_getElem hj] at e
    have e':ps[i]=ps[j]:=e
    rw [List.nodup_iff_pairwise_ne,List.pairwise_iff_getElem] at hnd
    rcases Nat.lt_trichotomy i j with z | z | z
    · exact absurd e' (hnd i j hi hj z)
    · exact z
    · exact absurd e'.symm (hnd j i hj hi z)
  · rw [hsz,lstT_zip hl _ (Nat.le_refl _),List.take_of_length_le (by rw [List.length_zip]; omega)] at hS
    refine ⟨.ref s.heap.objs.size,_,I.laid (t':=tk) (o:=.ext (tupΦ X.prog X.w s.heap.objs.size (ps.zip as))) (fun b o e=>kp b o (Heap.lt_size e) e) (Nat.le_refl _) ?_,rfl,q _ I.fresh⟩
    have hΦ:=tupΦ_of hS (List.reverse_perm _)
    refine ⟨hΦ,?_,fun h1 h2 ⟨o,es,ep,t,kas',eo,rest⟩ k=>⟨o,es,ep,t,kas',k o eo,rest⟩⟩
    obtain ⟨o,es,ep,t,_,eo,_⟩:=hΦ
    exact ⟨o,eo⟩
theorem simL_ints:∀ (p q:List Int),SimL (p.map D.int) (q.map D.int)
  | [],_=>SimL_n _
  | _ :: _,[]=>SimL_m _
  | _ :: p,_ :: q=>SimL_c trivial (simL_ints p q)
theorem hom_tI {l:List (List Int × Addr)} (h:∀ q∈l,q.1≠[]):Hom (l.map fun q=>tI q.1):=by
  refine ⟨fun d hd e he=>?_,.inr (.inr fun d hd=>?_)⟩
  · obtain ⟨a,_,rfl⟩:=List.mem_map.mp hd
    obtain ⟨b,_,rfl⟩:=List.mem_map.mp he
    exact Sim_t (simL_ints _ _)
  · obtain ⟨a,ha,rfl⟩:=List.mem_map.mp hd
    have:=h a ha
    cases ea:a.1 with
    | nil=>exact absurd ea this
    | cons i r=>exact ⟨_,_,by unfold tI; rw [List.map_cons]⟩
theorem shal_tI {l:List (List Int × Addr)} (h:∀ q∈l,q.1.length≤100000):∀ d∈l.map (fun q=>tI q.1),Shal 50 d:=fun d hd=>by
  obtain ⟨a,ha,rfl⟩:=List.mem_map.mp hd
  refine ⟨(fun z=>nomatch z),fun ds e=>?_⟩
  cases e
  refine ⟨by rw [List.length_map]; exact h a ha,fun e he=>?_⟩
  obtain ⟨i,_,rfl⟩:=List.mem_map.mp he
  exact ⟨(fun z=>nomatch z),fun _ z=>nomatch z⟩
def rSortST (P:Program) (w:World):List V→Hp→VK→Prop:=fun xs H Q=>∃ (p:Addr) (as:List Addr) (ps:List (List Int)),xs=[.ref p]∧H p=some (.ext (tupΦ P w p (ps.zip as)))∧DenL H (as.map V.ref) (ps.map tI)∧ps.length≤899∧(∀ q∈ps,q≠[])∧(∀ q∈ps,q.length≤100000) ∧
  ∀ (l:Addr) (us:List V) (ds':List D),H l=none→ds'.Perm (ps.map tI)→UpD ds'→DenL H us ds'→Q (.ref l) (upd H l (.lst us))
theorem call_sortedST {X:Cx} (hc:X.calm=true) (hu:X.A.units+64 < cLine):CallR X (.builtin "sorted") (rSortST X.prog X.w):=by
  intro pins s σ H xs us Q I r h
  obtain ⟨p,as,ps,rfl,hp,hD,hz,hne,hlen,q⟩:=h
  obtain ⟨u,rfl,rx⟩:=vals1 r
  cases rx
  obtain ⟨hl,hk⟩:=den_at (as:=as) hD
  have hS:ST.TupSet X.prog X.w s.heap p (ps.zip as):=tupΦ_to (I.hok _ _ hp).1 fun q hq=>tkey_of I (hk q hq)
  refine SO.sorted_ofGB (O:=ordD) (fun its g tk=>∃ kas:List (List Int × Addr),kas.Perm (ps.zip as)∧its=kas.map (fun p=>Value.ref p.2)∧∀ b o,s.heap.get? b=some o→g.get? b=some o)
    (fun Q' q'=>SI.collect_tups (by first | exact I.ok.hd hc | simp [I.ok.hd hc]) hS fun g tk kas hpm kp _=>q' _ _ _ ⟨kas,hpm,rfl,kp⟩) ?_
  rintro its g tk ⟨kas,hpm,rfl,kp⟩
  have I5:Inv X pins σ H { s with heap:=g,toks:=tk }:=I.kept (t':=tk) kp
  have hn:kas.length=ps.length:=by rw [hpm.length_eq,List.length_zip]; omega
  have hmp:∀ q∈kas,q.1∈ps:=fun q hq=>(List.of_mem_zip (hpm.mem_iff.mp hq)).1
  have hD':DenL H ((kas.map (·.2)).map V.ref) (kas.map fun q=>tI q.1):=den_pairs fun q hq=>hk q (hpm.mem_iff.mp hq)
  have rv:Vals ((kas.map (·.2)).map V.ref) (kas.map fun p=>Value.ref p.2):=by
    have:=vals_refs (kas.map (·.2))
    have e:(kas.map (·.2)).map Value.ref=kas.map fun p=>Value.ref p.2:=by rw [List.map_map]; rfl
    rw [e] at this
    exact this
  have hpd:(kas.map fun q=>tI q.1).Perm (ps.map tI):=by
    have:=hpm.map fun q=>tI q.1
    refine this.trans ?_
    have e:(ps.zip as).map (fun q=>tI q.1)=ps.map tI:=by
      have:(ps.zip as).map (fun q=>tI q.1)=((ps.zip as).map (·.1)).map tI:=by rw [List.map_map]; rfl
      rw [this,List.map_fst_zip (by omega)]
    rw [e]
  obtain ⟨κ,hk2,hcm⟩:=sobl hu I5 hD' rv (hom_tI fun q hq=>hne _ (hmp q hq)) (by rw [List.length_map]; omega) (shal_tI fun q hq=>hlen _ (hmp q hq))
  have hle:(kas.map fun p=>Value.ref p.2).length=kas.length:=List.length_map _
  have hle2:((kas.map (·.2)).map V.ref).length=kas.length:=by rw [List.length_map,List.length_map]
  have hle3:(kas.map fun q=>tI q.1).length=kas.length:=List.length_map _
  generalize (kas.map fun q=>tI q.1)=ds at hD' hpd hcm hle3
  generalize (kas.map fun p=>Value.ref p.2)=its at rv hk2 hcm hle ⊢
  generalize ((kas.map (·.2)).map V.ref)=vs at hD' rv hle2
  refine ⟨fun i=>ds.getD i .non,κ,by rw [hle]; omega,fun h2 h' kp' E Q q=>hk2 h2 h' kp' E Q q,fun h' kp'=>hcm h' kp',fun g' pp kp' hpp hs hob'=>?_⟩
  obtain ⟨m,hob'⟩:=hob'
  have hlt:∀ i∈pp.toList,i < kas.length:=fun i hi=>by rw [← hle]; exact List.mem_range.mp (hpp.mem_iff.mp hi)
  have hps:pp.toList.length=kas.length:=by rw [← hle]; simpa using hpp.length_eq
  have hU:=vals_map rv pp.toList fun i hi=>by rw [hle2]; exact hlt i hi
  refine ⟨.ref _,_,I5.laid (t':=tk) (o:=.lst (pp.toList.map fun i=>vs.getD i .non)) kp' (Nat.le_refl _) ⟨?_,_,m,hU,hob'⟩,rfl,q _ _ (pp.toList.map fun i=>ds.getD i .non) (I5.hok.fresh (Nat.le_refl _)) ?_ ?_ (denL_map hD' _ fun i hi=>by rw [hle3]; exact hlt i hi)⟩
  · rw [List.length_map,hps,sizeLine_eq]
    omega
  · refine List.Perm.trans ?_ hpd
    have e:(List.range its.length).map (fun i=>ds.getD i .non)=ds:=by
      apply List.ext_getElem
      · rw [List.length_map,List.length_range,hle,hle3]
      · intro i h1 h2
        simp [List.getD_eq_getElem?_getD,h2]
    have:=hpp.map fun i=>ds.getD i D.non
    rw [e] at this
    exact this
  · unfold UpD
    rw [List.pairwise_iff_getElem]
    intro i j hi hj hij
    have h:=hs i j (Nat.le_of_lt hij) (by rw [hle,← hps]; simpa using hj)
    have e:∀ k (hk:k < pp.toList.length),SO.KN (O:=ordD) (fun i=>ds.getD i .non) pp k=(pp.toList.map fun i=>ds.getD i D.non)[k]'(by rw [List.length_map]; exact hk):=by
      intro k hk
      have hk':k < pp.size:=by simpa using hk
      unfold SO.KN
      rw [List.getElem_map]
      congr 1
      simp [Array.getD,hk']
    rw [e i (by simpa using hi),e j (by simpa using hj)] at h
    exact h
theorem mt_ends {X:Cx}:MtR X "str.endswith" (fun x xs H Q=>∃ (y z:Str),x=.str y∧xs=[.str z]∧Q (.bl (Txt.endswith y z)) H):=by
  intro pins s σ H x xs v us Q I rx r h
  obtain ⟨y,z,rfl,rfl,q⟩:=h
  obtain ⟨t,rfl⟩:=rx
  obtain ⟨u,rfl,⟨t1,rfl⟩⟩:=vals1 r
  refine call_gives F.slot_str_endswith (typeIs_str _ _ _) F.entry_str_endswith (F.args_str_endswith_2 _ _) (gives_str_endswith y z t t1) ?_
  exact ⟨.bl _,H,I,rfl,q⟩
theorem ends_suf {y z:List Nat} (h:z <:+ y):Txt.endswith ⟨y.toArray⟩ ⟨z.toArray⟩=true:=by
  obtain ⟨p,rfl⟩:=h
  unfold Txt.endswith Builtin.Str.subAt Str.length
  simp only [List.size_toArray,List.length_append,Nat.zero_add]
  rw [Bool.and_eq_true]
  refine ⟨decide_eq_true (by omega),?_⟩
  rw [beq_iff_eq]
  apply Array.toList_inj.mp
  rw [Array.toList_extract,List.extract_eq_take_drop]
  simp [Nat.add_sub_cancel]
def rEqS0:R2:=fun x y H Q=>∃ z:Str,y=.str z∧((∃ u:Str,x=.str u∧Q (.bl (decide (u=z))) H)∨∃ (l:Addr) (vs:List V),x=.ref l∧H l=some (.tup vs)∧Q (.bl false) H)
theorem op_eqS0 {X:Cx} (hu:X.A.units < cLine):OpR X (compareOp .Eq) rEqS0:=by
  intro pins s σ H x y v u Q I rx ry h
  obtain ⟨z,rfl,h⟩:=h
  rcases h with ⟨x,rfl,q⟩ | ⟨l,vs,rfl,hl,q⟩
  · refine op_eq pins s σ H _ _ v u Q I rx ry ⟨rfl,?_⟩
    have e:decide (V.str x=V.str z)=decide (x=z):=by
      rw [decide_eq_decide]
      exact ⟨fun h=>by injection h,fun h=>by rw [h]⟩
    rw [e]
    exact q
  · cases rx
    obtain ⟨t,rfl⟩:=ry
    obtain ⟨its,r1,p1,_⟩:=I.tuple (SqT.of (K:=X.K) hl)
    exact SeqAt.RcAt.tuple_str z t p1 hu X.prog X.w _ _ ⟨.bl false,H,I,rfl,q⟩
def rEqT1:R2:=fun x y H Q=>∃ b:Addr,y=.ref b∧H b=some (.tup [])∧((∃ u:Str,x=.str u∧Q (.bl false) H)∨∃ (l:Addr) (vs:List V),x=.ref l∧H l=some (.tup vs)∧Q (.bl vs.isEmpty) H)
theorem op_eqT1 {X:Cx} (hu:X.A.units < cLine):OpR X (compareOp .Eq) rEqT1:=by
  intro pins s σ H x y v u Q I rx ry h
  obtain ⟨b,rfl,hb,h⟩:=h
  cases ry
  obtain ⟨its2,r2,p2,_⟩:=I.tuple (SqT.of (K:=X.K) hb)
  cases r2
  rcases h with ⟨x,rfl,q⟩ | ⟨l,vs,rfl,hl,q⟩
  · obtain ⟨t,rfl⟩:=rx
    exact SeqAt.RcAt.str_tuple x t p2 hu X.prog X.w _ _ ⟨.bl false,H,I,rfl,q⟩
  · cases rx
    obtain ⟨its,r1,p1,_⟩:=I.tuple (SqT.of (K:=X.K) hl)
    have hl1:=r1.length
    refine SeqAt.eq_tupleAt (e:=fun _=>true) p1 p2 hu (fun j _ h2=>absurd h2 (Nat.not_lt_zero j)) ⟨.bl vs.isEmpty,H,I,?_,q⟩
    show Value.bool _=Value.bool _
    congr 1
    cases vs with
    | nil=>cases its with
      | nil=>rfl
      | cons _ _=>simp at hl1
    | cons _ _=>cases its with
      | nil=>simp at hl1
      | cons _ _=>simp
end L2
set_option linter.all false
namespace MN
open PySem
abbrev kwD (d:Value):List (Str × Value):=[(Str.ofString "default",d)]
theorem args_d (a v:Value):argsOk "min" ⟨[a],kwD v⟩:=by
  unfold argsOk kwD
  kernel_rfl
section
variable {prog:Program} {w:World} {A:Around} {R:Result→Shared→Prop} {It:Addr} {fp wr:List Addr} {n:Nat} {Pr:Nat→Value→Prop} {Sx:Nat→Heap→Prop}
theorem nm:(toString "min" ++ toString ".loop" : String) = "min.loop":=by decide
theorem on (W:Walks prog w A.in1 It fp wr n Pr Sx) (bt:Nat→Nat→Bool) (cm:CmpOf prog w A.in1 .Lt Pr bt) (B:Addr) (nB:B ∉ fp) (d:Value) :
    ∀ (k j:Nat) (s:Shared) (best:Value) (c:Nat),n - (j+1)=k→j+1≤n→Sx (j+1) s.heap→Pr (argBest bt j) best →
    s.heap.get? B=some { cls:=.type "list",dict:=none,data:=.seq #[best,best] c,slots:=#[] } →
    (∀ v h' tk,Pr (argBest bt (n - 1)) v→(∀ b o,b ∉ wr→b≠B→s.heap.get? b=some o→h'.get? b=some o)→R (.ok (.ret v)) { s with heap:=h',toks:=tk }) →
    codeAny (model prog w) A (.builtin "min.loop" ⟨[.ref It,.none,.ref B],kwD d⟩) R s:=by
  have nW:B ∉ wr:=fun z=>nB (W.sub _ z)
  intro k
  induction k with
  | zero =>
    intro j s best c ek ej st pb eB fin
    have en:j+1=n:=by omega
    refine codeAny_builtin PySem.F.entry_min_loop ?_
    rw [Around.under_plainId (PySem.F.plain_min_loop) _]
    show wpAny _ A.in1 (seqItems? (.ref B) >>= _) _ _ s
    refine wpAny_bind (wpAny_seqItems eB rfl ?_)
    show wpAny _ A.in1 (tryCatch (pyNext (.ref It)) _ >>= _) _ _ s
    refine wpAny_bind (wpAny_tryCatch (W.done s _ _ (en ▸ st) fun h' tk kp=>?_))
    have eB':=kp B _ nW eB
    show wpAny _ A.in1 (updateSeq B (fun _=>#[]) >>= _) _ _ _
    refine wpAny_bind ?_
    refine wpAny_updateSeq eB' rfl (wpAny_bind (wpAny_letGo (wpAny_pure ?_)))
    exact fin best _ tk (by rw [← en]; exact pb) fun b o nb nS e=>(Heap.get?_update_other _ _ (Ne.symm nS)).trans (kp b o nb e)
  | succ k ih =>
    intro j s best c ek ej st pb eB fin
    have lt:j+1 < n:=by omega
    refine codeAny_builtin PySem.F.entry_min_loop ?_
    rw [Around.under_plainId (PySem.F.plain_min_loop) _]
    show wpAny _ A.in1 (seqItems? (.ref B) >>= _) _ _ s
    refine wpAny_bind (wpAny_seqItems eB rfl ?_)
    show wpAny _ A.in1 (tryCatch (pyNext (.ref It)) _ >>= _) _ _ s
    refine wpAny_bind (wpAny_tryCatch (W.item (j+1) s _ _ lt st fun v h' tk pv st' kp=>?_))
    have eB':=kp B _ nW eB
    show wpAny _ A.in1 (tryCatch (holding [v,v] (richCompare .Lt v best >>= _)) _ >>= _) _ _ _
    refine wpAny_bind (wpAny_tryCatch (wpAny_holding (wpAny_bind (cm (j+1) (argBest bt j) v best _ _ _ pv pb ?_))))
    refine wpAny_bind (wpAny_holding (wpAny_truthy_bool ?_))
    refine wpAny_bind (wpAny_letGo (wpAny_pure ?_))
    cases eb:bt (j+1) (argBest bt j) with
    | true =>
      rw [if_pos rfl]
      refine wpAny_bind ?_
      refine wpAny_updateSeq eB' rfl (wpAny_bind (wpAny_letGo ?_))
      rw [nm]
      refine wpAny_pure ⟨plainId_quiet PySem.F.plain_min_loop _,ih (j+1) _ v _ (by omega) lt (W.frame _ _ _ st' fun b bf o e=>?_) (by simp only [argBest,eb,if_true]; exact pv) (Heap.get?_update_self _ eB' rfl) fun v' h2 tk2 pv' kp2=>?_⟩
      · exact (Heap.get?_update_other _ _ (fun z:B=b=>nB (by rw [z]; exact bf))).trans e
      · exact fin v' h2 tk2 pv' fun b o nb nS e=>kp2 b o nb nS ((Heap.get?_update_other _ _ (Ne.symm nS)).trans (kp b o nb e))
    | false =>
      rw [if_neg Bool.false_ne_true]
      refine wpAny_bind (wpAny_letGo ?_)
      rw [nm]
      refine wpAny_pure ⟨plainId_quiet PySem.F.plain_min_loop _,ih (j+1) _ best c (by omega) lt st' (by simp only [argBest,eb,Bool.false_eq_true,if_false]; exact pb) eB' fun v' h2 tk2 pv' kp2=>?_⟩
      exact fin v' h2 tk2 pv' fun b o nb nS e=>kp2 b o nb nS (kp b o nb e)
theorem begin_ (W:Walks prog w A.in1 It fp wr n Pr Sx) (bt:Nat→Nat→Bool) (cm:CmpOf prog w A.in1 .Lt Pr bt) (B:Addr) (nB:B ∉ fp) (d:Value) {s:Shared} {c:Nat} (st:Sx 0 s.heap)
    (eB:s.heap.get? B=some { cls:=.type "list",dict:=none,data:=.seq #[] c,slots:=#[] })
    (none_:n=0→∀ h' tk,(∀ b o,b ∉ wr→s.heap.get? b=some o→h'.get? b=some o)→R (.ok (.ret d)) { s with heap:=h',toks:=tk })
    (fin:0 < n→∀ v h' tk,Pr (argBest bt (n - 1)) v→(∀ b o,b ∉ wr→b≠B→s.heap.get? b=some o→h'.get? b=some o)→R (.ok (.ret v)) { s with heap:=h',toks:=tk }) :
    codeAny (model prog w) A (.builtin "min.loop" ⟨[.ref It,.none,.ref B],kwD d⟩) R s:=by
  have nW:B ∉ wr:=fun z=>nB (W.sub _ z)
  refine codeAny_builtin PySem.F.entry_min_loop ?_
  rw [Around.under_plainId (PySem.F.plain_min_loop) _]
  show wpAny _ A.in1 (seqItems? (.ref B) >>= _) _ _ s
  refine wpAny_bind (wpAny_seqItems eB rfl ?_)
  show wpAny _ A.in1 (tryCatch (pyNext (.ref It)) _ >>= _) _ _ s
  by_cases h0:n=0
  · refine wpAny_bind (wpAny_tryCatch (W.done s _ _ (h0 ▸ st) fun h' tk kp=>?_))
    show wpAny _ A.in1 (rule _ >>= _) _ _ _
    exact wpAny_bind (wpAny_rule (wpAny_pure (none_ h0 h' tk kp)))
  · have hn:0 < n:=by omega
    refine wpAny_bind (wpAny_tryCatch (W.item 0 s _ _ hn st fun v h' tk pv st' kp=>?_))
    have eB':=kp B _ nW eB
    show wpAny _ A.in1 (updateSeq B (fun _=>#[v,v]) >>= _) _ _ _
    refine wpAny_bind ?_
    refine wpAny_updateSeq eB' rfl ?_
    rw [nm]
    refine wpAny_pure ⟨plainId_quiet PySem.F.plain_min_loop _,on W bt cm B nB d _ 0 _ v _ rfl hn (W.frame _ _ _ st' fun b bf o e=>?_) pv (Heap.get?_update_self _ eB' rfl) fun v' h2 tk2 pv' kp2=>?_⟩
    · exact (Heap.get?_update_other _ _ (fun z:B=b=>nB (by rw [z]; exact bf))).trans e
    · exact fin hn v' h2 tk2 pv' fun b o nb nS e=>kp2 b o nb nS ((Heap.get?_update_other _ _ (Ne.symm nS)).trans (kp b o nb e))
end
section
variable {prog:Program} {w:World} {A:Around} {E:Value→Shared→Prop} {s:Shared}
theorem tree_kw {id:String} {b:Builtin} {args:List Value} {kw:List (Str × Value)} {Q:Value→Shared→Prop} (h1:builtinKind id=none) (h2:plainId id=true) (h3:entryFor table id=some b) (h4:argsOk id ⟨args,kw⟩)
    (h:wpAny (model prog w) A.in1 (b ⟨args,kw⟩) (fun fin s'=>match fin with
      | .done f=>(match (Except.ok f:Result) with | .ok (.ret v)=>Q v s' | .ok _=>False | .error e=>E e s')
      | .again c'=>c'.quiet=true∧codeAny (model prog w) A c' (fun r s'=>match r with | .ok (.ret v)=>Q v s' | .ok _=>False | .error e=>E e s') s') E s):wpAny (model prog w) A (call (.builtin id) args kw) Q E s:=by
  refine wpAny_call (codeAny_call_builtin h2 h3 ?_)
  simp only [checkBuiltinCall,h1]
  cases e:Manifest.signature? id with
  | none=>exact wpAny_pure h
  | some sg =>
    have h4':Bind.checkArgs id sg ⟨args,kw⟩=pure ():=by simpa only [argsOk,e] using h4
    simp only [h4']
    exact wpAny_pure h
theorem call {x d:Value} {Q:Value→Shared→Prop}
    (h:wpAny (model prog w) A.in1 (pyIter x) (fun it s2=>∃ I fp wr n Pr Sx bt,it=.ref I∧Walks prog w A.in1 I fp wr n Pr Sx∧Sx 0 s2.heap∧(∀ b∈fp,b < s2.heap.objs.size)∧CmpOf prog w A.in1 .Lt Pr bt ∧
      (n=0→∀ h' tk,(∀ b o,b ∉ wr→s2.heap.get? b=some o→h'.get? b=some o)→Q d { s2 with heap:=h',toks:=tk }) ∧
      (0 < n→∀ v h' tk,Pr (argBest bt (n - 1)) v→(∀ b o,b ∉ wr→s2.heap.get? b=some o→h'.get? b=some o)→Q v { s2 with heap:=h',toks:=tk })) E s) :
    wpAny (model prog w) A (PySem.call (.builtin "min") [x] (kwD d)) Q E s:=by
  refine tree_kw PySem.F.kind_min PySem.F.plain_min PySem.F.entry_min (args_d _ _) ?_
  show wpAny _ A.in1 (Builtin.Builtins.bindParams "min" ["key", "default"] 0 ⟨[],kwD d⟩ >>= _) _ _ s
  refine wpAny_bind (wpAny_of_eq (show Builtin.Builtins.bindParams "min" ["key", "default"] 0 ⟨[],kwD d⟩=pure [none,some d] from rfl) ?_)
  refine wpAny_bind (wpAny_pure ?_)
  refine wpAny_bind (wpAny_mono h (fun it s2 h2=>?_) fun _ _ e=>e)
  obtain ⟨I,fp,wr,n,Pr,Sx,bt,rfl,W,st,hf,cm,q0,q1⟩:=h2
  refine wpAny_bind (wpAny_newObj_type ?_)
  have nB:s2.heap.objs.size ∉ fp:=fun z=>Nat.lt_irrefl _ (hf _ z)
  rw [nm]
  refine wpAny_pure ⟨plainId_quiet PySem.F.plain_min_loop _,begin_ W bt cm s2.heap.objs.size nB d (W.frame _ _ _ st fun b _ o e=>Heap.get?_push_of_some _ e) (Heap.get?_push_size _ rfl) (fun z h' tk kp=>?_) fun z v h' tk pv kp=>?_⟩
  · exact q0 z h' tk fun b o nb e=>kp b o nb (Heap.get?_push_of_some _ e)
  · exact q1 z v h' tk pv fun b o nb e=>kp b o nb (Nat.ne_of_lt (Heap.lt_size e)) (Heap.get?_push_of_some _ e)
end
end MN
set_option Elab.async false
set_option linter.all false
set_option maxRecDepth 100000
set_option maxHeartbeats 4000000
namespace L2
open PySem PySem.Spec PyProof.Rows
end L2
set_option Elab.async false
set_option linter.all false
set_option maxRecDepth 100000
set_option maxHeartbeats 4000000
namespace L2
open PySem PySem.Spec PyProof.Rows
end L2
set_option Elab.async false
set_option linter.all false
set_option maxRecDepth 100000
set_option maxHeartbeats 4000000
namespace L2
open PySem PySem.Spec PyProof.Rows
end L2
set_option Elab.async false
set_option linter.all false
set_option maxRecDepth 100000
set_option maxHeartbeats 4000000
namespace L2
open PySem PySem.Spec PyProof.Rows
def ExcAt (cls:Value) (T e:Addr) (h:Heap):Prop:=∃ oe vs a0,h.get? e=some oe∧oe.cls=cls∧oe.data=.fields vs∧vs[0]?=some a0∧vs[1]?=some (.ref T)
def TrAt (T:Addr) (h:Heap):Prop:=∃ oT ts,h.get? T=some oT∧oT.data=.fields ts∧ts[3]?=some .none
def ExcO (cls:Value) (T e:Addr):HO:=.ext (ExcAt cls T e)
def TrO (T:Addr):HO:=.ext (TrAt T)
theorem excO_ok {P:Program} {w:World} {H:Hp} {h:Heap} {cls:Value} {T e:Addr} (x:ExcAt cls T e h):ObjOk P w H h e (ExcO cls T e):=by
  refine ⟨x,?_,fun h1 h2 p k=>?_⟩
  · obtain ⟨oe,_,_,he,_⟩:=x
    exact ⟨oe,he⟩
  · obtain ⟨oe,vs,a0,he,r⟩:=p
    exact ⟨oe,vs,a0,k oe he,r⟩
theorem trO_ok {P:Program} {w:World} {H:Hp} {h:Heap} {T:Addr} (x:TrAt T h):ObjOk P w H h T (TrO T):=by
  refine ⟨x,?_,fun h1 h2 p k=>?_⟩
  · obtain ⟨oe,_,he,_⟩:=x
    exact ⟨oe,he⟩
  · obtain ⟨oe,vs,he,r⟩:=p
    exact ⟨oe,vs,k oe he,r⟩
def CX1 (P:Program) (w:World):CXT:=fun outer H s E e s'=>∃ (ea T:Addr) (cls:Value) (H':Hp),e=.ref ea∧T≠ea∧s'.os=s.os∧AllBare s'.gens∧Un (frs outer) [] H H' s.heap s'.heap∧HOk P w H' s'.heap ∧
  H' ea=some (ExcO cls T ea)∧H' T=some (TrO T)∧E cls (some ea) H'
section
variable {M:Model} {A:Around} {E:Value→Shared→Prop} {s:Shared} {base:Heap} {env:Env} {outer:List Env} {L e:Addr}
structure Left (fs:List Addr) (e:Addr) (cls:Value) (T:Addr) (h h':Heap):Prop where
  keep:∀ b o,h.get? b=some o→b ∉ fs→b≠e→h'.get? b=some o
  slot:∀ b o,h.get? b=some o→b∈fs→∃ sl,h'.get? b=some { o with slots:=sl }
  new:h.get? T=none
  ne:T≠e
  exc:ExcAt cls T e h'
  tr:TrAt T h'
end
theorem ObjOk.has {P:Program} {w:World} {H:Hp} {h:Heap} {a:Addr} {o:HO} (x:ObjOk P w H h a o):∃ u,h.get? a=some u:=by
  cases o with
  | lst xs=>obtain ⟨_,_,_,_,e⟩:=x; exact ⟨_,e⟩
  | tup xs=>obtain ⟨_,_,_,ob,e,_⟩:=x; exact ⟨_,e⟩
  | dK kvs=>obtain ⟨_,_,_,_,ob,_,_,e,_⟩:=x; exact ⟨_,e⟩
  | dT kvs=>obtain ⟨_,_,_,_,ob,_,_,e,_⟩:=x; exact ⟨_,e⟩
  | set S n=>obtain ⟨ob,_,_,_,e,_⟩:=x; exact ⟨_,e⟩
  | ins C dx fs=>obtain ⟨_,_,_,e,_⟩:=x; exact ⟨_,e⟩
  | own y=>exact x
  | xd fs=>obtain ⟨_,⟨ob,_,_,e,_⟩,_⟩:=x; exact ⟨_,e⟩
  | rng lo hi=>obtain ⟨_,_,_,e⟩:=x; exact ⟨_,e⟩
  | frz ob u=>exact ⟨_,x.1⟩
  | tbl ps=>exact ⟨_,x⟩
  | met f y=>exact ⟨_,x⟩
  | ext φ=>exact x.2.1
theorem HOk.new {P:Program} {w:World} {H:Hp} {h:Heap} {a:Addr} (x:HOk P w H h) (e:h.get? a=none):H a=none:=by
  cases q:H a with
  | none=>rfl
  | some u =>
    obtain ⟨o,z⟩:=(x a u q).has
    rw [e] at z; cases z
abbrev xH (H:Hp) (T e:Addr) (cls:Value):Hp:=upd (upd H T (TrO T)) e (ExcO cls T e)
section
variable {P:Program} {w:World} {fs:List Addr} {e T T0:Addr} {cls:Value} {H:Hp} {h0 h1 h':Heap}
theorem Left.un (x:Left fs e cls T h1 h') (hok:HOk P w H h0) (hfs:∀ b∈fs,H b=none) (k:∀ b o,h0.get? b=some o→b≠T0→h1.get? b=some o) (kn:∀ b,h1.get? b=none→h0.get? b=none)
    (e1:∀ o,h0.get? e=some o→∃ T1,H e=some (ExcO cls T1 e)) (t1:T0=e∨(H T0=some (TrO T0)∧TrAt T0 h1)):Un fs [] H (xH H T e cls) h0 h'∧HOk P w (xH H T e cls) h':=by
  have hT0:h0.get? T=none:=kn T x.new
  have hTn:H T=none:=hok.new hT0
  have exx:∀ u,H e=some u→∃ T1,u=ExcO cls T1 e:=fun u q=>by
    obtain ⟨o,z⟩:=(hok e u q).has
    obtain ⟨T1,r⟩:=e1 o z
    rw [r] at q; cases q; exact ⟨T1,rfl⟩
  have gen:∀ b u,H b=some u→(∀ φ,u≠.ext φ)→xH H T e cls b=some u:=fun b u q ne=>by
    have hbe:b≠e:=fun z=>by
      subst z
      obtain ⟨T1,r⟩:=exx u q
      exact ne _ r
    have hbT:b≠T:=fun z=>by subst z; rw [hTn] at q; cases q
    show upd (upd H T (TrO T)) e (ExcO cls T e) b=some u
    rw [upd_ne hbe,upd_ne hbT]; exact q
  have ke:∀ b o,h0.get? b=some o→H b=none→b≠e:=fun b o q n z=>by
    subst z
    obtain ⟨T1,r⟩:=e1 o q
    rw [n] at r; cases r
  have kT:∀ b o,h0.get? b=some o→H b=none→b≠T0:=fun b o q n z=>by
    rcases t1 with r | ⟨r,_⟩
    · exact ke b o q n (z.trans r)
    · subst z; rw [n] at r; cases r
  have on:∀ b o,h1.get? b=some o→b≠e→∃ o',h'.get? b=some o':=fun b o q hbe=>by
    by_cases hb:b∈fs
    · obtain ⟨sl,z⟩:=x.slot b o q hb
      exact ⟨_,z⟩
    · exact ⟨o,x.keep b o q hb hbe⟩
  refine ⟨⟨fun b o q n hb _=>x.keep b o (k b o q (kT b o q n)) hb (ke b o q n),fun b o q n hb _=>x.slot b o (k b o q (kT b o q n)) hb,fun b o q n _=>?_,fun b o q _=>?_,fun b xs q=>gen b _ q fun φ z=>(nomatch z),fun b o u q=>gen b _ q fun φ z=>(nomatch z),fun b ps q=>⟨#[],by rw [gen b _ q fun φ z=>(nomatch z)]; simp⟩⟩,fun b u q=>?_⟩
  · have hbT:b≠T:=fun z=>by subst z; rw [hT0] at q; cases q
    show upd (upd H T (TrO T)) e (ExcO cls T e) b=none
    rw [upd_ne (ke b o q n),upd_ne hbT]; exact n
  · by_cases hbe:b=e
    · subst hbe
      obtain ⟨oe,_,_,z,_⟩:=x.exc
      exact ⟨oe,z⟩
    · by_cases hb0:b=T0
      · subst hb0
        rcases t1 with r | ⟨_,oT,_,z,_⟩
        · exact absurd r hbe
        · exact on b oT z hbe
      · exact on b o (k b o q hb0) hbe
  · by_cases hbe:b=e
    · subst hbe
      have:u=ExcO cls T b:=by
        have q':upd (upd H T (TrO T)) b (ExcO cls T b) b=some u:=q
        rw [upd_same] at q'; cases q'; rfl
      subst this
      exact excO_ok x.exc
    · have q1:upd (upd H T (TrO T)) e (ExcO cls T e) b=some u:=q
      rw [upd_ne hbe] at q1
      by_cases hbT:b=T
      · subst hbT
        rw [upd_same] at q1; cases q1
        exact trO_ok x.tr
      · rw [upd_ne hbT] at q1
        have hbf:b ∉ fs:=fun z=>by rw [hfs b z] at q1; cases q1
        by_cases hb0:b=T0
        · subst hb0
          rcases t1 with r | ⟨r,oT,ts,z,y⟩
          · exact absurd r hbe
          · rw [r] at q1; cases q1
            exact trO_ok ⟨oT,ts,x.keep b oT z hbf hbe,y⟩
        · refine (hok b u q1).stay (fun c v hc q2=>?_) (fun c q2=>gen c _ q2 fun φ z=>(nomatch z)) fun c xs q2=>gen c _ q2 fun φ z=>(nomatch z)
          rcases hc with rfl | hc
          · exact x.keep c v (k c v q2 hb0) hbf hbe
          · have hce:c≠e:=fun z=>by
              subst z
              obtain ⟨T1,r⟩:=exx _ hc
              cases r
            have hc0:c≠T0:=fun z=>by
              rcases t1 with r | ⟨r,_⟩
              · exact hce (z.trans r)
              · subst z; rw [r] at hc; cases hc
            exact x.keep c v (k c v q2 hc0) (fun z=>by rw [hfs c z] at hc; cases hc) hce
end
section
variable {X:Cx} {pins:List (Addr × Obj)} {σ:St} {H H':Hp} {s:Shared} {h':Heap}
theorem Inv.out (I:Inv X pins σ H s) (hx:X.ex=[]) (u:Un (frs X.stack) [] H H' s.heap h'):Un (frs X.outer) [] X.H₀ H' X.s₀.heap h':=by
  have hsub:∀ b∈X.fs,b∈frs X.stack:=fun b hb=>by
    rcases I.ok.stk with e | ⟨e,hf⟩
    · rw [e]; exact hb
    · rw [e]; unfold frs; rw [List.filterMap_cons,hf]; exact List.mem_cons_of_mem _ hb
  have b0:=I.base
  rw [hx] at b0
  have t:=(b0.mono (fs':=frs X.stack) (ex':=[]) hsub fun _ z=>z).trans u
  refine ⟨fun b o q n hb hx=>t.keep b o q n (fun z=>?_) hx,fun b o q n hb hx=>t.slot b o q n (hsub b hb) hx,t.free,t.there,t.tups,t.frzs,t.tbls⟩
  rcases List.mem_cons.mp (I.stkSub b z) with r | r
  · subst r
    exact absurd (Nat.lt_of_lt_of_le (Heap.lt_size q) I.ok.above) (Nat.lt_irrefl _)
  · exact hb r
end
section
variable {P:Program} {w:World} {K:PySem.W.Frag} {mg:Str→Option Value} {base:Heap} {N:List Str} {qual:Str} {scope:Scope} {f:Addr} {cd:Value} {A:Around} {outer:List Env} {s0:Shared} {H0:Hp} {E:XK}
  {pins:List (Addr × Obj)} {σ:St} {H:Hp} {s:Shared}
end
end L2
set_option Elab.async false
set_option linter.all false
set_option maxRecDepth 100000
set_option maxHeartbeats 4000000
namespace L2
open PySem PySem.Spec PyProof.Rows
abbrev TJ:=St→Hp→Str→VK→Prop
section
variable {X:Cx} {e e2:Expr} {es:List Expr} {te te2:TE} {tj:TJ} {pos:Pos}
end
end L2
set_option Elab.async false
set_option linter.all false
set_option maxRecDepth 100000
set_option maxHeartbeats 4000000
namespace L2
open PySem PySem.Spec PyProof.Rows
structure Cal1 (P:Program) (w:World) (K:PySem.W.Frag) (mg:Str→Option Value) (base:Heap) (x:Str) (k:Nat) (ps:List Str) (sp:Sp):Prop where
  ex:∃ (f:Addr) (fd:FuncData),FnOk P w K mg base (CX1 P w) k f fd ps sp∧Binds K fd ps []∧PySem.W.keepIn K (.ref f)=true∧mg x=some (.ref f)
section
variable {P:Program} {w:World} {K:PySem.W.Frag} {mg:Str→Option Value} {base:Heap} {x:Str} {ps:List Str} {sp:Sp}
theorem Cal1.mono {j k:Nat} (C:Cal1 P w K mg base x j ps sp) (h:j≤k):Cal1 P w K mg base x k ps sp:=by
  obtain ⟨f,fd,F,r⟩:=C.ex
  exact ⟨f,fd,F.mono h,r⟩
end
def PassesS (CX:CXT) (X:Cx) (E:St→XK):Prop:=∀ (pins:List (Addr × Obj)) (σ:St) (H:Hp) (s:Shared) (e:Value) (s':Shared),Inv X pins σ H s→CX X.stack H s (E σ) e s'→X.xe e s'
theorem Passes.s {CX:CXT} {X:Cx} {E:XK} (h:Passes CX X E):PassesS CX X fun _=>E:=h
end L2
set_option Elab.async false
set_option linter.all false
set_option maxRecDepth 100000
set_option maxHeartbeats 4000000
namespace L2
open PySem PySem.Spec PyProof.Rows
abbrev XR:=Value→Addr→St→Hp→Prop
section
variable {X:Cx} {pins more:List (Addr × Obj)} {σ:St} {H:Hp} {s:Shared} {R:XR}
end
end L2
namespace L2
open PySem PySem.Spec PyProof.Rows
section
variable {X:Cx} {pins:List (Addr × Obj)} {σ:St} {H:Hp} {s:Shared} {e:Addr}
end
structure Under (K:PySem.W.Frag) (D:Addr) (cls:Value):Prop where
  ex:∃ C,cls=.ref C∧PySem.W.subIn K (.ref C) (.ref D)=some true
end L2
set_option Elab.async false
set_option linter.all false
set_option maxRecDepth 100000
set_option maxHeartbeats 4000000
namespace L2
open PySem PySem.Spec PyProof.Rows
end L2
set_option Elab.async false
set_option linter.all false
set_option maxRecDepth 100000
set_option maxHeartbeats 4000000
namespace L2
open PySem PySem.Spec PySem.Calls PyProof.Rows PySem.W Builtin.Getset_descriptor
section
variable {prog:Program} {w:World} {A:Around} {E:Value→Shared→Prop} {K:Frag} {x C D:Addr} {ox:Obj} {h:Heap} {g:Array GenState} {d:Drawn} {t:Nat} {os:OsState}
structure ObAt (h:Heap) (x:Addr) (ox:Obj) (D:Addr):Prop where
  at_:h.get? x=some ox
  cls:ox.cls=.ref D
theorem ObAt.type {M:Model} (I:ObAt h x ox D):Looks M h (typeOf (.ref x)) (.ref D):=I.cls ▸ (Looks.ld I.at_).andThen .now
structure ExcK (K:Frag) (D:Addr):Prop where
  ga:findIn K (.ref D) "__getattribute__" = some (some (.builtin "BaseException.__getattribute__"))
  no:findIn K (.ref D) "__getattr__" = some none
  cl:findIn K (.ref D) "__class__" = some (some (.builtin "object.__class__"))
  bs:subIn K (.ref D) (.type "BaseException")=some true
  ob:mroIn K D (.type "object")=some true
  is:isClsIn K D=true
end
end L2
set_option Elab.async false
set_option linter.all false
set_option maxRecDepth 100000
set_option maxHeartbeats 4000000
namespace L2
open PySem PySem.Spec PyProof.Rows
def outX (E:XK):XK:=fun cls o H'=>∀ e,o=some e→∀ T',H' T'=none→E cls o (xH H' T' e cls)
def Thrown (C:Addr) (H:Hp) (E:XK):Prop:=∀ (e T:Addr) (H':Hp),Same H H'→H e=none→H' e=some (ExcO (.ref C) T e)→E (.ref C) (some e) H'
theorem same_xH {H H1:Hp} {T e:Addr} {cls:Value} (s:Same H H1) (he:H e=none) (hT:H1 T=none):Same H (xH H1 T e cls):=fun b o h=>by
  have hbe:b≠e:=fun z=>by subst z; rw [he] at h; cases h
  have hbT:b≠T:=fun z=>by subst z; rw [s _ _ h] at hT; cases hT
  show upd (upd H1 T (TrO T)) e (ExcO cls T e) b=some o
  rw [upd_ne hbe,upd_ne hbT]; exact s b o h
section
variable {C:Addr} {H H1:Hp} {E:XK}
theorem Thrown.up (h:Thrown C H E) (s:Same H H1):Thrown C H1 E:=fun e T H' s' he hx=>h e T H' (s.trans s') (s.free he) hx
theorem Thrown.made (h:Thrown C H E) {e T:Addr} (he:H e=none) (hT:H T=none):E (.ref C) (some e) (xH H T e (.ref C)):=h e T _ (same_xH (Same.refl H) he hT) he upd_same
theorem Thrown.out (h:Thrown C H E):Thrown C H (outX E):=fun e T H' s he hx e' z T' n=>by
  cases z
  exact h e T' _ (same_xH s he n) he upd_same
end
structure Fn1 (P:Program) (w:World) (K:PySem.W.Frag) (mg:Str→Option Value) (base:Heap) (f:Addr) (k:Nat) (ps:List Str) (sp:Sp):Prop where
  ex:∃ (fd:FuncData),FnOk P w K mg base (CX1 P w) k f fd ps sp∧Binds K fd ps []∧PySem.W.keepIn K (.ref f)=true
theorem Cal1.fn {P:Program} {w:World} {K:PySem.W.Frag} {mg:Str→Option Value} {base:Heap} {x:Str} {k:Nat} {ps:List Str} {sp:Sp} (C:Cal1 P w K mg base x k ps sp):∃ f,mg x=some (.ref f)∧Fn1 P w K mg base f k ps sp:=by
  obtain ⟨f,fd,F,b,kp,m⟩:=C.ex
  exact ⟨f,m,fd,F,b,kp⟩
end L2
set_option Elab.async false
set_option linter.all false
set_option maxRecDepth 100000
set_option maxHeartbeats 4000000
namespace L2
open PySem PySem.Spec PyProof.Rows
def CodO (c:Addr) (q:Str):HO:=.ext fun h=>h.CodeRec (.ref c) q
def del (H:Hp) (c:Addr):Hp:=fun b=>if b=c then none else H b
section
variable {P:Program} {w:World} {H H':Hp} {h h':Heap} {c:Addr} {o:Obj} {fs:List Addr}
variable {outer:List Env} {s s':Shared} {Q:VK} {u:Value} {E:XK} {e:Value}
end
section
variable {P:Program} {w:World} {K:PySem.W.Frag} {mg:Str→Option Value} {base:Heap} {N:List Str} {qual:Str} {scope:Scope} {f:Addr} {cd:Value} {cl:List (Str × Addr)} {A:Around} {outer:List Env} {s0:Shared} {H0:Hp} {E:XK}
end
structure TabCx (mg:Str→Option Value) (base:Heap) (c P:Addr):Prop where
  hd:PySem.W.CodeHd base c P
  gP:mainGlobals≠P
  blt:base.BuiltinsAt mg P
def TabI (P:Addr) (pos:Pos) (qual:Str) (H:Hp):Prop:=∃ ps,H P=some (.tbl ps)∧(ps = #[]∨∃ c',ps = #[rawInt pos.line,rawInt pos.col,.ref c']∧H c'=some (CodO c' qual))
theorem TabI.same {P:Addr} {pos:Pos} {qual:Str} {H H':Hp} (h:TabI P pos qual H) (s:Same H H'):TabI P pos qual H':=by
  obtain ⟨ps,a,b⟩:=h
  refine ⟨ps,s _ _ a,?_⟩
  rcases b with b | ⟨c',b1,b2⟩
  · exact .inl b
  · exact .inr ⟨c',b1,s _ _ b2⟩
end L2
set_option Elab.async false
set_option linter.all false
set_option maxRecDepth 100000
set_option maxHeartbeats 4000000
namespace L2
open PySem PySem.Spec PyProof.Rows
structure RoomQ (k:Nat) (A:Around):Prop where
  dp:A.depth+3 * k+5 < recursionLimit
  un:A.units+16 * k+200 < cLine
theorem RoomQ.mono {j k:Nat} {A:Around} (r:RoomQ k A) (h:j≤k):RoomQ j A:=⟨by have:=r.dp; omega,by have:=r.un; omega⟩
theorem RoomQ.deeper {k:Nat} {A:Around} (r:RoomQ (k+1) A) (env:Env):RoomQ k (A.deeper env) :=
  ⟨by have:=r.dp; show A.depth+1+3 * k+5 < _; omega,by have:=r.un; show A.units+3+16 * k+200 < _; omega⟩
theorem RoomQ.depth {k:Nat} {A:Around} (r:RoomQ k A):A.depth < recursionLimit:=by have:=r.dp; omega
theorem RoomQ.units0 {k:Nat} {A:Around} (r:RoomQ k A):A.units < cLine:=by have:=r.un; omega
theorem Room.q {k:Nat} {A:Around} (r:Room k A) (e:Option Value):RoomQ k (A.mark e):=⟨r.dp,r.un⟩
structure CalQ (P:Program) (w:World) (K:PySem.W.Frag) (mg:Str→Option Value) (base:Heap) (x:Str) (k:Nat) (ps:List Str) (sp:Sp):Prop where
  ex:∃ (f:Addr) (fd:FuncData),((∀ vs H Q E,sp vs H Q E→vs.length=ps.length)∧∀ (A:Around) (outer:List Env) (s:Shared) (H:Hp) (args:Args) (us:List Value) (vs:List V) (Q:VK),RoomQ k A→Env0 P w K mg base A outer s H→BindsTo s fd args (ps.zip us)→Vals vs us→sp vs H Q E0 →
    codeAny (model P w) A (.call (.ref f) args) (CR CX0 outer P w H s Q E0) s)∧Binds K fd ps []∧PySem.W.keepIn K (.ref f)=true∧mg x=some (.ref f)
end L2
set_option Elab.async false
set_option linter.all false
set_option maxRecDepth 100000
set_option maxHeartbeats 4000000
namespace L2
open PySem PySem.Spec PyProof.Rows
open AutoSeq1 (wpAny_loadPart')
section
variable {prog:Program} {w:World} {A:Around} {E:Value→Shared→Prop} {s:Shared}
end
section
variable {prog:Program} {w:World} {A:Around} {E:Value→Shared→Prop} {s:Shared}
end
section
variable {X:Cx}
end
end L2
set_option Elab.async false
set_option linter.all false
set_option maxRecDepth 100000
set_option maxHeartbeats 4000000
namespace ZTL
open PySem
open ZT (Apart tup_item tup_end)
open Sem (wp)
section
variable {prog:Program} {w:World} {A:Around} {E:Value→Shared→Prop} {s:Shared}
end
abbrev zh1 (h:Heap) (t1:Addr):Heap:=h.push { cls:=.type "tuple_iterator",data:=.fields #[.ref t1,.int 0 0] }
end ZTL
namespace L2
open PySem PySem.Spec PyProof.Rows
end L2
namespace L2
open PySem PySem.Spec PyProof.Rows
end L2
set_option Elab.async false
set_option linter.all false
set_option maxRecDepth 100000
set_option maxHeartbeats 4000000
namespace L2
open PySem PySem.Spec PyProof.Rows
end L2
set_option Elab.async false
set_option linter.all false
set_option maxRecDepth 100000
set_option maxHeartbeats 4000000
namespace L2
open PySem PySem.Spec PyProof.Rows
theorem any_range (bs:List Bool):(List.range bs.length).any (fun i=>bs.getD i true)=bs.any id:=by
  rw [Bool.eq_iff_iff,List.any_eq_true,List.any_eq_true]
  constructor
  · rintro ⟨i,hi,h⟩
    have hi':=List.mem_range.mp hi
    rw [List.getD_eq_getElem?_getD,List.getElem?_eq_getElem hi'] at h
    exact ⟨_,List.getElem_mem hi',h⟩
  · rintro ⟨b,hb,h⟩
    obtain ⟨i,hi,e⟩:=List.getElem_of_mem hb
    refine ⟨i,List.mem_range.mpr hi,?_⟩
    rw [List.getD_eq_getElem?_getD,List.getElem?_eq_getElem hi,e]
    exact h
theorem call_anyB {X:Cx} (hc:X.calm=true):CallR X (.builtin "any") (fun xs H Q=>∃ (l:Addr) (bs:List Bool),xs=[.ref l]∧SqL X.K H l (bs.map V.bl)∧Q (.bl (bs.any id)) H):=by
  intro pins s σ H xs us Q I r h
  obtain ⟨l,bs,rfl,hq,q⟩:=h
  obtain ⟨u,rfl,ru⟩:=vals1 r
  cases ru
  obtain ⟨its,rv,p,hz⟩:=I.list hq
  have hd:X.A.in1.handled=none:=I.ok.hd hc
  have hl:=rv.length
  refine call_any_walk (wpAny_pyIter_list p.isList ?_)
  obtain ⟨o,n,eo,_⟩:=id p
  have hne:l≠s.heap.objs.size:=Nat.ne_of_lt (Heap.lt_size eo)
  refine ⟨s.heap.objs.size,_,_,_,_,_,fun i=>bs.getD i true,rfl,Walks.list hd s.heap.objs.size l hne its.toArray,⟨⟨_,Heap.get?_push_size _ rfl,rfl,rfl⟩,p.isList.push _⟩,fun i v s' Q' E' hv hQ'=>?_,fun h' tk hk=>?_⟩
  · rw [bls_at rv hv]
    exact wpAny_truthy_bool hQ'
  · have e:its.toArray.size=bs.length:=by rw [List.size_toArray,← hl,List.length_map]
    rw [e,any_range]
    have I1:Inv X pins σ H { s with heap:=s.heap.push { cls:=.type "list_iterator",data:=.fields #[.ref l,.int 0 0] } }:=I.kept (t':=s.toks) fun b o q=>Heap.get?_push_of_some _ q
    obtain ⟨f0,f1,f2,f3,f4,f5⟩:=I.fpOk (b:=s.heap.objs.size) (Nat.le_refl _) I.fresh
    exact ⟨.bl _,H,I1.turned (it:=s.heap.objs.size) (fun b o hb e=>hk b o (by simpa using hb) e) f0 f1 f3 f4 f5,rfl,q⟩
end L2
set_option Elab.async false
set_option linter.all false
set_option maxRecDepth 100000
set_option maxHeartbeats 4000000
namespace L2
open PySem PySem.Spec PyProof.Rows
section
variable {prog:Program} {w:World} {A:Around} {E:Value→Shared→Prop} {s:Shared}
end
def AllSay (n:Nat) (H:Hp):List V→List V→Prop
  | [],[]=>True
  | x :: xs,y :: ys=>((x=.non∧y=.non)∨∃ d,Shal n d∧Den H x d∧Den H y d)∧AllSay n H xs ys
  | _,_=>False
theorem AllSay.len {n:Nat} {H:Hp}:∀ {xs ys:List V},AllSay n H xs ys→xs.length=ys.length
  | [],[],_=>rfl
  | _ :: _,_ :: _,h=>congrArg (· + 1) h.2.len
  | [],_ :: _,h=>h.elim
  | _ :: _,[],h=>h.elim
theorem AllSay.at_ {n:Nat} {H:Hp}:∀ {xs ys:List V} {j:Nat} (h1:j < xs.length) (h2:j < ys.length),AllSay n H xs ys→((xs[j]=.non∧ys[j]=.non)∨∃ d,Shal n d∧Den H xs[j] d∧Den H ys[j] d)
  | _ :: _,_ :: _,0,_,_,h=>h.1
  | _ :: _,_ :: _,j+1,h1,h2,h=>AllSay.at_ (j:=j) (Nat.lt_of_succ_lt_succ h1) (Nat.lt_of_succ_lt_succ h2) h.2
def rNeL:R2:=fun x y H Q=>∃ (l b:Addr) (xs ys:List V) (n:Nat),x=.ref l∧y=.ref b∧H l=some (.lst xs)∧H b=some (.lst ys)∧n≤60∧AllSay n H xs ys∧Q (.bl false) H
theorem op_neL {X:Cx} (hu:X.A.units+64 < cLine):OpR X (compareOp .NotEq) rNeL:=by
  intro pins s σ H x y v u Q I rx ry h
  obtain ⟨l,b,xs,ys,n,rfl,rfl,hl,hb,hn,hs,q⟩:=h
  cases rx
  cases ry
  obtain ⟨its,r1,p1,_⟩:=I.list (SqL.of (K:=X.K) hl)
  obtain ⟨its2,r2,p2,_⟩:=I.list (SqL.of (K:=X.K) hb)
  have m1:=r1.length
  have m2:=r2.length
  have l1:=hs.len
  have hz:its.toArray.size=its2.toArray.size:=by simp; omega
  have key:=SeqAt.RcNeAt.lists (A:=X.A) (s:=s) (e:=fun _=>true) p1.isList p2.isList hz (by omega) fun j h1 h2=>?_
  · have e:(!(List.range its.toArray.size).all (fun _=>true))=false:=by simp
    rw [e] at key
    exact key X.prog X.w _ _ ⟨.bl false,H,I,rfl,q⟩
  · have hj1:j < xs.length:=by simpa [m1] using h1
    have hj2:j < ys.length:=by simpa [m2] using h2
    obtain ⟨w1,hw1,rw1⟩:=r1.get (List.getElem?_eq_getElem hj1)
    obtain ⟨w2,hw2,rw2⟩:=r2.get (List.getElem?_eq_getElem hj2)
    have q1:its.toArray[j]=w1:=by
      have:=(List.getElem?_eq_some_iff.mp hw1).2
      simpa using this
    have q2:its2.toArray[j]=w2:=by
      have:=(List.getElem?_eq_some_iff.mp hw2).2
      simpa using this
    rw [q1,q2]
    rcases hs.at_ hj1 hj2 with ⟨z1,z2⟩ | ⟨d,hd,d1,d2⟩
    · rw [z1] at rw1
      rw [z2] at rw2
      cases rw1
      cases rw2
      exact SeqAt.EqAt.same _
    · exact den_rel I n d X.A.in1 _ _ _ _ hd d1 d2 rw1 rw2 (by first | (simp only [Around.in1]; omega) | omega)
end L2
set_option Elab.async false
set_option linter.all false
set_option maxRecDepth 100000
set_option maxHeartbeats 4000000
namespace M08
theorem cut_flat (ms ks:List (List Nat)):∀ (n:Nat) (acc t:List Nat),t.length≤n→(cut ms ks acc t).flatten=acc++t
  | n,acc,[],_=>by
    rw [cut_nil]
    split
    · rename_i h
      simp [h]
    · simp
  | 0,_,_ :: _,h=>by simp at h
  | n+1,acc,c :: r,hn=>by
    have h1:=stepN_pos ms ks (c :: r)
    have hl:((c :: r).drop (stepN ms ks (c :: r))).length≤n:=by
      rw [List.length_drop]
      simp at hn ⊢
      omega
    by_cases he:ended ms ks (c :: r)=0
    · rw [cut_on (by simp) he,cut_flat ms ks n _ _ hl,List.append_assoc,List.take_append_drop]
    · rw [cut_end (by simp) he,List.flatten_cons,cut_flat ms ks n _ _ hl,List.append_assoc,List.nil_append,List.take_append_drop]
end M08
namespace L2
open M08
def pathD (ks:List Int):D:=.tup (ks.map D.int)
def ndD (p:List Int × D):D:=.tup [pathD p.1,p.2]
def leafD (p:List Int × List Nat):D:=.tup [pathD p.1,sD p.2]
def Tr:Nat→D→Prop
  | 0,d=>∃ x:List Nat,d=sD x
  | n+1,d=>∃ ds,d=.tup ds∧∀ e∈ds,Tr n e
def nds:Nat→List Int→D→List (List Int × D)
  | n+1,ks,.tup ds=>(ks,.tup ds) :: ds.zipIdx.flatMap fun p=>nds n (ks++[((p.2:Nat):Int)]) p.1
  | _,ks,d=>[(ks,d)]
def lvs:Nat→List Int→D→List (List Int × List Nat)
  | n+1,ks,.tup ds=>ds.zipIdx.flatMap fun p=>lvs n (ks++[((p.2:Nat):Int)]) p.1
  | 0,ks,.str x=>[(ks,x.cps.toList)]
  | _,_,_=>[]
def sew:Nat→D→List Nat
  | n+1,.tup ds=>(ds.map (sew n)).flatten
  | 0,.str x=>x.cps.toList
  | _,_=>[]
def cntN:Nat→D→Nat
  | n+1,.tup ds=>1+(ds.map (cntN n)).sum
  | _,_=>1
def isS:D→Bool
  | .str _=>true
  | _=>false
theorem flatMap_zip {α β:Type} (f:α × Nat→List β) (g:α→Nat) (h:∀ x i,(f (x,i)).length=g x):∀ (ds:List α) (k:Nat),((ds.zipIdx k).flatMap f).length=(ds.map g).sum
  | [],_=>rfl
  | d :: ds,k=>by
    rw [List.zipIdx_cons,List.flatMap_cons,List.length_append,h,flatMap_zip f g h ds,List.map_cons,List.sum_cons]
theorem nds_len:∀ (n:Nat) (ks:List Int) (d:D),(nds n ks d).length=cntN n d
  | 0,ks,d=>by cases d <;> rfl
  | n+1,ks,.tup ds=>by
    show _+1=_
    rw [flatMap_zip _ (cntN n) (fun x i=>nds_len n _ x)]
    show _=1+_
    omega
  | _+1,_,.non=>rfl
  | _+1,_,.bl _=>rfl
  | _+1,_,.int _=>rfl
  | _+1,_,.str _=>rfl
theorem nds_lvs:∀ (n:Nat) (ks:List Int) (d:D),Tr n d→((nds n ks d).filter fun p=>isS p.2).map ndD=(lvs n ks d).map leafD
  | 0,ks,d,h=>by
    obtain ⟨x,rfl⟩:=h
    simp [nds,lvs,isS,ndD,leafD]
  | n+1,ks,d,h=>by
    obtain ⟨ds,rfl,h⟩:=h
    have key:∀ (es:List D) (k:Nat),(∀ e∈es,Tr n e)→(((es.zipIdx k).flatMap fun p=>nds n (ks++[((p.2:Nat):Int)]) p.1).filter fun p=>isS p.2).map ndD=(((es.zipIdx k).flatMap fun p=>lvs n (ks++[((p.2:Nat):Int)]) p.1)).map leafD:=by
      intro es
      induction es with
      | nil=>intro k _; rfl
      | cons e es ih =>
        intro k he
        rw [List.zipIdx_cons,List.flatMap_cons,List.flatMap_cons,List.filter_append,List.map_append,List.map_append,nds_lvs n _ e (he e List.mem_cons_self),ih _ fun x hx=>he x (List.mem_cons_of_mem _ hx)]
    have:=key ds 0 h
    simpa [nds,lvs,isS] using this
theorem lvs_sew:∀ (n:Nat) (ks:List Int) (d:D),((lvs n ks d).map (·.2)).flatten=sew n d
  | 0,ks,.str x=>by simp [lvs,sew]
  | 0,_,.non=>rfl
  | 0,_,.bl _=>rfl
  | 0,_,.int _=>rfl
  | 0,_,.tup _=>rfl
  | n+1,ks,.tup ds=>by
    have key:∀ (es:List D) (k:Nat),((((es.zipIdx k).flatMap fun p=>lvs n (ks++[((p.2:Nat):Int)]) p.1)).map (·.2)).flatten=(es.map (sew n)).flatten:=by
      intro es
      induction es with
      | nil=>intro k; rfl
      | cons e es ih =>
        intro k
        rw [List.zipIdx_cons,List.flatMap_cons,List.map_append,List.flatten_append,lvs_sew n _ e,ih,List.map_cons,List.flatten_cons]
    exact key ds 0
  | _+1,_,.non=>rfl
  | _+1,_,.bl _=>rfl
  | _+1,_,.int _=>rfl
  | _+1,_,.str _=>rfl
theorem tr_tree:∀ (ls:List (List (List Nat) × List (List Nat))) (t:List Nat),Tr ls.length (treeD ls t)
  | [],t=>⟨t,rfl⟩
  | l :: ls,t=>⟨_,rfl,fun e he=>by
    obtain ⟨p,_,rfl⟩:=List.mem_map.mp he
    exact tr_tree ls p⟩
theorem sum_len (k:Nat):∀ ps:List (List Nat),(ps.map fun p=>1+k * p.length).sum=ps.length+k * ps.flatten.length
  | []=>by simp
  | p :: ps=>by
    rw [List.map_cons,List.sum_cons,sum_len k ps,List.length_cons,List.flatten_cons,List.length_append,Nat.mul_add]
    omega
theorem sum_mono {α:Type} {f g:α→Nat}:∀ (ps:List α),(∀ p∈ps,f p≤g p)→(ps.map f).sum≤(ps.map g).sum
  | [],_=>Nat.le_refl _
  | p :: ps,h=>by
    rw [List.map_cons,List.sum_cons,List.map_cons,List.sum_cons]
    exact Nat.add_le_add (h p List.mem_cons_self) (sum_mono ps fun q hq=>h q (List.mem_cons_of_mem _ hq))
theorem cnt_tree:∀ (ls:List (List (List Nat) × List (List Nat))) (t:List Nat),cntN ls.length (treeD ls t)≤1+ls.length * t.length
  | [],t=>by
    show 1≤_
    omega
  | l :: ls,t=>by
    show 1+(((cut l.1 l.2 [] t).map (treeD ls)).map (cntN ls.length)).sum≤_
    rw [List.map_map]
    have h1:=sum_mono (f:=cntN ls.length ∘ treeD ls) (g:=fun p=>1+ls.length * p.length) (cut l.1 l.2 [] t) fun p _=>cnt_tree ls p
    rw [sum_len,cut_flat l.1 l.2 t.length [] t (Nat.le_refl _),List.nil_append] at h1
    have h2:=(cut_le l.1 l.2 t.length [] t (Nat.le_refl _)).2.1 rfl
    rw [List.length_cons,Nat.add_mul]
    omega
theorem sew_tree:∀ (ls:List (List (List Nat) × List (List Nat))) (t:List Nat),sew ls.length (treeD ls t)=t
  | [],t=>by simp [sew,treeD]
  | l :: ls,t=>by
    show (((cut l.1 l.2 [] t).map (treeD ls)).map (sew ls.length)).flatten=t
    rw [List.map_map]
    have e:(sew ls.length ∘ treeD ls)=id:=by
      funext p
      exact sew_tree ls p
    rw [e,List.map_id,cut_flat l.1 l.2 t.length [] t (Nat.le_refl _),List.nil_append]
theorem lvs_cnt:∀ (n:Nat) (ks:List Int) (d:D),(lvs n ks d).length≤cntN n d
  | 0,ks,d=>by cases d <;> simp [lvs,cntN]
  | n+1,ks,.tup ds=>by
    have key:∀ (es:List D) (k:Nat),(((es.zipIdx k).flatMap fun p=>lvs n (ks++[((p.2:Nat):Int)]) p.1)).length≤(es.map (cntN n)).sum:=by
      intro es
      induction es with
      | nil=>intro k; exact Nat.le_refl _
      | cons e es ih =>
        intro k
        rw [List.zipIdx_cons,List.flatMap_cons,List.length_append,List.map_cons,List.sum_cons]
        exact Nat.add_le_add (lvs_cnt n _ e) (ih _)
    have:=key ds 0
    show _≤1+_
    exact Nat.le_trans this (Nat.le_add_left _ _)
  | _+1,_,.non=>Nat.zero_le _
  | _+1,_,.bl _=>Nat.zero_le _
  | _+1,_,.int _=>Nat.zero_le _
  | _+1,_,.str _=>Nat.zero_le _
theorem join_flat {y:PySem.Str} (hy:y=⟨#[]⟩):∀ xs:List (List Nat),PySem.Str.join y (xs.map fun r=>(⟨r.toArray⟩:PySem.Str))=⟨xs.flatten.toArray⟩
  | []=>by simp [PySem.Str.join]; rfl
  | [x]=>by simp [PySem.Str.join]
  | x :: z :: r=>by
    have ih:=join_flat hy (z :: r)
    rw [List.map_cons] at ih
    rw [List.map_cons,List.map_cons]
    show (⟨x.toArray⟩:PySem.Str)++y++PySem.Str.join y _=_
    rw [ih,hy,show (⟨#[]⟩:PySem.Str)=⟨([]:List Nat).toArray⟩ from rfl,cat_T,cat_T,List.append_nil]
    simp
theorem join_flat_fits {y:PySem.Str} (hy:y=⟨#[]⟩) (xs:List (List Nat)) (h:xs.flatten.length≤1000000):((xs.map fun r=>(⟨r.toArray⟩:PySem.Str)).map (·.length)).sum+(xs.map fun r=>(⟨r.toArray⟩:PySem.Str)).length * y.length≤16777216:=by
  have e:((xs.map fun r=>(⟨r.toArray⟩:PySem.Str)).map (·.length)).sum=xs.flatten.length:=by
    clear h
    induction xs with
    | nil=>rfl
    | cons c r ih =>
      rw [List.map_cons,List.map_cons,List.sum_cons,ih,List.flatten_cons,List.length_append,lenT]
  have e2:y.length=0:=by rw [hy]; rfl
  rw [e,e2,Nat.mul_zero]
  omega
end L2
set_option Elab.async false
set_option linter.all false
set_option maxRecDepth 100000
namespace L2
open PySem M08
theorem cut_ends (ms ks:List (List Nat)):∀ (n:Nat) (acc t:List Nat),t.length≤n→∀ i,i+1 < (cut ms ks acc t).length→∃ m∈ms,∃ p,(cut ms ks acc t)[i]?=some p∧m <:+ p:=by
  intro n
  induction n with
  | zero =>
    intro acc t ht i hi
    obtain rfl:t=[]:=List.length_eq_zero_iff.mp (by omega)
    rw [cut_nil] at hi
    split at hi <;> simp at hi
  | succ n ih =>
    intro acc t ht i hi
    by_cases h:t=[]
    · subst h
      rw [cut_nil] at hi
      split at hi <;> simp at hi
    · have hp:=stepN_pos ms ks t
      have hl:0 < t.length:=List.length_pos_iff.mpr h
      have hd:(t.drop (stepN ms ks t)).length≤n:=by rw [List.length_drop]; omega
      by_cases he:ended ms ks t=0
      · rw [cut_on h he] at hi ⊢
        exact ih _ _ hd i hi
      · rw [cut_end h he] at hi ⊢
        cases i with
        | succ i =>
          rw [List.length_cons] at hi
          rw [List.getElem?_cons_succ]
          exact ih _ _ hd i (by omega)
        | zero =>
          have h0:lng t ks=0:=by
            unfold ended at he
            split at he
            · assumption
            · exact absurd rfl he
          have h1:lng t ms≠0:=by
            unfold ended at he
            rw [if_pos h0] at he
            exact he
          have h2:stepN ms ks t=lng t ms:=by
            unfold stepN ended
            rw [if_pos h0,h0]
            omega
          refine ⟨_,lng_at h1,_,rfl,?_⟩
          rw [h2]
          exact List.suffix_append _ _
theorem cut_ne {ms ks:List (List Nat)} {t:List Nat} (h:t≠[]):cut ms ks [] t≠[]:=by
  intro e
  have:=cut_flat ms ks t.length [] t (Nat.le_refl _)
  rw [e,List.nil_append] at this
  exact h this.symm
theorem lvs_path:∀ (n:Nat) (ks:List Int) (d:D),∀ x∈lvs n ks d,∃ r:List Int,r.length=n∧x.1=ks++r
  | 0,ks,.str y,x,hx=>⟨[],rfl,by simp [lvs] at hx; rw [hx]; simp⟩
  | n+1,ks,.tup ds,x,hx=>by
    obtain ⟨p,_,hx⟩:=List.mem_flatMap.mp hx
    obtain ⟨r,hr,e⟩:=lvs_path n _ _ x hx
    exact ⟨((p.2:Nat):Int) :: r,by rw [List.length_cons,hr],by rw [e,List.append_assoc]; rfl⟩
  | 0,_,.tup _,x,hx=>by simp [lvs] at hx
  | 0,_,.non,x,hx=>by simp [lvs] at hx
  | 0,_,.bl _,x,hx=>by simp [lvs] at hx
  | 0,_,.int _,x,hx=>by simp [lvs] at hx
  | _+1,_,.str _,x,hx=>by simp [lvs] at hx
  | _+1,_,.non,x,hx=>by simp [lvs] at hx
  | _+1,_,.bl _,x,hx=>by simp [lvs] at hx
  | _+1,_,.int _,x,hx=>by simp [lvs] at hx
theorem eqD_self_int (i:Int):eqD (.int i) (.int i)=true:=by simp [eqD]
theorem dltL_at {a b:Int} (h:a < b) (x y:List Int):∀ ks:List Int,dltL ((ks++a :: x).map D.int) ((ks++b :: y).map D.int)=true
  | []=>by
    show (if eqD (.int a) (.int b)=true then _ else dlt (.int a) (.int b))=true
    rw [if_neg (by intro z; simp [eqD] at z; omega),dlt_int]
    exact decide_eq_true h
  | k :: ks=>by
    show (if eqD (.int k) (.int k)=true then dltL ((ks++a :: x).map D.int) ((ks++b :: y).map D.int) else _)=true
    rw [if_pos (eqD_self_int k)]
    exact dltL_at h x y ks
theorem up_flat {α:Type} (R:α→α→Prop) (f:D × Nat→List α) (h1:∀ p,(f p).Pairwise R) (h2:∀ p q,p.2 < q.2→∀ x∈f p,∀ y∈f q,R x y):∀ (ds:List D) (k:Nat),((ds.zipIdx k).flatMap f).Pairwise R
  | [],_=>List.Pairwise.nil
  | d :: ds,k=>by
    rw [List.zipIdx_cons,List.flatMap_cons]
    refine List.pairwise_append.mpr ⟨h1 _,up_flat R f h1 h2 ds (k+1),fun x hx y hy=>?_⟩
    obtain ⟨q,hq,hy⟩:=List.mem_flatMap.mp hy
    have:=List.le_snd_of_mem_zipIdx hq
    exact h2 (d,k) q (by show k < q.2; omega) x hx y hy
theorem lvs_up:∀ (n:Nat) (ks:List Int) (d:D),(lvs n ks d).Pairwise fun x y=>dltL (x.1.map D.int) (y.1.map D.int)=true
  | n+1,ks,.tup ds=>by
    refine up_flat _ (fun p=>lvs n (ks++[((p.2:Nat):Int)]) p.1) (fun p=>lvs_up n _ _) (fun p q hpq x hx y hy=>?_) ds 0
    obtain ⟨r,_,e1⟩:=lvs_path n _ _ x hx
    obtain ⟨u,_,e2⟩:=lvs_path n _ _ y hy
    rw [e1,e2,List.append_assoc,List.append_assoc]
    exact dltL_at (by omega) r u ks
  | 0,_,.str _=>List.pairwise_singleton _ _
  | 0,_,.tup _=>List.Pairwise.nil
  | 0,_,.non=>List.Pairwise.nil
  | 0,_,.bl _=>List.Pairwise.nil
  | 0,_,.int _=>List.Pairwise.nil
  | _+1,_,.str _=>List.Pairwise.nil
  | _+1,_,.non=>List.Pairwise.nil
  | _+1,_,.bl _=>List.Pairwise.nil
  | _+1,_,.int _=>List.Pairwise.nil
theorem lvs_ne:∀ (ls:List (List (List Nat) × List (List Nat))) (ks:List Int) (t:List Nat),t≠[]∨ls≠[]→∀ x∈lvs ls.length ks (treeD ls t),x.2≠[]
  | [],ks,t,h,x,hx=>by
    have:x=(ks,t):=by simpa [lvs,treeD,sD] using hx
    rw [this]
    exact h.resolve_right fun z=>z rfl
  | l :: ls,ks,t,_,x,hx=>by
    obtain ⟨p,hp,hx⟩:=List.mem_flatMap.mp hx
    have hm:=List.fst_mem_of_mem_zipIdx hp
    obtain ⟨u,hu,e⟩:=List.mem_map.mp hm
    rw [← e] at hx
    exact lvs_ne ls _ u (.inl ((cut_le l.1 l.2 t.length [] t (Nat.le_refl _)).2.2 u hu).1) x hx
end L2
set_option Elab.async false
set_option linter.all false
set_option maxRecDepth 100000
set_option maxHeartbeats 4000000
namespace Mine
open PySem L2 PyProof.Rows
def top (i:Nat):Stmt:=PySem.Challenge.pw_twainkeep_k13_whole_cut_and_sewn.main.body.getD i (.Pass ⟨0,0,0,0⟩)
abbrev sLongestAt:Stmt:=top 1
abbrev sPiecesOf:Stmt:=top 2
abbrev sCutUp:Stmt:=top 3
abbrev sNodesOf:Stmt:=top 4
abbrev sLeaves:Stmt:=top 5
abbrev sSewn:Stmt:=top 6
abbrev sPot:Stmt:=top 8
abbrev sTake:Stmt:=top 9
abbrev sSeed:Stmt:=top 10
abbrev sText:Stmt:=top 11
abbrev sMarks:Stmt:=top 12
abbrev sRules:Stmt:=top 13
abbrev sEnds:Stmt:=top 14
abbrev sLaw:Stmt:=top 15
def spPot:Sp:=fun vs H Q _=>∃ c s:Int,vs=[.int c,.int s]∧∀ (p:Addr) (a b:Int),H p=none→Q (.ref p) (upd H p (.lst [.int a,.int b]))
def spTake:Sp:=fun vs H Q _=>∃ (p:Addr) (m a b:Int),vs=[.ref p,.int m]∧H p=some (.lst [.int a,.int b])∧0 < m∧m < 2 ^ 64∧∀ r a' b':Int,0≤r→r < m→Q (.int r) (upd H p (.lst [.int a',.int b']))
def spSeed (K:PySem.W.Frag):Sp:=fun vs H Q _=>∃ (a:Addr) (ns:List Int),vs=[.ref a]∧SqL K H a (ns.map V.int)∧∀ (z:Int) (H':Hp),Same H H'→Q (.int z) H'
def spText:Sp:=fun vs H Q _=>∃ (p:Addr) (a b:Int),vs=[.ref p]∧H p=some (.lst [.int a,.int b])∧∀ (x:Str) (H':Hp),x.length≤400→Pot H p H'→Q (.str x) H'
section
variable {P:Program} {w:World} {K:PySem.W.Frag} {mg:Str→Option Value} {base:Heap}
theorem scPot:FnScope ["_law_cell", "_law_seed_here", "_law_number"] ["_law_cell", "_law_seed_here"] (defScope sPot):=⟨rfl,rfl,rfl,by decide +kernel,rfl,by decide +kernel,by decide +kernel⟩
theorem ok_pot {f:Addr} {fd:FuncData} (F:Fun K "_law_pot" "_law_pot" sPot f fd) (mabs:mg "abs" = none) (mint:mg "int" = none):FnOk P w K mg base CX0 1 f fd ["_law_cell", "_law_seed_here"] spPot:=by
  refine F.ok scPot (fun vs H Q E h=>?_) (fun cdv A outer s H vs Q E hr h=>?_)
  · obtain ⟨c,s,rfl,_⟩:=h
    rfl
  obtain ⟨c,s,rfl,k⟩:=h
  refine ⟨_,pss_cons (ps_set (i:=2) scPot.nd rfl (Or.inl rfl) (pe_op op_add (pe_op op_mul pe_int (pe_callB call_abs (by rfl) mabs boot_abs (pa_cons (pv 0) pa_nil)))
      (pe_callTy call_int1 (by rfl) mint boot_int (pa_cons (pe_cmpR op_lt (pv 0) pe_int (nomark _)) pa_nil))))
    (pss_cons (ps_if (pt_cmpR op_ge (pv 2) (pe_op op_pow pe_int pe_int) (nomark _)) (pss_one (ps_ret (pe_lst (pa_cons (pv 2) (pa_cons (pv 1) pa_nil))))) pss_nil)
    (pss_one (ps_ret (pe_lst (pa_cons pe_int (pa_cons (pe_op op_mod (pe_op op_add (pe_op op_add (pe_op op_mul (pv 1) pe_int) (pv 2)) pe_int) pe_int) pa_nil)))))),?_⟩
  refine ⟨_,rfl,_,rfl,_,_,rfl,rfl,.inl ⟨by decide,by decide⟩,_,rfl,_,_,rfl,rfl,.inr ⟨_,rfl,_,_,rfl,rfl,?_⟩⟩
  refine ⟨_,rfl,_,_,rfl,rfl,⟨by decide,by decide,by decide⟩,_,_,rfl,rfl,_,rfl,?_⟩
  refine ite2 (fun _=>?_) (fun _=>?_)
  · exact ⟨_,rfl,_,rfl,smn 2,fun l hl=>k l _ _ hl⟩
  · exact ⟨_,rfl,_,_,rfl,rfl,.inr ⟨by decide,by decide⟩,_,rfl,_,_,rfl,rfl,_,_,rfl,rfl,_,_,rfl,rfl,(by show (0:Int) < 2305843009213693951; decide),smn 2,fun l hl=>k l _ _ hl⟩
theorem scTake:FnScope ["_law_pot_here", "_law_many", "_law_value", "_law_twice"] ["_law_pot_here", "_law_many"] (defScope sTake):=⟨rfl,rfl,rfl,by decide +kernel,rfl,by decide +kernel,by decide +kernel⟩
theorem ok_take {f:Addr} {fd:FuncData} (F:Fun K "_law_take" "_law_take" sTake f fd):FnOk P w K mg base CX0 1 f fd ["_law_pot_here", "_law_many"] spTake:=by
  refine F.ok scTake (fun vs H Q E h=>?_) (fun cdv A outer s H vs Q E hr h=>?_)
  · obtain ⟨p,m,a,b,rfl,_⟩:=h
    rfl
  obtain ⟨p,m,a,b,rfl,hp,m0,m1,k⟩:=h
  refine ⟨_,pss_cons (ps_if (pt_cmpR op_gt (pe_ix ix_list (pv 0) pe_int (fun _ _=>rfl)) pe_int (nomark _))
      (pss_cons (ps_set (i:=2) scTake.nd rfl (Or.inl rfl) (pe_op op_mod (pe_ix ix_list (pv 0) pe_int (fun _ _=>rfl)) (pv 1)))
      (pss_cons (ps_asg (pe_op op_fdivB (pe_ix ix_list (pv 0) pe_int (fun _ _=>rfl)) (pv 1)) (pg_sub (pv 0) pe_int set_list))
      (pss_one (ps_ret (pv 2))))) pss_nil)
    (pss_cons (ps_asg (pe_op op_mod (pe_op op_add (pe_op op_mul (pe_ix ix_list (pv 0) pe_int (fun _ _=>rfl)) pe_int) pe_int) pe_int) (pg_sub (pv 0) pe_int set_list))
    (pss_cons (ps_set (i:=3) scTake.nd rfl (Or.inl rfl) (pe_op op_mod (pe_op op_mul (pe_op op_mod (pe_ix ix_list (pv 0) pe_int (fun _ _=>rfl)) pe_int)
        (pe_op op_add (pe_op op_fdivB (pe_ix ix_list (pv 0) pe_int (fun _ _=>rfl)) pe_int) pe_int)) pe_int))
    (pss_one (ps_ret (pe_op op_mod (pe_op op_fdivB (pv 3) pe_int) (pv 1)))))),?_⟩
  refine ⟨_,rfl,p,_,_,_,rfl,rfl,SqL.of hp,rfl,_,_,rfl,rfl,_,rfl,?_⟩
  refine ite2 (fun _=>?_) (fun _=>?_)
  · refine ⟨_,rfl,p,_,_,_,rfl,rfl,SqL.of hp,rfl,_,rfl,_,_,rfl,rfl,m0,?_⟩
    refine ⟨_,rfl,p,_,_,_,rfl,rfl,SqL.of hp,rfl,_,rfl,_,_,rfl,rfl,⟨m0,m1⟩,?_⟩
    refine ⟨_,rfl,p,_,_,0,rfl,rfl,hp,rfl,?_⟩
    exact ⟨_,rfl,k _ _ _ (Int.emod_nonneg a (by omega)) (Int.emod_lt_of_pos a m0)⟩
  · refine ⟨_,rfl,p,_,_,_,rfl,rfl,SqL.of hp,rfl,_,_,rfl,rfl,.inr ⟨by decide,by decide⟩,_,_,rfl,rfl,_,_,rfl,rfl,(by show (0:Int) < 2305843009213693951; decide),?_⟩
    refine ⟨_,rfl,p,_,_,1,rfl,rfl,hp,rfl,?_⟩
    have q0:0≤((b * 1181783497276652981+12345678910987) % 2305843009213693951) % 2147483629:=Int.emod_nonneg _ (by decide)
    have q1:((b * 1181783497276652981+12345678910987) % 2305843009213693951) % 2147483629 < 2147483629:=Int.emod_lt_of_pos _ (by decide)
    refine ⟨_,rfl,p,[.int a,.int ((b * 1181783497276652981+12345678910987) % 2305843009213693951)],_,_,rfl,rfl,SqL.of upd_same,rfl,_,_,rfl,rfl,(by show (0:Int) < 2147483629; decide),?_⟩
    refine ⟨_,rfl,p,[.int a,.int ((b * 1181783497276652981+12345678910987) % 2305843009213693951)],_,_,rfl,rfl,SqL.of upd_same,rfl,_,_,rfl,rfl,⟨by decide,by decide⟩,_,_,rfl,rfl,?_⟩
    refine ⟨_,_,rfl,rfl,.inl ⟨by omega,by omega⟩,_,_,rfl,rfl,(by show (0:Int) < 2305843009213693951; decide),?_⟩
    refine ⟨_,rfl,_,_,rfl,rfl,⟨by decide,by decide⟩,_,rfl,_,_,rfl,rfl,m0,?_⟩
    exact k _ a ((b * 1181783497276652981+12345678910987) % 2305843009213693951) (Int.emod_nonneg _ (by omega)) (Int.emod_lt_of_pos _ m0)
theorem scSeed:FnScope ["_law_script", "_law_seed_here", "_law_cell"] ["_law_script"] (defScope sSeed):=⟨rfl,rfl,rfl,by decide +kernel,rfl,by decide +kernel,by decide +kernel⟩
theorem ok_seed {f:Addr} {fd:FuncData} (F:Fun K "_law_seed" "_law_seed" sSeed f fd):FnOk P w K mg base CX0 1 f fd ["_law_script"] (spSeed K):=by
  refine F.ok scSeed (fun vs H Q E h=>?_) (fun cdv A outer s H vs Q E hr h=>?_)
  · obtain ⟨a,ns,rfl,_⟩:=h
    rfl
  obtain ⟨a,ns,rfl,hS,k⟩:=h
  refine ⟨_,pss_cons (ps_set (i:=1) scSeed.nd rfl (Or.inl rfl) pe_int)
    (pss_cons (ps_for PassesOwn.never rfl (pi_list (pe_slice sl_list (pv 0) po_none (po_some pe_int))) (pg_name (i:=2) scSeed.nd rfl (Or.inl rfl))
      (pss_one (ps_set (i:=1) scSeed.nd rfl (Or.inl rfl) (pe_op op_mod (pe_op op_add (pe_op op_add (pe_op op_mul (pv 1) pe_int) (pe_op op_mod (pv 2) (pe_op op_pow pe_int pe_int))) pe_int) pe_int))))
    (pss_one (ps_ret (pv 1)))),?_⟩
  refine ⟨_,rfl,_,rfl,a,_,rfl,hS,fun p hp=>?_⟩
  obtain ⟨ms,em,_⟩:=cutV_ints ns none (some 63)
  refine ⟨p,rfl,⟨_,SqL.of upd_same⟩,?_⟩
  rw [em]
  refine for_list (K:=K) (a:=p) (xs:=ms.map V.int) (fun i σ H2=>∃ (z:Int) (v:Option V),σ=[some (.ref a),some (.int z),v]∧H2=upd H p (.lst (ms.map V.int))) ⟨_,none,rfl,rfl⟩ ?_ ?_ ?_
  · rintro i σ H2 _ ⟨z,v,rfl,rfl⟩
    exact SqL.of upd_same
  · rintro i y σ H2 hi ⟨z,v,rfl,rfl⟩
    obtain ⟨c,rfl⟩:=map_int_at hi
    exact ⟨_,rfl,_,_,rfl,rfl,.inr ⟨by decide,by decide⟩,_,rfl,_,_,rfl,rfl,⟨by decide,by decide,by decide⟩,_,_,rfl,rfl,(by show (0:Int) < 10 ^ 30; decide),_,_,rfl,rfl,_,_,rfl,rfl,_,_,rfl,rfl,(by show (0:Int) < 2305843009213693951; decide),_,_,rfl,rfl⟩
  · rintro σ H2 ⟨z,v,rfl,rfl⟩
    exact ⟨_,rfl,k z _ (same_new hp _)⟩
end
section
variable {P:Program} {w:World} {K:PySem.W.Frag} {mg:Str→Option Value} {base:Heap}
theorem c_pot (h:Has K mg "_law_pot" sPot ["_law_cell", "_law_seed_here"]) (m_abs:mg "abs" = none) (m_int:mg "int" = none):Cal P w K mg base "_law_pot" 1 ["_law_cell", "_law_seed_here"] spPot:=h.cal fun f fd F _ _=>ok_pot F m_abs m_int
theorem c_take (h:Has K mg "_law_take" sTake ["_law_pot_here", "_law_many"]):Cal P w K mg base "_law_take" 1 ["_law_pot_here", "_law_many"] spTake:=h.cal fun f fd F _ _=>ok_take F
theorem c_seed (h:Has K mg "_law_seed" sSeed ["_law_script"]):Cal P w K mg base "_law_seed" 1 ["_law_script"] (spSeed K):=h.cal fun f fd F _ _=>ok_seed F
end
def tInts:List Int→TA
  | []=>tNil
  | c :: cs=>tCons (tC (.int c)) (tInts cs)
theorem read_ints {σ:L2.St} {H:Hp}:∀ {cs:List Int} {Q:List V→Hp→Prop},Q (cs.map V.int) H→tInts cs σ H Q
  | [],_,h=>h
  | _ :: cs,Q,h=>read_ints (cs:=cs) (Q:=fun xs H2=>Q (_ :: xs) H2) h
theorem draw {σ:L2.St} {H0 H:Hp} {i:Nat} {p:Addr} {m:Int} {Q:VK} (hσ:σ[i]?=some (some (.ref p))) (P:Pot H0 p H) (h0:0 < m) (h1:m < 2 ^ 64) (k:∀ (n:Int) (H':Hp),0≤n→n < m→Pot H0 p H'→Same2 p H H'→Q (.int n) H') :
    tCall spTake [] E0 (tCons (tVar i) (tCons (tC (.int m)) tNil)) σ H Q:=by
  obtain ⟨a,b,e⟩:=P.at_
  exact ⟨_,hσ,p,m,a,b,rfl,e,h0,h1,fun r a' b' r0 r1=>k r _ r0 r1 P.turn fun c o z hc=>by rw [upd_ne hc]; exact z⟩
theorem draw_menu {K:PySem.W.Frag} {σ:L2.St} {H0 H:Hp} {i:Nat} {p:Addr} {cs:List Int} {m hi:Int} {Q:VK} (hσ:σ[i]?=some (some (.ref p))) (P:Pot H0 p H) (hm:(cs.length:Int)=m) (h0:0 < cs.length) (hl:cs.length≤1000) (hc:∀ c∈cs,1≤c∧c≤hi) (hh:hi < 2 ^ 64)
    (k:∀ (n:Int) (H':Hp),0≤n→n < hi→Pot H0 p H'→Same2 p H H'→Q (.int n) H') :
    tCall spTake [] E0 (tCons (tVar i) (tCons (tOp (rIxL K) (tLst (tInts cs)) (tCall spTake [] E0 (tCons (tVar i) (tCons (tC (.int m)) tNil)))) tNil)) σ H Q:=by
  refine ⟨_,hσ,read_ints ⟨by rw [List.length_map]; exact small hl,fun l hl=>?_⟩⟩
  have nlp:l≠p:=P.apart hl
  refine draw hσ (P.new hl) (by omega) (by omega) fun r H2 r0 r1 P2 s2=>?_
  have hl2:H2 l=some (.lst (cs.map V.int)):=s2 l _ upd_same nlp
  refine menu_int (lo:=1) (hi:=hi) hl2 r0 (by rw [List.length_map]; omega) (fun v hv=>?_) fun z z0 z1=>?_
  · obtain ⟨c,hc',rfl⟩:=List.mem_map.mp hv
    exact ⟨c,rfl,hc c hc'⟩
  · obtain ⟨a,b,e⟩:=P2.at_
    refine ⟨p,z,a,b,rfl,e,by omega,by omega,fun n a' b' n0 n1=>k n _ n0 (by omega) P2.turn fun c o e' hc'=>?_⟩
    rw [upd_ne hc']
    refine s2 c o ?_ hc'
    rw [upd_ne (ne_of_none e' hl)]
    exact e'
section
variable {P:Program} {w:World} {K:PySem.W.Frag} {mg:Str→Option Value} {base:Heap}
theorem scText:FnScope ["_law_pot_here", "_law_every", "_law_signs", "_law_size"] ["_law_pot_here"] (defScope sText):=⟨rfl,rfl,rfl,by decide +kernel,rfl,by decide +kernel,by decide +kernel⟩
theorem ok_text {f fT:Addr} {fd fdT:FuncData} (F:Fun K "_law_text" "_law_text" sText f fd) (GT:FnOk P w K mg base CX0 1 fT fdT ["_law_pot_here", "_law_many"] spTake) (bT:Binds K fdT ["_law_pot_here", "_law_many"] []) (kT:PySem.W.keepIn K (.ref fT)=true)
    (mT:mg "_law_take" = some (.ref fT)) (mlen:mg "len" = none) (mrange:mg "range" = none):FnOk P w K mg base CX0 2 f fd ["_law_pot_here"] spText:=by
  refine F.ok scText (fun vs H Q E h=>?_) (fun cdv A outer s H vs Q E hr h=>?_)
  · obtain ⟨p,a,b,rfl,_⟩:=h
    rfl
  obtain ⟨p,a,b,rfl,hp,k⟩:=h
  refine ⟨_,pss_cons (ps_set (i:=1) scText.nd rfl (Or.inl rfl) pe_str)
    (pss_cons (ps_set (i:=1) scText.nd rfl (Or.inl rfl) (pe_op op_add_str (pv 1) pe_str))
    (pss_cons (ps_set (i:=2) scText.nd rfl (Or.inr rfl) (pe_ix ix_list (pe_lst (pa_cons pe_str (pa_cons pe_str (pa_cons pe_str (pa_cons (pv 1) pa_nil))))) (pe_call GT hr rfl mT kT bT .nil pass0 (pa_cons (pv 0) (pa_cons pe_int pa_nil))) (fun _ _=>rfl)))
    (pss_cons (ps_set (i:=3) scText.nd rfl (Or.inl rfl) (pe_call GT hr rfl mT kT bT .nil pass0 (pa_cons (pv 0) (pa_cons (pe_ix ix_list (pe_lst (pa_cons pe_int (pa_cons pe_int (pa_cons pe_int (pa_cons pe_int (pa_cons pe_int (pa_cons pe_int (pa_cons pe_int (pa_cons pe_int pa_nil)))))))))
        (pe_call GT hr rfl mT kT bT .nil pass0 (pa_cons (pv 0) (pa_cons pe_int pa_nil))) (fun _ _=>rfl)) pa_nil))))
    (pss_one (ps_ret (pe_bm PySem.F.plainAttrs_str PySem.F.slot_str_join PySem.F.type_str_join mt_join pe_str (pa_cons
      (pe_compL ["_law_pot_here", "_law_every", "_law_signs", "_law_size"] (defScope sText) ["_law_pot_here", "_law_signs", "_law_k"] [some 0,some 2,none] rfl rfl rfl (pi_range1 rfl mrange (pa_cons (pv 3) pa_nil)) rfl (by decide +kernel) (by decide +kernel) (by decide +kernel) (by decide +kernel)
        (fun cl C s H ex pn E=>pg_name (i:=2) (by decide +kernel:(["_law_pot_here", "_law_signs", "_law_k"]:List Str).Nodup) rfl (Or.inl rfl)) (fun cl C s H ex pn E=>pifs_nil)
        (fun cl C s H ex pn E=>pe_ix ix_str (pv 1) (pe_call GT hr rfl mT kT bT .nil pass0 (pa_cons (pv 0) (pa_cons (pe_callB call_len_str rfl mlen PySem.boot_len (pa_cons (pv 1) pa_nil)) pa_nil))) (fun _ _=>rfl))) pa_nil))))))),?_⟩
  have P0:Pot H p H:=⟨⟨a,b,hp⟩,fun c o e _=>e⟩
  refine ⟨_,rfl,_,_,rfl,rfl,small (by decide +kernel),?_⟩
  refine ⟨_,rfl,smn 4,fun l hl=>?_⟩
  have npl:l≠p:=P0.apart hl
  refine ⟨_,rfl,p,4,a,b,rfl,(upd_ne npl.symm).trans hp,by decide,by decide,fun r a2 b2 r0 r1=>?_⟩
  refine menu_str (Eq.trans (upd_ne npl) upd_same) r0 r1 ?_ fun sg s0 s1=>?_
  · intro v hv
    simp only [List.mem_cons,List.not_mem_nil,or_false] at hv
    rcases hv with rfl | rfl | rfl | rfl <;> exact ⟨_,rfl,by decide +kernel,by decide +kernel⟩
  refine ⟨_,rfl,smn 8,fun l2 hl2=>?_⟩
  have npl2:l2≠p:=(ne_of_none upd_same hl2).symm
  refine ⟨_,rfl,p,8,a2,b2,rfl,(upd_ne npl2.symm).trans upd_same,by decide,by decide,fun r3 a4 b4 r30 r31=>?_⟩
  refine menu_int (lo:=1) (hi:=401) (Eq.trans (upd_ne npl2) upd_same) r30 r31 ?_ fun z z0 z1=>?_
  · intro v hv
    simp only [List.mem_cons,List.not_mem_nil,or_false] at hv
    rcases hv with rfl | rfl | rfl | rfl | rfl | rfl | rfl | rfl <;> exact ⟨_,rfl,by decide,by decide⟩
  refine ⟨p,z,a4,b4,rfl,upd_same,by omega,by omega,fun n a6 b6 n0 n1=>?_⟩
  refine ⟨rfl,_,rfl,n,rfl,by omega,by omega,fun l3 hl3=>?_⟩
  have npl3:l3≠p:=(ne_of_none upd_same hl3).symm
  have fl3:H l3=none:=(((((P0.new hl).turn).new hl2).turn).turn).free hl3
  refine comp_by (J:=Itr 0 n.toNat) (l:=l3) n.toNat (fun i σ' H'=>∃ (cs:List Nat) (v:Option V),cs.length=i∧σ'=[some (.ref p),some (.str sg),v]∧H' l3=some (.lst (cs.map fun c=>V.str ⟨#[c]⟩))∧Pot H p H') ⟨[],none,rfl,rfl,upd_same,(((((P0.new hl).turn).new hl2).turn).turn).new hl3⟩ ?_ ?_
  · rintro σ' H' ⟨cs,v,hcs,rfl,hl',hP⟩
    refine ⟨Nat.le_refl _,_,l3,cs.map (fun c=>(⟨#[c]⟩:Str)),rfl,rfl,SqL.of (by rw [List.map_map]; exact hl'),join_fits (by decide +kernel) cs (by omega),?_⟩
    refine k _ _ ?_ hP
    rw [join_len (by decide +kernel)]
    omega
  · rintro i σ' H' hi ⟨cs,v,hcs,rfl,hl',hP⟩
    refine ⟨hi,?_⟩
    rintro x H'' ⟨rfl,rfl⟩
    refine gN (yesT (iteT ?_))
    obtain ⟨a7,b7,e7⟩:=id hP.at_
    refine ⟨_,rfl,_,rfl,_,rfl,sg,rfl,small s1,p,(sg.length:Int),a7,b7,rfl,e7,by omega,by omega,fun r5 a8 b8 r50 r51=>?_⟩
    obtain ⟨c,hc,_⟩:=atI_lt (xs:=sg.cps.toList) r50 (by simpa [Str.length] using r51)
    refine ⟨sg,r5,c,rfl,rfl,small s1,hc,?_⟩
    refine ⟨cs.map (fun c=>V.str ⟨#[c]⟩),Eq.trans (upd_ne npl3) hl',by rw [List.length_map]; exact small1000 (by omega),cs++[c],_,by rw [List.length_append,hcs]; rfl,rfl,?_,(hP.turn).list fl3 npl3⟩
    rw [upd_same,List.map_append]
    rfl
end
theorem c_text {P:Program} {w:World} {K:PySem.W.Frag} {mg:Str→Option Value} {base:Heap} (h:Has K mg "_law_text" sText ["_law_pot_here"]) (C_take:Cal P w K mg base "_law_take" 1 ["_law_pot_here", "_law_many"] spTake) (m_len:mg "len" = none) (m_range:mg "range" = none):Cal P w K mg base "_law_text" 2 ["_law_pot_here"] spText:=by
  obtain ⟨fT,fdT,GT,bT,kT,mT⟩:=C_take.ex
  exact h.cal fun f fd F _ _=>ok_text F GT bT kT mT m_len m_range
def spLong:Sp:=fun vs H Q _=>∃ (t:List Nat) (i:Nat) (p:Addr) (cs:List (List Nat)),vs=[.str ⟨t.toArray⟩,.int (i:Nat),.ref p]∧H p=some (.tup (cs.map mkT))∧OkC cs∧t.length≤1000∧i≤t.length∧∀ H',Same H H'→Q (.int ((M08.lng (t.drop i) cs:Nat):Int)) H'
def spPieces:Sp:=fun vs H Q _=>∃ (t:List Nat) (v:V) (ms ks:List (List Nat)),vs=[.str ⟨t.toArray⟩,v]∧Den H v (lvD ms ks)∧OkC ms∧OkC ks∧t.length≤1000∧∀ (q:Addr) (H':Hp),Same H H'→H' q=some (.tup ((M08.cut ms ks [] t).map mkT))→Q (.ref q) H'
section
open M08
variable {P:Program} {w:World} {K:PySem.W.Frag} {mg:Str→Option Value} {base:Heap}
theorem scLongestAt:FnScope ["text", "place", "choices"] ["text", "place", "choices"] (defScope sLongestAt):=⟨rfl,rfl,rfl,by decide +kernel,rfl,by decide +kernel,by decide +kernel⟩
theorem c_longest_at (h:Has K mg "longest_at" sLongestAt ["text", "place", "choices"]) (m_max:mg "max" = none) (m_len:mg "len" = none):Cal P w K mg base "longest_at" 1 ["text", "place", "choices"] spLong:=by
  refine h.mk' scLongestAt (fun vs H Q E hs=>?_) (fun f cdv A outer s H vs Q E hr hs=>?_)
  · obtain ⟨t,i,p,cs,rfl,_⟩:=hs
    rfl
  obtain ⟨t,i,p,cs,rfl,hp,hc,ht,hit,k⟩:=hs
  refine ⟨_,(pss_one (ps_ret (pe_maxD rfl m_max rfl (pe_compL ["text", "place", "choices"] (defScope sLongestAt) ["text", "place", "choice"] [some 0,some 1,none] rfl rfl rfl (pi_tup (pv 2)) rfl (by decide +kernel) (by decide +kernel) (by decide +kernel) (by decide +kernel) (hg:=fun cl C s H ex pn E=>(pg_name (i:=2) (by decide +kernel:(["text", "place", "choice"]:List Str).Nodup) rfl (Or.inl rfl))) (ht:=fun cl C s H ex pn E=>(pifs_one (pt_val (pe_bmK (K:=K) rfl PySem.F.plainAttrs_str PySem.F.slot_str_startswith PySem.F.type_str_startswith mt_starts (pv 0) (pa_cons (pv 2) (pa_cons (pv 1) pa_nil)))))) (he:=fun cl C s H ex pn E=>(pe_callB call_len_str rfl m_len PySem.boot_len (pa_cons (pv 2) pa_nil))))))),?_⟩
  refine ⟨_,rfl,p,rfl,⟨_,SqT.of hp⟩,fun l hl=>?_⟩
  have npl:p≠l:=ne_of_none hp hl
  refine comp_by (J:=Itt K p) (l:=l) cs.length (fun j σ' H'=>∃ v:Option V,σ'=[some (.str ⟨t.toArray⟩),some (.int (i:Nat)),v]∧H'=upd H l (.lst ((lensN (t.drop i) cs j).map V.int))) ⟨none,rfl,rfl⟩ ?_ ?_
  · rintro σ' H' ⟨v,rfl,rfl⟩
    refine ⟨⟨_,SqT.of ((upd_ne npl).trans hp),by simp⟩,l,_,rfl,SqL.of upd_same,fun n hn=>?_,?_⟩
    · obtain ⟨c,_,rfl⟩:=List.mem_map.mp hn
      omega
    · have e:(lensN (t.drop i) cs cs.length).foldr max 0=((lng (t.drop i) cs:Nat):Int):=by
        unfold lensN
        rw [List.take_length]
        exact lens_max _ _
      rw [e]
      exact k _ (same_new hl _)
  · rintro j σ' H' hj ⟨v,rfl,rfl⟩
    have hp':(upd H l (.lst ((lensN (t.drop i) cs j).map V.int))) p=some (.tup (cs.map mkT)):=(upd_ne npl).trans hp
    refine ⟨⟨_,_,SqT.of hp',at_T hj⟩,?_⟩
    rintro y H'' ⟨rfl,hy⟩
    have ey:y=mkT cs[j]:=Option.some.inj ((hy _ (SqT.of hp')).symm.trans (at_T hj))
    subst ey
    have hcj:=hc.size cs[j] (List.getElem_mem hj)
    have hfew:=hc.few
    refine gN ⟨_,rfl,rfl,_,rfl,_,rfl,_,_,i,rfl,rfl,by rw [lenT]; exact hit,_,rfl,?_⟩
    have hsuc:=lensN_succ (t:=t.drop i) hj
    refine ite2 (fun h=>?_) (fun h=>?_)
    · have h':cs[j].isPrefixOf (t.drop i)=true:=h
      rw [if_pos h'] at hsuc
      refine ⟨_,rfl,_,rfl,small (by rw [lenT]; omega),_,upd_same,?_,_,rfl,?_⟩
      · rw [List.length_map]
        exact Nat.lt_of_le_of_lt (lensN_le _ _ _) (small1000 (by omega))
      · rw [upd_upd,hsuc,List.map_append,lenT]
        rfl
    · have h':¬ cs[j].isPrefixOf (t.drop i)=true:=h
      rw [if_neg h',List.append_nil] at hsuc
      rw [← hsuc]
      exact ⟨_,rfl,rfl⟩
def PInv (t:List Nat) (ms ks:List (List Nat)) (p pm pk l:Addr) (H:Hp) (m:Nat) (σ:L2.St) (H2:Hp):Prop :=
  ∃ (b e:Nat) (v7 v8:Option V) (ps:List (List Nat)),m=t.length - e∧b≤e∧e≤t.length∧σ=[some (.str ⟨t.toArray⟩),some (.ref p),some (.ref pm),some (.ref pk),some (.ref l),some (.int (b:Nat)),some (.int (e:Nat)),v7,v8] ∧
    H2 l=some (.lst (ps.map mkT))∧Same H H2∧ps++cut ms ks ((t.drop b).take (e - b)) (t.drop e)=cut ms ks [] t∧ps.length≤e
theorem ended_read {t:List Nat} {ms ks:List (List Nat)} {p pm pk l:Addr} {b e:Nat} {v8:Option V} {H3:Hp} {Q:VK} (hpm:H3 pm=some (.tup (ms.map mkT))) (hm:OkC ms) (ht:t.length≤1000) (he:e≤t.length)
    (fin:∀ H4,Same H3 H4→Q (.int ((ended ms ks (t.drop e):Nat):Int)) H4) :
    tIf (fun σ H Q=>tVar 7 σ H fun x H'=>∃ k,TruV K x H' k∧Q k H') (tC (.int 0)) (tCall spLong [] E0 (tCons (tVar 0) (tCons (tVar 6) (tCons (tVar 2) tNil))))
      [some (.str ⟨t.toArray⟩),some (.ref p),some (.ref pm),some (.ref pk),some (.ref l),some (.int (b:Nat)),some (.int (e:Nat)),some (.int ((lng (t.drop e) ks:Nat):Int)),v8] H3 Q:=by
  refine ⟨_,rfl,_,rfl,?_⟩
  refine ite2 (fun c=>?_) (fun c=>?_)
  · have hne:lng (t.drop e) ks≠0:=fun z=>by rw [z] at c; exact absurd c (by decide)
    have q:=fin H3 (Same.refl _)
    unfold ended at q
    rw [if_neg hne] at q
    exact q
  · have hz:lng (t.drop e) ks=0:=by
      by_cases z:lng (t.drop e) ks=0
      · exact z
      · exact absurd (bne_iff_ne.mpr (show ((lng (t.drop e) ks:Nat):Int)≠0 by omega)) c
    refine ⟨_,rfl,_,rfl,_,rfl,t,e,pm,ms,rfl,hpm,hm,ht,he,fun H4 s4=>?_⟩
    have q:=fin H4 s4
    unfold ended at q
    rw [if_pos hz] at q
    exact q
theorem scPiecesOf:FnScope ["text", "level", "marks", "kept", "pieces", "begin", "place", "passed", "ended"] ["text", "level"] (defScope sPiecesOf):=⟨rfl,rfl,rfl,by decide +kernel,rfl,by decide +kernel,by decide +kernel⟩
theorem c_pieces_of (h:Has K mg "pieces_of" sPiecesOf ["text", "level"]) (C_longest_at:Cal P w K mg base "longest_at" 1 ["text", "place", "choices"] spLong) (m_len:mg "len" = none) (m_max:mg "max" = none) (m_tuple:mg "tuple" = none):Cal P w K mg base "pieces_of" 2 ["text", "level"] spPieces:=by
  refine h.mk' scPiecesOf (fun vs H Q E hs=>?_) (fun f cdv A outer s H vs Q E hr hs=>?_)
  · obtain ⟨t,v,ms,ks,rfl,_⟩:=hs
    rfl
  obtain ⟨t,v,ms,ks,rfl,hv,hm,hk,ht,kk⟩:=hs
  obtain ⟨p,pm,pk,rfl,hp,hpm,hpk⟩:=den_lv hv
  refine ⟨_,(pss_cons (ps_set (i:=2) scPiecesOf.nd rfl (Or.inl rfl) (pe_ix ix_tup (pv 1) pe_int (fun _ _=>rfl)))
    (pss_cons (ps_set (i:=3) scPiecesOf.nd rfl (Or.inl rfl) (pe_ix ix_tup (pv 1) pe_int (fun _ _=>rfl)))
    (pss_cons (ps_set (i:=4) scPiecesOf.nd rfl (Or.inl rfl) (pe_lst pa_nil))
    (pss_cons (ps_set (i:=5) scPiecesOf.nd rfl (Or.inl rfl) pe_int)
    (pss_cons (ps_set (i:=6) scPiecesOf.nd rfl (Or.inl rfl) pe_int)
    (pss_cons (ps_while PassesOwn.never (pt_cmpR op_lt (pv 6) (pe_callB call_len_str rfl m_len PySem.boot_len (pa_cons (pv 0) pa_nil)) (nomark _))
      (pss_cons (ps_set (i:=7) scPiecesOf.nd rfl (Or.inl rfl) (pe_cal C_longest_at hr (by decide) rfl (pa_cons (pv 0) (pa_cons (pv 6) (pa_cons (pv 3) pa_nil)))))
    (pss_cons (ps_set (i:=8) scPiecesOf.nd rfl (Or.inl rfl) (pe_ifExp (pt_truth (pv 7) (by intro _; rfl)) pe_int (pe_cal C_longest_at hr (by decide) rfl (pa_cons (pv 0) (pa_cons (pv 6) (pa_cons (pv 2) pa_nil))))))
    (pss_cons (ps_aug (i:=6) scPiecesOf.nd rfl (Or.inl rfl) (pe_callB (call_max3 rfl) rfl m_max boot_max (pa_cons (pv 7) (pa_cons (pv 8) (pa_cons pe_int pa_nil)))) iop_add)
    (pss_one (ps_if (pt_truth (pv 8) (by intro _; rfl))
      (pss_cons (ps_expr (pe_bm PySem.F.plainAttrs_list PySem.F.slot_list_append PySem.F.type_list_append mt_append (pv 4) (pa_cons (pe_slice sl_str (pv 0) (po_some (pv 5)) (po_some (pv 6))) pa_nil)))
    (pss_one (ps_set (i:=5) scPiecesOf.nd rfl (Or.inl rfl) (pv 6))))
      pss_nil))))))
    (pss_cons (ps_if (pt_cmpR op_lt (pv 5) (pe_callB call_len_str rfl m_len PySem.boot_len (pa_cons (pv 0) pa_nil)) (nomark _))
      (pss_one (ps_expr (pe_bm PySem.F.plainAttrs_list PySem.F.slot_list_append PySem.F.type_list_append mt_append (pv 4) (pa_cons (pe_slice sl_str (pv 0) (po_some (pv 5)) po_none) pa_nil))))
      pss_nil)
    (pss_one (ps_ret (pe_callTy call_tuple_of rfl m_tuple boot_tuple (pa_cons (pv 4) pa_nil))))))))))),?_⟩
  have hz:(⟨t.toArray⟩:Str).length≤sizeLine:=small (by rw [lenT]; omega)
  refine ⟨_,rfl,p,_,_,_,rfl,rfl,SqT.of hp,rfl,?_⟩
  refine ⟨_,rfl,p,_,_,_,rfl,rfl,SqT.of hp,rfl,?_⟩
  refine ⟨smn 0,fun l hl=>?_⟩
  refine ⟨PInv t ms ks p pm pk l H,⟨t.length,0,0,none,none,[],rfl,Nat.le_refl _,Nat.zero_le _,rfl,upd_same,same_new hl _,rfl,Nat.le_refl _⟩,?_⟩
  rintro m σ H2 ⟨b,e,v7,v8,ps,rfl,h1,h2,rfl,hl2,hS,hcut,hpl⟩
  refine ⟨_,rfl,_,rfl,_,rfl,hz,_,_,rfl,rfl,_,rfl,?_⟩
  rw [lenT]
  refine ite2 (fun c=>?_) (fun c=>?_)
  · have hlt:e < t.length:=by
      have:=of_decide_eq_true c
      omega
    refine ⟨fun σ' H'=>∃ m',m' < t.length - e∧PInv t ms ks p pm pk l H m' σ' H',fun _ _ z=>z,?_⟩
    have hne:t.drop e≠[]:=fun z=>by
      have:=congrArg List.length z
      rw [List.length_drop] at this
      simp at this
      omega
    have hs1:=stepN_pos ms ks (t.drop e)
    have hs2:stepN ms ks (t.drop e)≤t.length - e:=by
      have:=stepN_le (ms:=ms) (ks:=ks) hne
      rw [List.length_drop] at this
      exact this
    refine ⟨_,rfl,_,rfl,_,rfl,t,e,pk,ks,rfl,hS _ _ hpk,hk,ht,by omega,fun H3 s3=>?_⟩
    refine ended_read (s3 _ _ (hS _ _ hpm)) hm ht (by omega) fun H4 s4=>?_
    have hl4:H4 l=some (.lst (ps.map mkT)):=s4 _ _ (s3 _ _ hl2)
    have hS4:Same H H4:=hS.trans (s3.trans s4)
    refine ⟨_,rfl,_,rfl,_,rfl,_,_,_,rfl,_,_,rfl,rfl,?_⟩
    have epl:((e:Nat):Int)+max (max ((lng (t.drop e) ks:Nat):Int) ((ended ms ks (t.drop e):Nat):Int)) 1=((e+stepN ms ks (t.drop e):Nat):Int):=by
      unfold stepN
      omega
    dsimp only
    rw [epl]
    refine ⟨_,rfl,_,rfl,?_⟩
    have htk:(t.drop b).take (e+stepN ms ks (t.drop e) - b)=(t.drop b).take (e - b)++(t.drop e).take (stepN ms ks (t.drop e)):=by
      have e1:e+stepN ms ks (t.drop e) - b=(e - b)+stepN ms ks (t.drop e):=by omega
      rw [e1,List.take_add,List.drop_drop]
      congr 2
      congr 1
      omega
    have hdr:(t.drop e).drop (stepN ms ks (t.drop e))=t.drop (e+stepN ms ks (t.drop e)):=by rw [List.drop_drop]
    refine ite2 (fun d=>?_) (fun d=>?_)
    · have hen:ended ms ks (t.drop e)≠0:=fun z=>by rw [z] at d; exact absurd d (by decide)
      refine ⟨_,rfl,.inl ⟨rfl,_,SqL.of hl4⟩,_,rfl,_,rfl,_,rfl,_,rfl,_,rfl,_,rfl,hz,?_⟩
      refine ⟨l,_,_,rfl,rfl,hl4,by rw [List.length_map]; exact small1000 (by omega),?_⟩
      rw [slice_bo t (by omega)]
      refine ⟨_,rfl,t.length - (e+stepN ms ks (t.drop e)),by omega,e+stepN ms ks (t.drop e),e+stepN ms ks (t.drop e),_,_,ps++[(t.drop b).take (e+stepN ms ks (t.drop e) - b)],rfl,Nat.le_refl _,by omega,rfl,?_,?_,?_,?_⟩
      · rw [upd_same,List.map_append]
        rfl
      · intro c o z
        rw [upd_ne (ne_of_none z hl)]
        exact hS4 c o z
      · rw [Nat.sub_self,List.take_zero,← hcut,cut_end hne hen,hdr,htk,List.append_assoc]
        rfl
      · rw [List.length_append]
        show _+1≤_
        omega
    · have hen:ended ms ks (t.drop e)=0:=by
        by_cases z:ended ms ks (t.drop e)=0
        · exact z
        · exact absurd (bne_iff_ne.mpr (show ((ended ms ks (t.drop e):Nat):Int)≠0 by omega)) d
      refine ⟨t.length - (e+stepN ms ks (t.drop e)),by omega,b,e+stepN ms ks (t.drop e),_,_,ps,rfl,by omega,by omega,rfl,hl4,hS4,?_,by omega⟩
      rw [← hcut,cut_on hne hen,hdr,htk]
  · have hge:e=t.length:=by
      by_cases z:e < t.length
      · exact absurd (decide_eq_true (show ((e:Nat):Int) < ((t.length:Nat):Int) by omega)) c
      · omega
    subst hge
    rw [List.drop_length,cut_nil] at hcut
    have fin:∀ (H3:Hp) (rs:List (List Nat)),Same H H3→H3 l=some (.lst (rs.map mkT))→rs=cut ms ks [] t→∀ v7 v8:Option V,
        tRet (tCB (fun xs H Q=>∃ p ys,xs=[.ref p]∧((SqL K H p ys∧∀ l,H l=none→Q (.ref l) (upd H l (.tup ys)))∨(SqT K H p ys∧Q (.ref p) H))) (tCons (tVar 4) tNil)) { nx:=fun _ H'=>Q .non H',rt:=Q }
        [some (.str ⟨t.toArray⟩),some (.ref p),some (.ref pm),some (.ref pk),some (.ref l),some (.int (b:Nat)),some (.int ((t.length:Nat):Int)),v7,v8] H3:=fun H3 rs s3 e3 er v7 v8=>by
      refine ⟨_,rfl,l,_,rfl,.inl ⟨SqL.of e3,fun q hq=>?_⟩⟩
      refine kk q _ (s3.trans (same_new hq _)) ?_
      rw [upd_same,er]
    refine ⟨_,rfl,_,rfl,_,rfl,hz,_,_,rfl,rfl,_,rfl,?_⟩
    rw [lenT]
    refine ite2 (fun d=>?_) (fun d=>?_)
    · have hb:b < t.length:=by
        have:=of_decide_eq_true d
        omega
      refine ⟨_,rfl,.inl ⟨rfl,_,SqL.of hl2⟩,_,rfl,_,rfl,_,rfl,_,rfl,hz,?_⟩
      refine ⟨l,_,_,rfl,rfl,hl2,by rw [List.length_map]; exact small1000 (by omega),?_⟩
      rw [slice_fr]
      refine fin _ (ps++[t.drop b]) (fun c o z=>by rw [upd_ne (ne_of_none z hl)]; exact hS c o z) (by rw [upd_same,List.map_append]; rfl) ?_ _ _
      rw [← hcut]
      have:(t.drop b).take (t.length - b)=t.drop b:=List.take_of_length_le (by rw [List.length_drop]; omega)
      rw [this,if_neg (fun z=>by
        have:=congrArg List.length z
        rw [List.length_drop] at this
        simp at this
        omega)]
    · have hb:b=t.length:=by
        by_cases z:b < t.length
        · exact absurd (decide_eq_true (show ((b:Nat):Int) < ((t.length:Nat):Int) by omega)) d
        · omega
      refine fin _ ps hS hl2 ?_ _ _
      rw [← hcut,hb,List.drop_length]
      simp
end
abbrev Lvl:=List (List Nat) × List (List Nat)
def rulesD (ls:List Lvl):D:=.tup (ls.map fun l=>lvD l.1 l.2)
def OkL (ls:List Lvl):Prop:=∀ l∈ls,OkC l.1∧OkC l.2
def spCut:Nat→Sp
  | 0=>fun _ _ _ _=>False
  | n+1=>fun vs H Q _=>∃ (t:List Nat) (v:V) (ls:List Lvl),vs=[.str ⟨t.toArray⟩,v]∧Den H v (rulesD ls)∧ls≠[]∧ls.length≤n+1∧OkL ls∧t.length≤1000∧∀ (q:Addr) (H':Hp),Same H H'→Den H' (.ref q) (treeD ls t)→Q (.ref q) H'
section
open M08
variable {P:Program} {w:World} {K:PySem.W.Frag} {mg:Str→Option Value} {base:Heap}
theorem cutV_one (x:V) (xs:List V):cutV (x :: xs) (some 1) none=xs:=by
  unfold cutV
  have e1:HT.sIx (x :: xs).length 0 (some 1)=1:=by
    have:=HT.sIx_nat (x :: xs).length 0 1
    rw [show ((1:Nat):Int)=1 from rfl] at this
    rw [this,List.length_cons]
    omega
  rw [e1,HT.sIx_none]
  simp
theorem scCutUp:FnScope ["text", "rules", "pieces"] ["text", "rules"] (defScope sCutUp):=⟨rfl,rfl,rfl,by decide +kernel,rfl,by decide +kernel,by decide +kernel⟩
theorem c_cut_up (h:Has K mg "cut_up" sCutUp ["text", "rules"]) (C_pieces_of:Cal P w K mg base "pieces_of" 2 ["text", "level"] spPieces) (m_len:mg "len" = none) (m_tuple:mg "tuple" = none) :
    ∀ n:Nat,Cal P w K mg base "cut_up" (n+2) ["text", "rules"] (spCut n)
  | 0=>(h.never fun _ _ _ _ z=>z).mono (by omega)
  | n+1=>by
    have C_cut_up:=c_cut_up h C_pieces_of m_len m_tuple n
    refine h.mk' scCutUp (fun vs H Q E hs=>?_) (fun f cdv A outer s H vs Q E hr hs=>?_)
    · obtain ⟨t,v,ls,rfl,_⟩:=hs
      rfl
    obtain ⟨t,v,ls,rfl,hv,hnn,hln,hok,ht,kk⟩:=hs
    refine ⟨_,(pss_cons (ps_set (i:=2) scCutUp.nd rfl (Or.inl rfl) (pe_cal C_pieces_of hr (by omega) rfl (pa_cons (pv 0) (pa_cons (pe_ix ix_tup (pv 1) pe_int (fun _ _=>rfl)) pa_nil))))
    (pss_cons (ps_if (pt_cmpR op_eq (pe_callB call_len_seq rfl m_len PySem.boot_len (pa_cons (pv 1) pa_nil)) pe_int (nomark _))
      (pss_one (ps_ret (pv 2)))
      pss_nil)
    (pss_one (ps_ret (pe_callTy call_tuple_of rfl m_tuple boot_tuple (pa_cons (pe_compL ["text", "rules", "pieces"] (defScope sCutUp) ["rules", "piece"] [some 1,none] rfl rfl rfl (pi_tup (pv 2)) rfl (by decide +kernel) (by decide +kernel) (by decide +kernel) (by decide +kernel) (hg:=fun cl C s H ex pn E=>(pg_name (i:=1) (by decide +kernel:(["rules", "piece"]:List Str).Nodup) rfl (Or.inl rfl))) (ht:=fun cl C s H ex pn E=>pifs_nil) (he:=fun cl C s H ex pn E=>(pe_cal C_cut_up hr (by omega) rfl (pa_cons (pv 1) (pa_cons (pe_slice (sl_tupK (K:=K) rfl) (pv 0) (po_some pe_int) po_none) pa_nil))))) pa_nil)))))),?_⟩
    obtain ⟨p,rs,rfl,hp,hd⟩:=den_tup hv
    match ls,rs,hnn,hln,hd,hp,hok,kk with
    | l :: ls,r :: rs,_,hln,hd,hp,hok,kk =>
      have hln':ls.length≤n:=by simpa using hln
      refine ⟨_,rfl,_,rfl,p,_,_,_,rfl,rfl,SqT.of hp,atI_zero r rs,t,r,l.1,l.2,rfl,hd.1,(hok l List.mem_cons_self).1,(hok l List.mem_cons_self).2,ht,fun q H1 s1 e1=>?_⟩
      refine ⟨_,rfl,p,_,rfl,.inr (SqT.of (s1 _ _ hp)),rfl,_,rfl,?_⟩
      have hrl:rs.length=ls.length:=by
        have:=hd.2.len
        simpa using this
      by_cases els:ls=[]
      · have ers:rs=[]:=List.eq_nil_of_length_eq_zero (by rw [hrl,els]; rfl)
        subst els
        subst ers
        refine (iteT ?_:if decide (V.int ((([r]:List V).length:Nat):Int)=V.int 1)=true then _ else _)
        exact ⟨_,rfl,kk q H1 s1 ⟨q,_,rfl,e1,denl_of H1 _⟩⟩
      · have hl0:0 < ls.length:=List.length_pos_iff.mpr els
        obtain ⟨m,rfl⟩:∃ m,n=m+1:=⟨n - 1,by omega⟩
        have hne:¬ (V.int (((r :: rs).length:Nat):Int)=V.int 1):=fun z=>by
          injection z with z1
          rw [List.length_cons] at z1
          omega
        rw [decide_eq_false hne]
        refine iteF ?_
        generalize hpc:cut l.1 l.2 [] t=pcs at e1
        have hcl:=cut_le l.1 l.2 t.length [] t (Nat.le_refl _)
        rw [hpc] at hcl
        refine ⟨_,rfl,q,rfl,⟨_,SqT.of e1⟩,fun lc hlc=>?_⟩
        refine comp_by (J:=Itt K q) (l:=lc) pcs.length (fun i σ' H'=>∃ (v:Option V) (us:List V),σ'=[some (.ref p),v]∧Same H1 H'∧H' lc=some (.lst us)∧DenL H' us ((pcs.take i).map (treeD ls))) ⟨none,[],rfl,same_new hlc _,upd_same,trivial⟩ ?_ ?_
        · rintro σ' H' ⟨v,us,rfl,hs,hl',hd'⟩
          refine ⟨⟨_,SqT.of (hs _ _ e1),by simp⟩,lc,us,rfl,.inl ⟨SqL.of hl',fun q2 hq2=>?_⟩⟩
          rw [List.take_length] at hd'
          refine kk q2 _ (s1.trans (hs.trans (same_new hq2 _))) ⟨q2,us,rfl,upd_same,?_⟩
          rw [hpc]
          exact hd'.same (same_new hq2 _)
        · rintro i σ' H' hi ⟨v,us,rfl,hs,hl',hd'⟩
          have hat:(pcs.map mkT)[i]?=some (mkT pcs[i]):=at_T hi
          refine ⟨⟨_,_,SqT.of (hs _ _ e1),hat⟩,?_⟩
          rintro y H'' ⟨rfl,hy⟩
          have ey:y=mkT pcs[i]:=Option.some.inj ((hy _ (SqT.of (hs _ _ e1))).symm.trans hat)
          subst ey
          have hpi:=hcl.2.2 pcs[i] (List.getElem_mem hi)
          have hpH:H'' p=some (.tup (r :: rs)):=hs _ _ (s1 _ _ hp)
          refine gN (yesT (iteT ?_))
          refine ⟨_,rfl,_,rfl,_,rfl,p,_,rfl,SqT.of hpH,?_,fun p2 hp2=>?_⟩
          · rintro ⟨z,_⟩
            have:=HT.sIx_nat (r :: rs).length 0 1
            rw [show ((1:Nat):Int)=1 from rfl] at this
            rw [this,List.length_cons] at z
            omega
          · rw [cutV_one]
            have s2:Same H'' (upd H'' p2 (.tup rs)):=same_new hp2 _
            refine ⟨pcs[i],_,ls,rfl,⟨p2,rs,rfl,upd_same,(hd.2.same (s1.trans (hs.trans s2)))⟩,els,hln',fun l' hl''=>hok l' (List.mem_cons_of_mem _ hl''),by simp at hpi; omega,fun q3 H3 s3 d3=>?_⟩
            have hl3:H3 lc=some (.lst us):=s3 _ _ (s2 _ _ hl')
            have hul:=hd'.len
            rw [List.length_map,List.length_take] at hul
            have hpl:pcs.length≤t.length:=hcl.2.1 rfl
            refine ⟨us,hl3,small1000 (by omega),_,us++[.ref q3],rfl,?_,upd_same,?_⟩
            · intro c o z
              have hlH:H1 lc=none:=hlc
              rw [upd_ne (ne_of_none z hlH)]
              exact s3 _ _ (s2 _ _ (hs c o z))
            · have hup:∀ {v:V} {d:D},Den H3 v d→Den (upd H3 lc (.lst (us++[.ref q3]))) v d:=fun z=>Den.keepT (fun b vs e=>by rw [upd_ne (ne_of e hl3 (by intro z; cases z))]; exact e) z
              have htk:(pcs.take (i+1)).map (treeD ls)=(pcs.take i).map (treeD ls)++[treeD ls pcs[i]]:=by
                rw [List.take_add_one,List.getElem?_eq_getElem hi,List.map_append]
                rfl
              rw [htk]
              exact DenL.snoc (hup d3) (DenL.keepT (fun b vs e=>by rw [upd_ne (ne_of e hl3 (by intro z; cases z))]; exact e) ((hd'.same s2).same s3))
    | [],_,hnn,_,_,_,_,_=>exact absurd rfl hnn
    | _ :: _,[],_,_,hd,_,_,_=>exact hd.elim
end
def spMarks:Sp:=fun vs H Q _=>∃ (p:Addr) (x:Str) (a b:Int),vs=[.ref p,.str x]∧H p=some (.lst [.int a,.int b])∧x.length≤1000∧∀ (q:Addr) (cs:List (List Nat)) (H':Hp),Pot H p H'→H' q=some (.tup (cs.map mkT))→OkC cs→Q (.ref q) H'
section
open M08
variable {P:Program} {w:World} {K:PySem.W.Frag} {mg:Str→Option Value} {base:Heap}
theorem keys_T {kvs:List (Key × V)} (h:∀ kv∈kvs,∃ c:List Nat,kv.1=Sum.inr ⟨c.toArray⟩∧1≤c.length∧c.length≤8):∃ cs:List (List Nat),kvs.map (fun kv=>kV kv.1)=cs.map mkT∧cs.length=kvs.length∧∀ c∈cs,1≤c.length∧c.length≤8:=by
  induction kvs with
  | nil=>exact ⟨[],rfl,rfl,(fun c hc=>by cases hc)⟩
  | cons kv r ih =>
    obtain ⟨cs,e1,e2,e3⟩:=ih fun x hx=>h x (List.mem_cons_of_mem _ hx)
    obtain ⟨c,ec,hc⟩:=h kv List.mem_cons_self
    refine ⟨c :: cs,?_,by rw [List.length_cons,List.length_cons,e2],fun d hd=>?_⟩
    · rw [List.map_cons,List.map_cons,e1,ec]
      rfl
    · rcases List.mem_cons.mp hd with rfl | hd
      · exact hc
      · exact e3 d hd
theorem put_keys {kvs:List (Key × V)} {k:Key} {v:V} {F:Key→Prop} (h:∀ kv∈kvs,F kv.1) (hk:F k):∀ kv∈putK kvs k v,F kv.1:=by
  intro kv hkv
  unfold putK at hkv
  split at hkv
  · obtain ⟨x,hx,rfl⟩:=List.mem_map.mp hkv
    split
    · exact h x hx
    · exact h x hx
  · rcases List.mem_append.mp hkv with z | z
    · exact h kv z
    · have:kv=(k,v):=by simpa using z
      rw [this]
      exact hk
end
section
open M08
variable {P:Program} {w:World} {K:PySem.W.Frag} {mg:Str→Option Value} {base:Heap}
theorem scMarks:FnScope ["_law_pot_here", "_law_text_here", "_law_some", "_law_k", "_law_size", "_law_at"] ["_law_pot_here", "_law_text_here"] (defScope sMarks):=⟨rfl,rfl,rfl,by decide +kernel,rfl,by decide +kernel,by decide +kernel⟩
theorem c_marks (h:Has K mg "_law_marks" sMarks ["_law_pot_here", "_law_text_here"]) (C_take:Cal P w K mg base "_law_take" 1 ["_law_pot_here", "_law_many"] spTake) (m_range:mg "range" = none) (m_len:mg "len" = none) (m_tuple:mg "tuple" = none) (m_list:mg "list" = none):Cal P w K mg base "_law_marks" 2 ["_law_pot_here", "_law_text_here"] spMarks:=by
  refine h.mk' scMarks (fun vs H Q E hs=>?_) (fun f cdv A outer s H vs Q E hr hs=>?_)
  · obtain ⟨p,x,a,b,rfl,_⟩:=hs
    rfl
  obtain ⟨p,x,a,b,rfl,hp,hx,kk⟩:=hs
  refine ⟨_,(pss_cons (ps_set (i:=2) scMarks.nd rfl (Or.inl rfl) pe_dnewK)
    (pss_cons (ps_for PassesOwn.never rfl (pi_range1 rfl m_range (pa_cons (pe_cal C_take hr (by decide) rfl (pa_cons (pv 0) (pa_cons (pe_ix ix_list (pe_lst (pa_cons pe_int (pa_cons pe_int (pa_cons pe_int pa_nil)))) (pe_cal C_take hr (by decide) rfl (pa_cons (pv 0) (pa_cons pe_int pa_nil))) (fun _ _=>rfl)) pa_nil))) pa_nil)) (pg_name (i:=3) scMarks.nd rfl (Or.inl rfl))
      (pss_cons (ps_set (i:=4) scMarks.nd rfl (Or.inl rfl) (pe_op op_add pe_int (pe_cal C_take hr (by decide) rfl (pa_cons (pv 0) (pa_cons (pe_ix ix_list (pe_lst (pa_cons pe_int (pa_cons pe_int pa_nil))) (pe_cal C_take hr (by decide) rfl (pa_cons (pv 0) (pa_cons pe_int pa_nil))) (fun _ _=>rfl)) pa_nil)))))
    (pss_one (ps_if (PW.pt (pw_and (pt_cmpR op_ne (pv 1) pe_str (nomark _)) (pw_and1 (pt_cmpR op_gt (pe_cal C_take hr (by decide) rfl (pa_cons (pv 0) (pa_cons pe_int pa_nil))) pe_int (nomark _)))))
      (pss_cons (ps_set (i:=5) scMarks.nd rfl (Or.inl rfl) (pe_cal C_take hr (by decide) rfl (pa_cons (pv 0) (pa_cons (pe_callB call_len_str rfl m_len PySem.boot_len (pa_cons (pv 1) pa_nil)) pa_nil))))
    (pss_one (ps_dput (hu_of hr) (pv 2) (pe_slice sl_str (pv 1) (po_some (pv 5)) (po_some (pe_op op_add (pv 5) (pv 4)))) pe_bl rfl)))
      (pss_one (ps_dput (hu_of hr) (pv 2) (pe_bm PySem.F.plainAttrs_str PySem.F.slot_str_join PySem.F.type_str_join mt_join pe_str (pa_cons (pe_compL ["_law_pot_here", "_law_text_here", "_law_some", "_law_k", "_law_size", "_law_at"] (defScope sMarks) ["_law_pot_here", "_law_sign"] [some 0,none] rfl rfl rfl (pi_range1 rfl m_range (pa_cons (pv 4) pa_nil)) rfl (by decide +kernel) (by decide +kernel) (by decide +kernel) (by decide +kernel) (hg:=fun cl C s H ex pn E=>(pg_name (i:=1) (by decide +kernel:(["_law_pot_here", "_law_sign"]:List Str).Nodup) rfl (Or.inl rfl))) (ht:=fun cl C s H ex pn E=>pifs_nil) (he:=fun cl C s H ex pn E=>(pe_ix ix_str pe_str (pe_cal C_take hr (by decide) rfl (pa_cons (pv 0) (pa_cons pe_int pa_nil))) (fun _ _=>rfl)))) pa_nil)) pe_bl rfl))))))
    (pss_one (ps_ret (pe_callTy call_tuple_of rfl m_tuple boot_tuple (pa_cons (pe_callTy (call_list_dict rfl) rfl m_list boot_list (pa_cons (pv 2) pa_nil)) pa_nil)))))),?_⟩
  have hz:x.length≤sizeLine:=small hx
  have P0:Pot H p H:=⟨⟨a,b,hp⟩,fun c o e _=>e⟩
  refine fun d hd=>?_
  have ndp:d≠p:=P0.apart hd
  refine draw_menu (K:=K) (σ:=[some (.ref p),some (.str x),some (.ref d),none,none,none]) (i:=0) (m:=3) (H:=upd H d (.dK [])) (cs:=[3,5,13]) (hi:=13) rfl (P0.new hd) rfl (by decide) (by decide) (by decide) (by decide) fun n H1 n0 n1 P1 s1=>?_
  refine ⟨n,rfl,by omega,by omega,?_⟩
  refine for_range (lo:=0) (n:=n.toNat) (fun i σ H2=>∃ (v3 v4 v5:Option V) (kvs:List (Key × V)),σ=[some (.ref p),some (.str x),some (.ref d),v3,v4,v5]∧H2 d=some (.dK kvs)∧kvs.length≤i∧(∀ kv∈kvs,∃ c:List Nat,kv.1=Sum.inr ⟨c.toArray⟩∧1≤c.length∧c.length≤8)∧Pot H p H2)
    ⟨none,none,none,[],rfl,s1 d _ upd_same ndp,Nat.le_refl _,(fun kv hkv=>by cases hkv),P1⟩ ?_ ?_
  · rintro i σ H2 hi ⟨v3,v4,v5,kvs,rfl,ed,hkl,hkeys,hP⟩
    refine draw_menu (K:=K) (σ:=[some (.ref p),some (.str x),some (.ref d),some (.int (0+(i:Int))),v4,v5]) (i:=0) (m:=2) (H:=H2) (cs:=[2,8]) (hi:=8) rfl hP rfl (by decide) (by decide) (by decide) (by decide) fun sz H3 z0 z1 P3 s3=>?_
    have ed3:H3 d=some (.dK kvs):=s3 d _ ed ndp
    refine ⟨_,_,rfl,rfl,?_⟩
    have fin:∀ (H4:Hp) (c:List Nat) (y:Str) (u5:Option V),y=⟨c.toArray⟩→1≤c.length→c.length≤8→Pot H p H4→H4 d=some (.dK kvs)→∀ u4:Option V,∃ (a:Addr) (H5:Hp),V.ref d=.ref a∧DPut H4 a (.str y) (.bl true) H5 ∧
        ∃ (v3 v4 v5:Option V) (kvs:List (Key × V)),([some (.ref p),some (.str x),some (.ref d),some (.int (0+(i:Int))),u4,u5]:L2.St)=[some (.ref p),some (.str x),some (.ref d),v3,v4,v5]∧H5 d=some (.dK kvs)∧kvs.length≤i+1∧(∀ kv∈kvs,∃ c:List Nat,kv.1=Sum.inr ⟨c.toArray⟩∧1≤c.length∧c.length≤8)∧Pot H p H5:=fun H4 c y u5 ey c1 c8 P4 e4 u4=>by
      subst ey
      refine ⟨d,_,rfl,DPut.k (k:=Sum.inr ⟨c.toArray⟩) e4 (small1000 (by omega)),_,_,_,_,rfl,upd_same,?_,put_keys (F:=fun k=>∃ c:List Nat,k=Sum.inr ⟨c.toArray⟩∧1≤c.length∧c.length≤8) hkeys ⟨c,rfl,c1,c8⟩,P4.list hd ndp⟩
      have:=length_putK kvs (Sum.inr ⟨c.toArray⟩) (V.bl true)
      omega
    obtain ⟨zn,ezn⟩:∃ zn:Nat,sz=(zn:Int):=⟨sz.toNat,by omega⟩
    subst ezn
    have own:∀ (H4:Hp) (u5:Option V),Pot H p H4→H4 d=some (.dK kvs)→tBM K "str" (fun x xs H Q=>∃ y l ys,x=V.str y∧xs=[V.ref l]∧SqL K H l (ys.map V.str)∧(ys.map (·.length)).sum+ys.length * y.length≤16777216∧Q (.str (Str.join y ys)) H) (tC (.str ""))
        (tCons (tComp (iRng1 (tCons (tVar 4) tNil)) (gName 1) tYes (tOp rIxS (tC (.str " .,\nab-x")) (tCall spTake [] E0 (tCons (tVar 0) (tCons (tC (.int 8)) tNil)))) (liftBy [some 0,none])) tNil)
        [some (.ref p),some (.str x),some (.ref d),some (.int (0+(i:Int))),some (.int (1+(zn:Int))),u5] H4 (fun y H3=>∃ (a:Addr) (H5:Hp),V.ref d=.ref a∧DPut H3 a y (.bl true) H5 ∧
        ∃ (v3 v4 v5:Option V) (kvs:List (Key × V)),([some (.ref p),some (.str x),some (.ref d),some (.int (0+(i:Int))),some (.int (1+(zn:Int))),u5]:L2.St)=[some (.ref p),some (.str x),some (.ref d),v3,v4,v5]∧H5 d=some (.dK kvs)∧kvs.length≤i+1∧(∀ kv∈kvs,∃ c:List Nat,kv.1=Sum.inr ⟨c.toArray⟩∧1≤c.length∧c.length≤8)∧Pot H p H5):=fun H4 u5 P4 e4=>by
      refine ⟨rfl,_,rfl,_,rfl,by omega,by omega,fun l hl=>?_⟩
      have nlp:l≠p:=P4.apart hl
      have ndl:d≠l:=ne_of_none e4 hl
      have en:(1+(zn:Int)).toNat=zn+1:=by omega
      rw [en]
      refine comp_by (J:=Itr 0 (zn+1)) (l:=l) (zn+1) (fun j σ' H'=>∃ (cs:List Nat) (v:Option V),cs.length=j∧σ'=[some (.ref p),v]∧H' l=some (.lst (cs.map fun c=>V.str ⟨#[c]⟩))∧H' d=some (.dK kvs)∧Pot H p H') ⟨[],none,rfl,rfl,upd_same,(upd_ne ndl).trans e4,P4.new hl⟩ ?_ ?_
      · rintro σ' H' ⟨cs,v,hcs,rfl,hl',hd',hP'⟩
        refine ⟨Nat.le_refl _,_,l,cs.map (fun c=>(⟨#[c]⟩:Str)),rfl,rfl,SqL.of (by rw [List.map_map]; exact hl'),join_fits (by decide +kernel) cs (by omega),?_⟩
        refine fin H' cs _ u5 ?_ (by omega) (by omega) hP' hd' _
        have ej:∀ y:Str,y=⟨#[]⟩→Str.join y (cs.map fun c=>(⟨#[c]⟩:Str))=⟨cs.toArray⟩:=fun y hy=>by
          subst hy
          exact join_ones _
        exact ej _ (by decide +kernel)
      · rintro j σ' H' hj ⟨cs,v,hcs,rfl,hl',hd',hP'⟩
        refine ⟨hj,?_⟩
        rintro y H'' ⟨rfl,rfl⟩
        refine gN (yesT (iteT ?_))
        refine draw (σ:=[some (.ref p),some (.int (0+(j:Int)))]) (i:=0) (m:=8) (H:=H'') rfl hP' (by decide) (by decide) fun r H5 r0 r1 P5 s5=>?_
        have e8:(Str.cps " .,\nab-x").toList.length=8:=by decide +kernel
        obtain ⟨c,hc,_⟩:=atI_lt (xs:=(Str.cps " .,\nab-x").toList) r0 (by rw [e8]; exact r1)
        refine ⟨_,r,c,rfl,rfl,small (by decide +kernel),hc,?_⟩
        have fl:H l=none:=P4.free hl
        refine ⟨cs.map (fun c=>V.str ⟨#[c]⟩),s5 l _ hl' nlp,by rw [List.length_map]; exact small1000 (by omega),cs++[c],_,by rw [List.length_append,hcs]; rfl,rfl,?_,(upd_ne ndl).trans (s5 d _ hd' ndp),P5.list fl nlp⟩
        rw [upd_same,List.map_append]
        rfl
    refine ⟨_,rfl,rfl,_,rfl,?_⟩
    refine ite2 (fun c1=>?_) (fun c1=>?_)
    · have hne:x.length≠0:=fun z=>by
        have ex:x = "":=by
          rw [str_T x,List.eq_nil_of_length_eq_zero (l:=x.cps.toList) (by simpa [Str.length] using z)]
          decide +kernel
        rw [ex] at c1
        exact absurd c1 (by decide +kernel)
      refine draw (σ:=[some (.ref p),some (.str x),some (.ref d),some (.int (0+(i:Int))),some (.int (1+(zn:Int))),v5]) (i:=0) (m:=3) (H:=H3) rfl P3 (by decide) (by decide) fun r H4 r0 r1 P4 s4=>?_
      have ed4:H4 d=some (.dK kvs):=s4 d _ ed3 ndp
      refine ⟨_,_,rfl,rfl,_,rfl,?_⟩
      refine ite2 (fun c2=>?_) (fun c2=>?_)
      · obtain ⟨a5,b5,e5⟩:=P4.at_
        refine ⟨_,rfl,_,rfl,_,rfl,hz,p,(x.length:Int),a5,b5,rfl,e5,by omega,by omega,fun at_ a6 b6 t0 t1=>?_⟩
        obtain ⟨an,ean⟩:∃ an:Nat,at_=(an:Int):=⟨at_.toNat,by omega⟩
        subst ean
        refine ⟨_,rfl,_,rfl,_,rfl,_,rfl,_,rfl,_,rfl,_,_,rfl,rfl,_,rfl,x,rfl,hz,?_⟩
        have esl:Txt.slice x (some ((an:Nat):Int)) (some ((an:Int)+(1+(zn:Int))))=⟨((x.cps.toList.drop an).take (zn+1)).toArray⟩:=by
          have e:(an:Int)+(1+(zn:Int))=((an+(zn+1):Nat):Int):=by omega
          rw [e,SLi.both x (by omega)]
          congr 3
          omega
        have hxl:x.cps.toList.length=x.length:=by simp [Str.length]
        refine fin _ ((x.cps.toList.drop an).take (zn+1)) _ _ esl ?_ ?_ P4.turn ((upd_ne ndp).trans ed4) _
        · rw [List.length_take,List.length_drop]
          omega
        · rw [List.length_take]
          omega
      · exact ⟨_,rfl,own H4 v5 P4 ed4⟩
    · exact iteF ⟨_,rfl,own H3 v5 P3 ed3⟩
  · rintro σ H2 ⟨v3,v4,v5,kvs,rfl,ed,hkl,hkeys,hP⟩
    refine ⟨_,rfl,d,kvs,rfl,ed,fun l hl=>?_⟩
    refine ⟨l,_,rfl,.inl ⟨SqL.of upd_same,fun q hq=>?_⟩⟩
    obtain ⟨cs,e1,e2,e3⟩:=keys_T hkeys
    refine kk q cs _ ((hP.new hl).new hq) ?_ ⟨by omega,e3⟩
    rw [upd_same,e1]
end
def spRules:Sp:=fun vs H Q _=>∃ (p:Addr) (x:Str) (m:Nat) (a b:Int),vs=[.ref p,.str x,.int (m:Nat)]∧H p=some (.lst [.int a,.int b])∧x.length≤1000∧m≤100∧∀ (q:Addr) (ls:List Lvl) (H':Hp),Pot H p H'→Den H' (.ref q) (rulesD ls)→OkL ls→ls.length=m→Q (.ref q) H'
section
open M08
variable {P:Program} {w:World} {K:PySem.W.Frag} {mg:Str→Option Value} {base:Heap}
theorem scRules:FnScope ["_law_pot_here", "_law_text_here", "_law_many"] ["_law_pot_here", "_law_text_here", "_law_many"] (defScope sRules):=⟨rfl,rfl,rfl,by decide +kernel,rfl,by decide +kernel,by decide +kernel⟩
theorem c_rules (h:Has K mg "_law_rules" sRules ["_law_pot_here", "_law_text_here", "_law_many"]) (C_marks:Cal P w K mg base "_law_marks" 2 ["_law_pot_here", "_law_text_here"] spMarks) (m_tuple:mg "tuple" = none) (m_range:mg "range" = none):Cal P w K mg base "_law_rules" 3 ["_law_pot_here", "_law_text_here", "_law_many"] spRules:=by
  refine h.mk' scRules (fun vs H Q E hs=>?_) (fun f cdv A outer s H vs Q E hr hs=>?_)
  · obtain ⟨p,x,m,a,b,rfl,_⟩:=hs
    rfl
  obtain ⟨p,x,m,a,b,rfl,hp,hx,hm,kk⟩:=hs
  refine ⟨_,(pss_one (ps_ret (pe_callTy call_tuple_of rfl m_tuple boot_tuple (pa_cons (pe_compL ["_law_pot_here", "_law_text_here", "_law_many"] (defScope sRules) ["_law_pot_here", "_law_text_here", "_law_k"] [some 0,some 1,none] rfl rfl rfl (pi_range1 rfl m_range (pa_cons (pv 2) pa_nil)) rfl (by decide +kernel) (by decide +kernel) (by decide +kernel) (by decide +kernel) (hg:=fun cl C s H ex pn E=>(pg_name (i:=2) (by decide +kernel:(["_law_pot_here", "_law_text_here", "_law_k"]:List Str).Nodup) rfl (Or.inl rfl))) (ht:=fun cl C s H ex pn E=>pifs_nil) (he:=fun cl C s H ex pn E=>(pe_tup (pa_cons (pe_cal C_marks hr (by decide) rfl (pa_cons (pv 0) (pa_cons (pv 1) pa_nil))) (pa_cons (pe_cal C_marks hr (by decide) rfl (pa_cons (pv 0) (pa_cons (pv 1) pa_nil))) pa_nil))))) pa_nil)))),?_⟩
  have P0:Pot H p H:=⟨⟨a,b,hp⟩,fun c o e _=>e⟩
  refine ⟨_,rfl,_,rfl,by omega,by omega,fun l hl=>?_⟩
  have nlp:l≠p:=P0.apart hl
  have en:(((m:Nat):Int)).toNat=m:=by omega
  rw [en]
  refine comp_by (J:=Itr 0 m) (l:=l) m (fun j σ' H'=>∃ (v:Option V) (us:List V) (ls:List Lvl),σ'=[some (.ref p),some (.str x),v]∧H' l=some (.lst us)∧Pot H p H'∧DenL H' us (ls.map fun l=>lvD l.1 l.2)∧OkL ls∧ls.length=j) ⟨none,[],[],rfl,upd_same,P0.new hl,trivial,fun l h=>by (cases h),rfl⟩ ?_ ?_
  · rintro σ' H' ⟨v,us,ls,rfl,hl',hP',hd',hok,hll⟩
    refine ⟨Nat.le_refl _,l,us,rfl,.inl ⟨SqL.of hl',fun q hq=>?_⟩⟩
    exact kk q ls _ (hP'.new hq) ⟨q,us,rfl,upd_same,hd'.same (same_new hq _)⟩ hok hll
  · rintro j σ' H' hj ⟨v,us,ls,rfl,hl',hP',hd',hok,hll⟩
    refine ⟨hj,?_⟩
    rintro y H'' ⟨rfl,rfl⟩
    refine gN (yesT (iteT ?_))
    obtain ⟨a1,b1,e1⟩:=id hP'.at_
    refine ⟨_,rfl,_,rfl,p,_,a1,b1,rfl,e1,hx,fun qm ms H4 P4 e4 ok4=>?_⟩
    obtain ⟨a2,b2,e2⟩:=id P4.at_
    have nqm:qm≠p:=ne_of e4 e2 (by intro z; cases z)
    refine ⟨_,rfl,_,rfl,p,_,a2,b2,rfl,e2,hx,fun qk ks H5 P5 e5 ok5=>?_⟩
    refine ⟨smn 2,fun lv hlv=>?_⟩
    have e5m:H5 qm=some (.tup (ms.map mkT)):=P5.old qm _ e4 nqm
    have el5:H5 l=some (.lst us):=P5.old l _ (P4.old l _ hl' nlp) nlp
    have sv:=same_new hlv (.tup [.ref qm,.ref qk])
    have den:Den (upd H5 lv (.tup [.ref qm,.ref qk])) (.ref lv) (lvD ms ks):=den_mk upd_same (sv _ _ e5m) (sv _ _ e5)
    have dus:DenL (upd H5 lv (.tup [.ref qm,.ref qk])) us (ls.map fun l=>lvD l.1 l.2):=hd'.keepT fun b vs e=>sv _ _ (P5.old b _ (P4.old b _ e (ne_of e e1 (by intro z; cases z))) (ne_of e e1 (by intro z; cases z)))
    have el6:=sv _ _ el5
    have P6:Pot H p (upd H5 lv (.tup [.ref qm,.ref qk])):=((hP'.trans P4).trans P5).new hlv
    generalize upd H5 lv (.tup [.ref qm,.ref qk])=H6 at den dus el6 P6
    have ul:=hd'.len
    rw [List.length_map] at ul
    refine ⟨us,el6,small1000 (by omega),_,us++[.ref lv],ls++[(ms,ks)],rfl,upd_same,P6.list hl nlp,?_,?_,by rw [List.length_append,hll]; rfl⟩
    · have kp:∀ (b:Addr) (vs:List V),H6 b=some (.tup vs)→(upd H6 l (.lst (us++[.ref lv]))) b=some (.tup vs):=fun b vs e=>by
        rw [upd_ne (ne_of e el6 (by intro z; cases z))]
        exact e
      rw [List.map_append]
      exact DenL.snoc (den.keepT kp) (dus.keepT kp)
    · intro l' hl''
      rcases List.mem_append.mp hl'' with z | z
      · exact hok l' z
      · rw [List.mem_singleton.mp z]
        exact ⟨ok4,ok5⟩
end
def spLeaves:Sp:=fun vs H Q _=>∃ (v:V) (m:Nat) (d:D),vs=[v]∧Den H v d∧m≤6∧Tr m d∧cntN m d≤100000∧∀ (q:Addr) (H':Hp),Same H H'→Den H' (.ref q) (.tup ((lvs m [] d).map leafD))→Q (.ref q) H'
def spSewn:Sp:=fun vs H Q _=>∃ (v:V) (m:Nat) (d:D),vs=[v]∧Den H v d∧m≤6∧Tr m d∧cntN m d≤100000∧(sew m d).length≤100000∧∀ (H':Hp),Same H H'→Q (.str ⟨(sew m d).toArray⟩) H'
def spNodes:Nat→Sp
  | 0=>fun _ _ _ _=>False
  | n+1=>fun vs H Q _=>∃ (v p:V) (m:Nat) (d:D) (ks:List Int),vs=[v,p]∧Den H v d∧Den H p (pathD ks)∧m≤n∧Tr m d∧cntN m d≤100000∧ks.length+m≤100∧∀ (q:Addr) (us:List V) (H':Hp),Same H H'→H q=none→H' q=some (.lst us)→DenL H' us ((nds m ks d).map ndD)→Q (.ref q) H'
section
open M08
variable {P:Program} {w:World} {K:PySem.W.Frag} {mg:Str→Option Value} {base:Heap}
theorem denI {H:Hp}:∀ {cs:List Int} {vs:List V},DenL H vs (cs.map D.int)→vs=cs.map V.int
  | [],[],_=>rfl
  | _ :: cs,v :: vs,h=>by
    have e:v=.int _:=h.1
    rw [e,denI h.2]
    rfl
  | [],_ :: _,h=>h.elim
  | _ :: _,[],h=>h.elim
theorem denI_of (H:Hp):∀ cs:List Int,DenL H (cs.map V.int) (cs.map D.int)
  | []=>trivial
  | _ :: cs=>⟨rfl,denI_of H cs⟩
theorem denl_app {H:Hp}:∀ {ds es:List D} {vs us:List V},DenL H vs ds→DenL H us es→DenL H (vs++us) (ds++es)
  | [],_,[],_,_,h=>h
  | _ :: _,_,_ :: _,_,h,g=>⟨h.1,denl_app h.2 g⟩
  | [],_,_ :: _,_,h,_=>h.elim
  | _ :: _,_,[],_,h,_=>h.elim
theorem le_sum {α:Type} (g:α→Nat) {x:α}:∀ {xs:List α},x∈xs→g x≤(xs.map g).sum
  | y :: ys,h=>by
    rw [List.map_cons,List.sum_cons]
    rcases List.mem_cons.mp h with rfl | z
    · omega
    · have:=le_sum g z
      omega
theorem sum_take_succ {α:Type} (g:α→Nat):∀ {xs:List α} {i:Nat} (h:i < xs.length),((xs.take i).map g).sum+g xs[i]≤(xs.map g).sum
  | x :: xs,0,h=>by simp
  | x :: xs,i+1,h=>by
    have:=sum_take_succ g (xs:=xs) (i:=i) (by simpa using h)
    simp only [List.take_succ_cons,List.map_cons,List.sum_cons,List.getElem_cons_succ]
    omega
theorem scNodesOf:FnScope ["tree", "path", "nodes", "k", "branch"] ["tree", "path"] (defScope sNodesOf):=⟨rfl,rfl,rfl,by decide +kernel,rfl,by decide +kernel,by decide +kernel⟩
theorem c_nodes_of (h:Has K mg "nodes_of" sNodesOf ["tree", "path"]) (m_isinstance:mg "isinstance" = none) (m_tuple:mg "tuple" = none) (m_enumerate:mg "enumerate" = none) :
    ∀ n:Nat,Cal P w K mg base "nodes_of" n ["tree", "path"] (spNodes n)
  | 0=>h.never fun _ _ _ _ z=>z
  | n+1=>by
    have C_nodes_of:=c_nodes_of h m_isinstance m_tuple m_enumerate n
    refine h.mk' scNodesOf (fun vs H Q E hs=>?_) (fun f cdv A outer s H vs Q E hr hs=>?_)
    · obtain ⟨v,p,m,d,ks,rfl,_⟩:=hs
      rfl
    obtain ⟨v,p,m,d,ks,rfl,hv,hp,hm,ht,hc,hk,kk⟩:=hs
    refine ⟨_,(pss_cons (ps_set (i:=2) scNodesOf.nd rfl (Or.inl rfl) (pe_lst (pa_cons (pe_tup (pa_cons (pv 1) (pa_cons (pv 0) pa_nil))) pa_nil)))
    (pss_cons (ps_if (pt_val (pe_callB call_isinst rfl m_isinstance boot_isinstance (pa_cons (pv 0) (pa_cons (pe_bltn (v:=.ty "tuple") rfl m_tuple boot_tuple rfl) pa_nil))))
      (pss_one (ps_for PassesOwn.never rfl (pi_enumT rfl m_enumerate (pa_cons (pv 0) pa_nil)) (pg_tup (n:=2) rfl (pgs_cons (pg_name (i:=3) scNodesOf.nd rfl (Or.inl rfl)) (pgs_cons (pg_name (i:=4) scNodesOf.nd rfl (Or.inl rfl)) pgs_nil)))
      (pss_one (ps_expr (pe_bm PySem.F.plainAttrs_list PySem.F.slot_list_extend PySem.F.type_list_extend mt_extend (pv 2) (pa_cons (pe_cal C_nodes_of hr (Nat.le_refl _) rfl (pa_cons (pv 4) (pa_cons (pe_op op_catT2 (pv 1) (pe_tup (pa_cons (pv 3) pa_nil))) pa_nil))) pa_nil))))))
      pss_nil)
    (pss_one (ps_ret (pv 2))))),?_⟩
    obtain ⟨pp,pvs,rfl,hpp,hpd⟩:=den_tup hp
    have epv:=denI hpd
    subst epv
    refine ⟨_,rfl,_,rfl,smn 2,fun t0 ht0=>⟨smn 1,fun l hl=>?_⟩⟩
    have s0:Same H (upd (upd H t0 (.tup [.ref pp,v])) l (.lst [.ref t0])):=(same_new ht0 _).trans (same_new hl _)
    have nlt:t0≠l:=ne_of_none upd_same hl
    have hlH:H l=none:=by
      cases e:H l with
      | none=>rfl
      | some o=>exact absurd ((same_new ht0 (.tup [.ref pp,v]) l o e).symm.trans hl) (by simp)
    have e0:(upd (upd H t0 (.tup [.ref pp,v])) l (.lst [.ref t0])) t0=some (.tup [.ref pp,v]):=(upd_ne nlt).trans upd_same
    have d0:DenL (upd (upd H t0 (.tup [.ref pp,v])) l (.lst [.ref t0])) [.ref t0] ([(ks,d)].map ndD):=⟨⟨t0,_,rfl,e0,⟨pp,_,rfl,s0 _ _ hpp,denI_of _ ks⟩,hv.same s0,trivial⟩,trivial⟩
    have el:(upd (upd H t0 (.tup [.ref pp,v])) l (.lst [.ref t0])) l=some (.lst [.ref t0]):=upd_same
    generalize upd (upd H t0 (.tup [.ref pp,v])) l (.lst [.ref t0])=H1 at s0 d0 el
    cases m with
    | zero =>
      obtain ⟨x,rfl⟩:=ht
      have ev:v=.str ⟨x.toArray⟩:=hv
      subst ev
      refine ⟨_,rfl,_,_,_,false,rfl,.str _,kit_str_tuple K,_,rfl,iteF ?_⟩
      exact ⟨_,rfl,kk l _ _ s0 hlH el d0⟩
    | succ m =>
      obtain ⟨ds,rfl,hds⟩:=ht
      obtain ⟨pv,vs,rfl,hpv,hvs⟩:=den_tup hv
      obtain ⟨n,rfl⟩:∃ n',n=n' + 1:=⟨n - 1,by omega⟩
      refine ⟨_,rfl,_,_,_,true,rfl,.tup (s0 _ _ hpv),kit_tuple_tuple K,_,rfl,iteT ?_⟩
      refine ⟨_,rfl,pv,rfl,⟨_,SqT.of (s0 _ _ hpv)⟩,?_⟩
      have hlen:=hvs.len
      have hcs:1+(ds.map (cntN m)).sum≤100000:=hc
      refine for_enumT (K:=K) (a:=pv) (xs:=vs) (fun i σ H2=>∃ (v3 v4:Option V) (us:List V),σ=[some (.ref pv),some (.ref pp),some (.ref l),v3,v4]∧Same H H2∧H2 l=some (.lst us)∧DenL H2 us (((ks,D.tup ds) :: ((ds.take i).zipIdx.flatMap fun p=>nds m (ks++[((p.2:Nat):Int)]) p.1)).map ndD))
        ⟨none,none,_,rfl,s0,el,d0⟩ ?_ ?_ ?_
      · rintro i σ H2 _ ⟨v3,v4,us,rfl,s2,_⟩
        exact SqT.of (s2 _ _ hpv)
      · rintro i y t σ H2 hi ⟨v3,v4,us,rfl,s2,el2,d2⟩ htn
        obtain ⟨b,hb,db⟩:=hvs.at_ hi
        have hil:i < ds.length:=(List.getElem?_eq_some_iff.mp hb).1
        have ebi:ds[i]=b:=(List.getElem?_eq_some_iff.mp hb).2
        have hbm:b∈ds:=List.mem_of_getElem? hb
        refine ⟨t,_,rfl,SqT.of upd_same,rfl,_,_,rfl,_,_,rfl,rfl,?_⟩
        have s3:Same H2 (upd H2 t (.tup [.int (i:Nat),y])):=same_new htn _
        have el3:=s3 _ _ el2
        have d3:=d2.same s3
        generalize upd H2 t (.tup [.int (i:Nat),y])=H3 at s3 el3 d3
        refine ⟨_,rfl,.inl ⟨rfl,_,SqL.of el3⟩,_,rfl,_,rfl,_,rfl,smn 1,fun t1 ht1=>?_⟩
        have s4:Same H3 (upd H3 t1 (.tup [.int (i:Nat)])):=same_new ht1 _
        refine ⟨pp,t1,_,_,rfl,rfl,s4 _ _ (s3 _ _ (s2 _ _ hpp)),upd_same,small (by rw [List.length_map,List.length_singleton]; omega),fun q5 H5 s5 e5=>?_⟩
        have sA:Same H H5:=((s2.trans s3).trans s4).trans s5
        refine ⟨_,_,m,b,ks++[((i:Nat):Int)],rfl,db.same sA,⟨q5,_,rfl,e5,by rw [show ks.map V.int++[V.int ((i:Nat):Int)]=(ks++[((i:Nat):Int)]).map V.int from by rw [List.map_append]; rfl]; exact denI_of _ _⟩,by omega,hds b hbm,?_,by rw [List.length_append,List.length_singleton]; omega,fun q6 zs H6 s6 n6 e6 d6=>?_⟩
        · have:=le_sum (cntN m) hbm
          omega
        · have el6:H6 l=some (.lst us):=s6 _ _ (s5 _ _ (s4 _ _ el3))
          have dus:DenL H6 us _:=((d3.same s4).same s5).same s6
          have hL:us.length+zs.length≤100000:=by
            have h1:=d2.len
            have h2:=d6.len
            rw [List.length_map,nds_len] at h2
            rw [List.length_map,List.length_cons,flatMap_zip _ (cntN m) (fun x i=>nds_len m _ x)] at h1
            have h3:=sum_take_succ (cntN m) hil
            rw [ebi] at h3
            omega
          refine ⟨l,q6,us,zs,rfl,rfl,el6,e6,Nat.le_trans (Nat.le_trans hL (by decide)) sizeLine_big,_,_,us++zs,rfl,?_,upd_same,?_⟩
          · intro c o z
            rw [upd_ne (ne_of_none z hlH)]
            exact s6 _ _ (sA c o z)
          · have kp:∀ (b:Addr) (vs:List V),H6 b=some (.tup vs)→(upd H6 l (.lst (us++zs))) b=some (.tup vs):=fun b vs e=>by
              rw [upd_ne (ne_of e el6 (by intro z; cases z))]
              exact e
            have etk:((ds.take (i+1)).zipIdx.flatMap fun p=>nds m (ks++[((p.2:Nat):Int)]) p.1)=((ds.take i).zipIdx.flatMap fun p=>nds m (ks++[((p.2:Nat):Int)]) p.1)++nds m (ks++[((i:Nat):Int)]) b:=by
              rw [List.take_add_one,hb,Option.toList_some,List.zipIdx_append,List.flatMap_append]
              simp [Nat.min_eq_left (Nat.le_of_lt hil)]
            rw [etk,← List.cons_append,List.map_append]
            exact denl_app (dus.keepT kp) (d6.keepT kp)
      · rintro σ H2 ⟨v3,v4,us,rfl,s2,el2,d2⟩
        rw [hlen,List.take_length] at d2
        exact ⟨_,rfl,kk l us H2 s2 hlH el2 d2⟩
theorem nds_kind:∀ (n:Nat) (ks:List Int) (d:D),Tr n d→∀ x∈nds n ks d,(∃ y:List Nat,x.2=sD y)∨∃ ds,x.2=.tup ds
  | 0,ks,d,h,x,hx=>by
    obtain ⟨y,rfl⟩:=h
    have:x=(ks,sD y):=by simpa [nds] using hx
    subst this
    exact .inl ⟨y,rfl⟩
  | n+1,ks,d,h,x,hx=>by
    obtain ⟨ds,rfl,hd⟩:=h
    rcases List.mem_cons.mp hx with rfl | hx
    · exact .inr ⟨ds,rfl⟩
    · obtain ⟨p,hp,hx⟩:=List.mem_flatMap.mp hx
      refine nds_kind n _ p.1 (hd _ ?_) x hx
      exact List.fst_mem_of_mem_zipIdx hp
theorem ty_node (K:PySem.W.Frag) {H:Hp} {v:V} {d:D} (h:Den H v d) (hk:(∃ y:List Nat,d=sD y)∨∃ ds,d=.tup ds):∃ t,TyOf K H v t∧PySem.W.kitOne K t (.type "str")=some (isS d):=by
  rcases hk with ⟨y,rfl⟩ | ⟨ds,rfl⟩
  · have e:v=.str ⟨y.toArray⟩:=h
    subst e
    exact ⟨_,.str _,kit_str_str K⟩
  · obtain ⟨p,vs,rfl,hp,_⟩:=den_tup h
    have e:isS (D.tup ds)=false:=rfl
    rw [e]
    exact ⟨_,.tup hp,kit_tt K (by decide +kernel)⟩
theorem scLeaves:FnScope ["tree"] ["tree"] (defScope sLeaves):=⟨rfl,rfl,rfl,by decide +kernel,rfl,by decide +kernel,by decide +kernel⟩
theorem c_leaves (h:Has K mg "leaves" sLeaves ["tree"]) (C_nodes_of:Cal P w K mg base "nodes_of" 7 ["tree", "path"] (spNodes 7)) (m_tuple:mg "tuple" = none) (m_isinstance:mg "isinstance" = none) (m_str:mg "str" = none):Cal P w K mg base "leaves" 8 ["tree"] spLeaves:=by
  refine h.mk' scLeaves (fun vs H Q E hs=>?_) (fun f cdv A outer s H vs Q E hr hs=>?_)
  · obtain ⟨v,m,d,rfl,_⟩:=hs
    rfl
  obtain ⟨v,m,d,rfl,hv,hm,ht,hc,kk⟩:=hs
  refine ⟨_,(pss_one (ps_ret (pe_callTy call_tuple_of rfl m_tuple boot_tuple (pa_cons (pe_compL ["tree"] (defScope sLeaves) ["node"] [none] rfl rfl rfl (pi_list (pe_cal C_nodes_of hr (by decide) rfl (pa_cons (pv 0) (pa_cons (pe_tup pa_nil) pa_nil)))) rfl (by decide +kernel) (by decide +kernel) (by decide +kernel) (by decide +kernel) (hg:=fun cl C s H ex pn E=>(pg_name (i:=0) (by decide +kernel:(["node"]:List Str).Nodup) rfl (Or.inl rfl))) (ht:=fun cl C s H ex pn E=>(pifs_one (pt_val (pe_callB (call_isinstK (K:=K) rfl) rfl m_isinstance boot_isinstance (pa_cons (pe_ix (ix_tupK (K:=K) rfl) (pv 0) pe_int (fun _ _=>rfl)) (pa_cons (pe_bltn (v:=.ty "str") rfl m_str boot_str rfl) pa_nil)))))) (he:=fun cl C s H ex pn E=>(pv 0))) pa_nil)))),?_⟩
  refine ⟨_,rfl,smn 0,fun t0 ht0=>?_⟩
  have s0:=same_new ht0 (.tup [])
  refine ⟨v,.ref t0,m,d,[],rfl,hv.same s0,⟨t0,_,rfl,upd_same,trivial⟩,by omega,ht,hc,by simp; omega,fun q us H1 s1 n1 e1 d1=>?_⟩
  have hkind:=nds_kind m [] d ht
  have hlen:=nds_len m [] d
  have hlv:=nds_lvs m [] d ht
  generalize nds m [] d=ns at d1 hkind hlen hlv
  have hul:=d1.len
  rw [List.length_map] at hul
  refine ⟨q,rfl,⟨_,SqL.of e1⟩,fun lc hlc=>?_⟩
  refine comp_by (J:=Itl K q) (l:=lc) us.length (fun i σ' H'=>∃ (v:Option V) (ws:List V),σ'=[v]∧Same H1 H'∧H' lc=some (.lst ws)∧DenL H' ws (((ns.take i).filter fun p=>isS p.2).map ndD)) ⟨none,[],rfl,same_new hlc _,upd_same,trivial⟩ ?_ ?_
  · rintro σ' H' ⟨v,ws,rfl,hs,hl',hd'⟩
    refine ⟨⟨_,SqL.of (hs _ _ e1),Nat.le_refl _⟩,lc,ws,rfl,.inl ⟨SqL.of hl',fun q2 hq2=>?_⟩⟩
    rw [hul,List.take_length,hlv] at hd'
    exact kk q2 _ (((s0.trans s1).trans hs).trans (same_new hq2 _)) ⟨q2,ws,rfl,upd_same,hd'.same (same_new hq2 _)⟩
  · rintro i σ' H' hi ⟨v,ws,rfl,hs,hl',hd'⟩
    have hat:us[i]?=some us[i]:=List.getElem?_eq_getElem hi
    refine ⟨⟨_,_,SqL.of (hs _ _ e1),hat⟩,?_⟩
    rintro y H'' ⟨rfl,hy⟩
    have ey:y=us[i]:=Option.some.inj ((hy _ (SqL.of (hs _ _ e1))).symm.trans hat)
    have hni:i < ns.length:=by omega
    obtain ⟨dd,hdd,dy⟩:=d1.at_ hat
    rw [← ey] at dy
    rw [List.getElem?_map,List.getElem?_eq_getElem hni] at hdd
    have edd:ndD ns[i]=dd:=Option.some.inj hdd
    subst edd
    have dyH:Den H'' y (ndD ns[i]):=dy.same hs
    obtain ⟨b,bs,rfl,hb,hbd⟩:=den_tup dyH
    match bs,hbd,hb with
    | [b0,b1],hbd,hb =>
      obtain ⟨ty,tyo,tyk⟩:=ty_node K (hbd.2.1) (hkind _ (List.getElem_mem hni))
      have htk:(ns.take (i+1)).filter (fun p=>isS p.2)=(ns.take i).filter (fun p=>isS p.2)++(if isS ns[i].2=true then [ns[i]] else []):=by
        rw [List.take_add_one,List.getElem?_eq_getElem hni,List.filter_append]
        congr 1
        by_cases z:isS ns[i].2=true <;> simp [z]
      refine gN ⟨_,rfl,b,_,_,_,rfl,rfl,SqT.of hb,atI_nat (xs:=[b0,b1]) (j:=1) rfl,_,_,_,_,rfl,tyo,tyk,_,rfl,?_⟩
      refine ite2 (fun z=>?_) (fun z=>?_)
      · have z':isS ns[i].2=true:=z
        rw [if_pos z'] at htk
        have wl:=hd'.len
        rw [List.length_map] at wl
        have wl2:((ns.take i).filter fun p=>isS p.2).length≤ns.length:=Nat.le_trans (List.length_filter_le _ _) (by rw [List.length_take]; omega)
        refine ⟨_,rfl,ws,hl',Nat.lt_of_lt_of_le (show ws.length < 1000000 by omega) sizeLine_big,_,ws++[.ref b],rfl,?_,upd_same,?_⟩
        · intro c o z
          have hlH:H1 lc=none:=hlc
          rw [upd_ne (ne_of_none z hlH)]
          exact hs c o z
        · rw [htk,List.map_append]
          have kp:∀ (b':Addr) (vs:List V),H'' b'=some (.tup vs)→(upd H'' lc (.lst (ws++[.ref b]))) b'=some (.tup vs):=fun b' vs e=>by
            rw [upd_ne (ne_of e hl' (by intro z; cases z))]
            exact e
          exact DenL.snoc (dyH.keepT kp) (hd'.keepT kp)
      · have z':¬ isS ns[i].2=true:=z
        rw [if_neg z',List.append_nil] at htk
        exact ⟨_,ws,rfl,hs,hl',by rw [htk]; exact hd'⟩
    | [],hbd,_=>exact hbd.elim
    | [_],hbd,_=>exact hbd.2.elim
    | _ :: _ :: _ :: _,hbd,_=>exact hbd.2.2.elim
theorem scSewn:FnScope ["tree"] ["tree"] (defScope sSewn):=⟨rfl,rfl,rfl,by decide +kernel,rfl,by decide +kernel,by decide +kernel⟩
theorem c_sewn (h:Has K mg "sewn" sSewn ["tree"]) (C_leaves:Cal P w K mg base "leaves" 8 ["tree"] spLeaves):Cal P w K mg base "sewn" 9 ["tree"] spSewn:=by
  refine h.mk' scSewn (fun vs H Q E hs=>?_) (fun f cdv A outer s H vs Q E hr hs=>?_)
  · obtain ⟨v,m,d,rfl,_⟩:=hs
    rfl
  obtain ⟨v,m,d,rfl,hv,hm,ht,hc,hz,kk⟩:=hs
  refine ⟨_,(pss_one (ps_ret (pe_bm PySem.F.plainAttrs_str PySem.F.slot_str_join PySem.F.type_str_join mt_join pe_str (pa_cons (pe_compL ["tree"] (defScope sSewn) ["leaf"] [none] rfl rfl rfl (pi_tup (pe_cal C_leaves hr (by decide) rfl (pa_cons (pv 0) pa_nil))) rfl (by decide +kernel) (by decide +kernel) (by decide +kernel) (by decide +kernel) (hg:=fun cl C s H ex pn E=>(pg_name (i:=0) (by decide +kernel:(["leaf"]:List Str).Nodup) rfl (Or.inl rfl))) (ht:=fun cl C s H ex pn E=>pifs_nil) (he:=fun cl C s H ex pn E=>(pe_ix (ix_tupK (K:=K) rfl) (pv 0) pe_int (fun _ _=>rfl)))) pa_nil)))),?_⟩
  refine ⟨rfl,_,rfl,v,m,d,rfl,hv,hm,ht,hc,fun q H1 s1 d1=>?_⟩
  have hsw:=lvs_sew m [] d
  have hcn:=lvs_cnt m [] d
  generalize lvs m [] d=ps at d1 hsw hcn
  obtain ⟨q',us,eq,e1,d1⟩:=den_tup d1
  injection eq with eq
  subst eq
  have hul:=d1.len
  rw [List.length_map] at hul
  refine ⟨q,rfl,⟨_,SqT.of e1⟩,fun lc hlc=>?_⟩
  refine comp_by (J:=Itt K q) (l:=lc) us.length (fun i σ' H'=>∃ (v:Option V),σ'=[v]∧Same H1 H'∧H' lc=some (.lst (((ps.take i).map (·.2)).map mkT))) ⟨none,rfl,same_new hlc _,upd_same⟩ ?_ ?_
  · rintro σ' H' ⟨v,rfl,hs,hl'⟩
    rw [hul,List.take_length] at hl'
    refine ⟨⟨_,SqT.of (hs _ _ e1),Nat.le_refl _⟩,_,lc,(ps.map (·.2)).map (fun r=>(⟨r.toArray⟩:Str)),rfl,rfl,SqL.of (by rw [List.map_map]; exact hl'),join_flat_fits (by decide +kernel) _ (by rw [hsw]; omega),?_⟩
    rw [join_flat (by decide +kernel),hsw]
    exact kk H' (s1.trans hs)
  · rintro i σ' H' hi ⟨v,rfl,hs,hl'⟩
    have hat:us[i]?=some us[i]:=List.getElem?_eq_getElem hi
    refine ⟨⟨_,_,SqT.of (hs _ _ e1),hat⟩,?_⟩
    rintro y H'' ⟨rfl,hy⟩
    have ey:y=us[i]:=Option.some.inj ((hy _ (SqT.of (hs _ _ e1))).symm.trans hat)
    have hni:i < ps.length:=by omega
    obtain ⟨dd,hdd,dy⟩:=d1.at_ hat
    rw [← ey] at dy
    rw [List.getElem?_map,List.getElem?_eq_getElem hni] at hdd
    have edd:leafD ps[i]=dd:=Option.some.inj hdd
    subst edd
    have dyH:Den H'' y (leafD ps[i]):=dy.same hs
    obtain ⟨b,bs,rfl,hb,hbd⟩:=den_tup dyH
    match bs,hbd,hb with
    | [b0,b1],hbd,hb =>
      have e1':b1=mkT ps[i].2:=hbd.2.1
      subst e1'
      refine gN (yesT (iteT ?_))
      refine ⟨_,rfl,b,_,_,_,rfl,rfl,SqT.of hb,atI_nat (xs:=[b0,mkT ps[i].2]) (j:=1) rfl,_,hl',?_,_,rfl,?_,?_⟩
      · rw [List.length_map,List.length_map,List.length_take]
        exact Nat.lt_of_lt_of_le (show min i ps.length < 1000000 by omega) sizeLine_big
      · intro c o z
        have hlH:H1 lc=none:=hlc
        rw [upd_ne (ne_of_none z hlH)]
        exact hs c o z
      · rw [upd_same,List.take_add_one,List.getElem?_eq_getElem hni,List.map_append,List.map_append]
        rfl
    | [],hbd,_=>exact hbd.elim
    | [_],hbd,_=>exact hbd.2.elim
    | _ :: _ :: _ :: _,hbd,_=>exact hbd.2.2.elim
end
def spEnds:Nat→Sp
  | 0=>fun _ _ _ _=>False
  | n+1=>fun vs H Q _=>∃ (v r:V) (l:Lvl) (ls:List Lvl) (t:List Nat),vs=[v,r]∧Den H v (treeD (l :: ls) t)∧Den H r (rulesD (l :: ls))∧ls.length≤n∧n≤5∧t.length≤400∧(∀ l'∈l :: ls,l'.1.length≤900)∧∀ (H':Hp),Same H H'→Q (.bl true) H'
section
open M08
variable {P:Program} {w:World} {K:PySem.W.Frag} {mg:Str→Option Value} {base:Heap}
theorem scEnds:FnScope ["_law_tree", "_law_rules_here", "_law_k", "_law_inner"] ["_law_tree", "_law_rules_here"] (defScope sEnds):=⟨rfl,rfl,rfl,by decide +kernel,rfl,by decide +kernel,by decide +kernel⟩
theorem c_ends (h:Has K mg "_law_ends" sEnds ["_law_tree", "_law_rules_here"]) (C_sewn:Cal P w K mg base "sewn" 9 ["tree"] spSewn) (m_any:mg "any" = none) (m_len:mg "len" = none) (m_isinstance:mg "isinstance" = none) (m_tuple:mg "tuple" = none) (m_enumerate:mg "enumerate" = none) :
    ∀ n:Nat,Cal P w K mg base "_law_ends" (n+9) ["_law_tree", "_law_rules_here"] (spEnds n)
  | 0=>(h.never fun _ _ _ _ z=>z).mono (by omega)
  | n+1=>by
    have C_ends:=c_ends h C_sewn m_any m_len m_isinstance m_tuple m_enumerate n
    refine h.mk' scEnds (fun vs H Q E hs=>?_) (fun f cdv A outer s H vs Q E hr hs=>?_)
    · obtain ⟨v,r,l,ls,t,rfl,_⟩:=hs
      rfl
    obtain ⟨v,r,l,ls,t,rfl,hv,hR,hn,hn5,ht,hmm,kk⟩:=hs
    refine ⟨_,(pss_cons (ps_for PassesOwn.never rfl (pi_enumT rfl m_enumerate (pa_cons (pv 0) pa_nil)) (pg_tup (n:=2) rfl (pgs_cons (pg_name (i:=2) scEnds.nd rfl (Or.inl rfl)) (pgs_cons (pg_name (i:=3) scEnds.nd rfl (Or.inr rfl)) pgs_nil)))
      (pss_cons (ps_if (PW.pt (pw_or (pt_cmpR (op_eqS0 hr.units0) (pv 3) pe_str (nomark _)) (pw_or1 (pt_cmpR (op_eqT1 hr.units0) (pv 3) (pe_tup pa_nil) (nomark _)))))
      (pss_one (ps_ret pe_bl))
      pss_nil)
    (pss_cons (ps_if (PW.pt (pw_and (pt_cmpR op_lt (pv 2) (pe_op op_sub (pe_callB call_len_seq rfl m_len PySem.boot_len (pa_cons (pv 0) pa_nil)) pe_int) (nomark _)) (pw_and1 (pt_not (pt_val (pe_callB (call_anyB rfl) rfl m_any boot_any (pa_cons (pe_compL ["_law_tree", "_law_rules_here", "_law_k", "_law_inner"] (defScope sEnds) ["_law_inner", "_law_mark"] [some 3,none] rfl rfl rfl (pi_tup (pe_ix ix_tup (pe_ix ix_tup (pv 1) pe_int (fun _ _=>rfl)) pe_int (fun _ _=>rfl))) rfl (by decide +kernel) (by decide +kernel) (by decide +kernel) (by decide +kernel) (hg:=fun cl C s H ex pn E=>(pg_name (i:=1) (by decide +kernel:(["_law_inner", "_law_mark"]:List Str).Nodup) rfl (Or.inl rfl))) (ht:=fun cl C s H ex pn E=>pifs_nil) (he:=fun cl C s H ex pn E=>(pe_bmK (K:=K) rfl PySem.F.plainAttrs_str PySem.F.slot_str_endswith PySem.F.type_str_endswith mt_ends (pe_cal C_sewn hr (by omega) rfl (pa_cons (pv 0) pa_nil)) (pa_cons (pv 1) pa_nil)))) pa_nil)))))))
      (pss_one (ps_ret pe_bl))
      pss_nil)
    (pss_one (ps_if (PW.pt (pw_and (pt_val (pe_callB call_isinst rfl m_isinstance boot_isinstance (pa_cons (pv 3) (pa_cons (pe_bltn (v:=.ty "tuple") rfl m_tuple boot_tuple rfl) pa_nil)))) (pw_and1 (pt_not (pt_val (pe_cal C_ends hr (by omega) rfl (pa_cons (pv 3) (pa_cons (pe_slice sl_tupW (pv 1) (po_some pe_int) po_none) pa_nil))))))))
      (pss_one (ps_ret pe_bl))
      pss_nil)))))
    (pss_one (ps_ret pe_bl))),?_⟩
    obtain ⟨pv,vs,rfl,hpv,hvs⟩:=den_tup hv
    obtain ⟨pr,rs,rfl,hpr,hrs⟩:=den_tup hR
    have hcl:=cut_le l.1 l.2 t.length [] t (Nat.le_refl _)
    have hce:=cut_ends l.1 l.2 t.length [] t (Nat.le_refl _)
    generalize hpc:cut l.1 l.2 [] t=pcs at hvs hcl hce
    have hmk:=hmm l List.mem_cons_self
    have hlen:=hvs.len
    rw [List.length_map] at hlen
    refine ⟨_,rfl,pv,rfl,⟨_,SqT.of hpv⟩,?_⟩
    refine for_enumT (K:=K) (a:=pv) (xs:=vs) (fun i σ H2=>∃ (v2 v3:Option V),σ=[some (.ref pv),some (.ref pr),v2,v3]∧Same H H2)
      ⟨none,none,rfl,Same.refl H⟩ ?_ ?_ ?_
    · rintro i σ H2 _ ⟨v2,v3,rfl,s2⟩
      exact SqT.of (s2 _ _ hpv)
    · rintro i y t1 σ H2 hi ⟨v2,v3,rfl,s2⟩ htn
      obtain ⟨b,hb,db⟩:=hvs.at_ hi
      have hil:i < vs.length:=(List.getElem?_eq_some_iff.mp hi).1
      have hip:i < pcs.length:=by omega
      rw [List.getElem?_map,List.getElem?_eq_getElem hip] at hb
      have eb:treeD ls pcs[i]=b:=Option.some.inj hb
      subst eb
      obtain ⟨hne,hpl⟩:=hcl.2.2 _ (List.getElem_mem hip)
      have hpl':pcs[i].length≤400:=by simp at hpl; omega
      refine ⟨t1,_,rfl,SqT.of upd_same,rfl,_,_,rfl,_,_,rfl,rfl,?_⟩
      have s3:Same H2 (upd H2 t1 (.tup [.int (i:Nat),y])):=same_new htn _
      have sA:Same H (upd H2 t1 (.tup [.int (i:Nat),y])):=s2.trans s3
      generalize upd H2 t1 (.tup [.int (i:Nat),y])=H3 at sA ⊢
      have dy:Den H3 y (treeD ls pcs[i]):=db.same sA
      have t1':∀ Qx:VK,Qx (.bl false) H3→rEqS0 y (.str (Str.ofString "")) H3 Qx:=fun Qx q=>by
        refine ⟨_,rfl,?_⟩
        cases ls with
        | nil =>
          have ey:y=.str ⟨pcs[i].toArray⟩:=dy
          refine .inl ⟨_,ey,?_⟩
          rw [decide_eq_false]
          · exact q
          · intro z
            have z':=congrArg (fun u:Str=>u.cps.toList) z
            have z2:pcs[i]=[]:=z'
            exact hne z2
        | cons l2 ls2 =>
          obtain ⟨b,bs,ey,hb2,_⟩:=den_tup dy
          exact .inr ⟨b,bs,ey,hb2,q⟩
      have t2':∀ (b:Addr) (H4:Hp) (Qx:VK),Same H3 H4→H4 b=some (.tup [])→Qx (.bl false) H4→rEqT1 y (.ref b) H4 Qx:=fun b H4 Qx s4 hb4 q=>by
        refine ⟨b,rfl,hb4,?_⟩
        cases ls with
        | nil =>
          have ey:y=.str ⟨pcs[i].toArray⟩:=dy
          exact .inl ⟨_,ey,q⟩
        | cons l2 ls2 =>
          obtain ⟨c,bs,ey,hb2,hd2⟩:=den_tup dy
          refine .inr ⟨c,bs,ey,s4 _ _ hb2,?_⟩
          have hl2:=hd2.len
          rw [List.length_map] at hl2
          have hcn:=cut_ne (ms:=l2.1) (ks:=l2.2) hne
          cases bs with
          | nil=>exact absurd (List.eq_nil_of_length_eq_zero hl2.symm) hcn
          | cons _ _=>exact q
      refine ⟨y,rfl,?_⟩
      dsimp only [tC]
      refine t1' _ ⟨false,rfl,?_⟩
      refine (iteF ?_:if false=true then _ else _)
      refine ⟨y,rfl,smn 0,fun tb htb=>?_⟩
      refine t2' tb _ _ (same_new htb _) upd_same ⟨false,rfl,?_⟩
      refine (iteF ?_:if false=true then _ else _)
      have sB:Same H (upd H3 tb (.tup [])):=sA.trans (same_new htb _)
      generalize upd H3 tb (.tup [])=H4 at sB ⊢
      refine ⟨_,rfl,_,rfl,pv,vs,rfl,.inr (SqT.of (sB _ _ hpv)),_,_,rfl,rfl,_,_,rfl,rfl,_,rfl,?_⟩
      refine (ite2 (fun z=>?aa) (fun z=>?bb):if decide (((i:Nat):Int) < ((vs.length:Nat):Int) - 1)=true then _ else _)
      case' aa =>
        have hz:i+1 < pcs.length:=by
          have z':((i:Nat):Int) < ((vs.length:Nat):Int) - 1:=of_decide_eq_true z
          omega
        obtain ⟨m0,hm0,p0,ep0,hsf⟩:=hce i hz
        have ep1:pcs[i]=p0:=by
          rw [List.getElem?_eq_getElem hip] at ep0
          exact Option.some.inj ep0
        rw [← ep1] at hsf
        obtain ⟨r0,rs0,ers⟩:∃ r0 rs0,rs=r0 :: rs0:=by
          cases rs with
          | nil=>exact hrs.elim
          | cons a b=>exact ⟨a,b,rfl⟩
        have hrs':=hrs
        rw [ers] at hrs'
        obtain ⟨q1,q2,q3,eq1,hq1,hq2,_⟩:=den_lv hrs'.1
        have hpr':H pr=some (.tup (r0 :: rs0)):=by rw [← ers]; exact hpr
        refine ⟨_,rfl,pr,_,_,_,rfl,rfl,SqT.of (sB _ _ hpr'),atI_zero r0 rs0,q1,_,_,_,eq1,rfl,SqT.of (sB _ _ hq1),atI_zero (V.ref q2) [V.ref q3],q2,rfl,⟨_,SqT.of (sB _ _ hq2)⟩,fun lc hlc=>?_⟩
        refine comp_by (J:=Itt K q2) (l:=lc) l.1.length (fun i' σ' H'=>∃ (v:Option V),σ'=[some y,v]∧Same H4 H'∧H' lc=some (.lst (((l.1.take i').map fun m=>Txt.endswith ⟨pcs[i].toArray⟩ ⟨m.toArray⟩).map V.bl))) ⟨none,rfl,same_new hlc _,upd_same⟩ ?_ ?_
        case' refine_2 =>
          rintro i' σ' H' hi' ⟨v',rfl,s9,hl9⟩
          have hmi:(l.1.map mkT)[i']?=some (mkT l.1[i']):=by rw [List.getElem?_map,List.getElem?_eq_getElem hi']; rfl
          refine ⟨⟨_,_,SqT.of (s9 _ _ (sB _ _ hq2)),hmi⟩,?_⟩
          rintro ym H'' ⟨rfl,hy⟩
          have ey:ym=mkT l.1[i']:=Option.some.inj ((hy _ (SqT.of (s9 _ _ (sB _ _ hq2)))).symm.trans hmi)
          refine gN (yesT (iteT ?_))
          refine ⟨y,rfl,y,ls.length,treeD ls pcs[i],rfl,db.same (sB.trans s9),by omega,tr_tree ls _,?_,by rw [sew_tree]; omega,fun H10 s10=>?_⟩
          · have h1:=cnt_tree ls pcs[i]
            have h2:ls.length * pcs[i].length≤5 * 400:=Nat.mul_le_mul (by omega) hpl'
            omega
          rw [sew_tree]
          have em:ym=.str ⟨(l.1[i']).toArray⟩:=ey
          refine ⟨rfl,ym,rfl,_,_,rfl,(by rw [em]),_,s10 _ _ hl9,?_,_,rfl,?_,?_⟩
          · rw [List.length_map,List.length_map,List.length_take]
            refine small1000 ?_
            have:=hmk
            omega
          · intro c o z
            rw [upd_ne (ne_of_none z hlc)]
            exact s10 _ _ (s9 c o z)
          · rw [upd_same,List.take_add_one,List.getElem?_eq_getElem hi',List.map_append,List.map_append]
            rfl
        case' refine_1 =>
          rintro σ' H5 ⟨v',rfl,s5',hl5⟩
          rw [List.take_length] at hl5
          refine ⟨⟨_,SqT.of (s5' _ _ (sB _ _ hq2)),by rw [List.length_map]; exact Nat.le_refl _⟩,lc,_,rfl,SqL.of hl5,_,rfl,?_⟩
          have eany:((l.1.map fun m=>Txt.endswith ⟨pcs[i].toArray⟩ ⟨m.toArray⟩).any id)=true:=by
            rw [List.any_map,List.any_eq_true]
            exact ⟨m0,hm0,ends_suf hsf⟩
          rw [eany]
          refine (iteF ?_:if (!true)=true then _ else _)
          have s5:=sB.trans s5'
      case' bb =>
        refine (iteF ?_:if false=true then _ else _)
        have s5:=sB
      all_goals
        have callE:∀ (r':V) (l2:Lvl) (ls2:List Lvl) (Hx:Hp) (Qx:VK) (Ex:XK),ls=l2 :: ls2→Den Hx y (treeD (l2 :: ls2) pcs[i])→Den Hx r' (rulesD (l2 :: ls2))→(∀ H',Same Hx H'→Qx (.bl true) H')→spEnds n [y,r'] Hx Qx Ex:=fun r' l2 ls2 Hx Qx Ex els h1 h2 h3=>by
          rw [els,List.length_cons] at hn
          obtain ⟨m,em⟩:∃ m,n=m+1:=⟨n - 1,by omega⟩
          rw [em]
          exact ⟨y,r',l2,ls2,pcs[i],rfl,h1,h2,by omega,by omega,hpl',fun l' hl'=>hmm l' (by rw [els]; exact List.mem_cons_of_mem _ hl'),h3⟩
        cases els:ls with
        | nil =>
          rw [els] at db
          have ey:y=.str ⟨pcs[i].toArray⟩:=db
          refine ⟨y,rfl,y, "tuple",_,false,rfl,(by rw [ey]; exact .str _),kit_str_tuple K,_,rfl,?_⟩
          refine (iteF ?_:if false=true then _ else _)
          refine (iteF ?_:if false=true then _ else _)
          exact ⟨_,_,rfl,s5⟩
        | cons l2 ls2 =>
          rw [els] at db
          obtain ⟨c,bs,ey,hb2,hd2⟩:=den_tup db
          refine ⟨y,rfl,y, "tuple",_,true,rfl,(by rw [ey]; exact .tup (s5 _ _ hb2)),kit_tuple_tuple K,_,rfl,?_⟩
          refine (iteT ?_:if true=true then _ else _)
          refine ⟨y,rfl,_,rfl,_,rfl,_,_,rfl,s5 _ _ hpr,fun p6 H6 s6 e6=>?_⟩
          obtain ⟨r0,rs0,ers⟩:∃ r0 rs0,rs=r0 :: rs0:=by
            cases rs with
            | nil=>exact hrs.elim
            | cons a b=>exact ⟨a,b,rfl⟩
          have hrs':=hrs
          rw [ers,els] at hrs'
          rw [ers,cutV_one] at e6
          have sC:=s5.trans s6
          refine callE (.ref p6) l2 ls2 H6 _ _ els (db.same sC) ⟨p6,_,rfl,e6,hrs'.2.same sC⟩ fun H7 s7=>⟨_,rfl,?_⟩
          refine (iteF ?_:if (!true)=true then _ else _)
          exact ⟨_,_,rfl,sC.trans s7⟩
    · rintro σ H2 ⟨v2,v3,rfl,s2⟩
      exact kk H2 s2
end
def spLaw (K:PySem.W.Frag):Sp:=fun vs H Q _=>∃ (a:Addr) (ns:List Int),vs=[.ref a]∧SqL K H a (ns.map V.int)∧ns.length≤63∧∀ H',Q (.bl true) H'
section
open M08
variable {P:Program} {w:World} {K:PySem.W.Frag} {mg:Str→Option Value} {base:Heap}
theorem leaves_split {H:Hp}:∀ {ps:List (List Int × List Nat)} {dvs:List V},DenL H dvs (ps.map leafD)→∃ as:List Addr,as.length=ps.length∧DenL H (as.map V.ref) ((ps.map (·.1)).map tI)∧∀ (i:Nat) (h:i < ps.length),∃ b a:Addr,dvs[i]?=some (.ref b)∧as[i]?=some a∧H b=some (.tup [.ref a,mkT ps[i].2])∧H a=some (.tup (ps[i].1.map V.int))
  | [],[],_=>⟨[],rfl,trivial,fun i h=>absurd h (Nat.not_lt_zero _)⟩
  | p :: ps,v :: dvs,h=>by
    obtain ⟨h1,h2⟩:=h
    obtain ⟨as,e1,e2,e3⟩:=leaves_split h2
    obtain ⟨b,bs,rfl,hb,hbd⟩:=den_tup h1
    obtain ⟨b0,b1,rfl⟩:∃ b0 b1,bs=[b0,b1]:=by
      match bs,hbd with
      | [b0,b1],_=>exact ⟨b0,b1,rfl⟩
      | [],z=>exact z.elim
      | [_],z=>exact z.2.elim
      | _ :: _ :: _ :: _,z=>exact z.2.2.elim
    obtain ⟨a,pvs,rfl,ha,hpd⟩:=den_tup hbd.1
    have epv:=denI hpd
    subst epv
    have eb1:b1=mkT p.2:=hbd.2.1
    subst eb1
    refine ⟨a :: as,by rw [List.length_cons,List.length_cons,e1],⟨⟨a,_,rfl,ha,hpd⟩,e2⟩,fun i hi=>?_⟩
    cases i with
    | zero=>exact ⟨b,a,rfl,rfl,hb,ha⟩
    | succ i=>exact e3 i (by simpa using hi)
  | [],_ :: _,h=>h.elim
  | _ :: _,[],h=>h.elim
theorem texts_walk {K:PySem.W.Frag} {q lc:Addr} {dvs:List V} {ps:List (List Int × List Nat)} {H:Hp} {R:Hp→Prop} (e1:H q=some (.tup dvs)) (d1:DenL H dvs (ps.map leafD)) (hn:ps.length≤100000) (hlc:H lc=none) (hfin:∀ H',Same H H'→H' lc=some (.lst ((ps.map (·.2)).map mkT))→R H') :
    ∃ W:Nat→Nat→L2.St→Hp→Prop,(∃ m,W 0 m [none,none] (upd H lc (.lst [])))∧∀ i m σ H,W i m σ H →
      ((Itt K q).stop i H∧R H)∨((Itt K q).go i H∧∃ N:L2.St→Hp→Prop,(∀ σ' H',N σ' H'→∃ m',m' < m∧W (i+1) m' σ' H') ∧
        ∀ x H',(Itt K q).yld i H x H'→gTup K 2 (gCons (gName 0) (gCons (gName 1) gNil)) x σ H' fun σ2 H2=>tYes σ2 H2 fun b H3=>if b=true then tVar 1 σ2 H3 fun v H4=>∃ ys,H4 lc=some (.lst ys)∧ys.length < sizeLine∧N σ2 (upd H4 lc (.lst (ys++[v]))) else N σ2 H3):=by
  have hul:=d1.len
  rw [List.length_map] at hul
  refine comp_by (J:=Itt K q) (l:=lc) dvs.length (fun i σ' H'=>∃ (u0 u1:Option V),σ'=[u0,u1]∧Same H H'∧H' lc=some (.lst (((ps.take i).map (·.2)).map mkT))) ⟨none,none,rfl,same_new hlc _,upd_same⟩ ?_ ?_
  · rintro σ' H9 ⟨u0,u1,rfl,s9,hl9⟩
    rw [hul,List.take_length] at hl9
    exact ⟨⟨_,SqT.of (s9 _ _ e1),Nat.le_refl _⟩,hfin H9 s9 hl9⟩
  · rintro i σ' H9 hi ⟨u0,u1,rfl,s9,hl9⟩
    have hat:dvs[i]?=some dvs[i]:=List.getElem?_eq_getElem hi
    refine ⟨⟨_,_,SqT.of (s9 _ _ e1),hat⟩,?_⟩
    rintro y H'' ⟨rfl,hy⟩
    have ey:y=dvs[i]:=Option.some.inj ((hy _ (SqT.of (s9 _ _ e1))).symm.trans hat)
    have hni:i < ps.length:=by omega
    obtain ⟨dd,hdd,dy⟩:=d1.at_ hat
    rw [← ey] at dy
    rw [List.getElem?_map,List.getElem?_eq_getElem hni] at hdd
    have edd:leafD ps[i]=dd:=Option.some.inj hdd
    subst edd
    have dyH:Den H'' y (leafD ps[i]):=dy.same s9
    obtain ⟨b,bs,rfl,hb,hbd⟩:=den_tup dyH
    match bs,hbd,hb with
    | [b0,b1],hbd,hb =>
      have e1':b1=mkT ps[i].2:=hbd.2.1
      subst e1'
      refine ⟨b,_,rfl,SqT.of hb,rfl,_,_,rfl,_,_,rfl,rfl,yesT (iteT ?_)⟩
      refine ⟨_,rfl,_,hl9,?_,_,_,rfl,?_,?_⟩
      · rw [List.length_map,List.length_map,List.length_take]
        exact Nat.lt_of_lt_of_le (show min i ps.length < 1000000 by omega) sizeLine_big
      · intro c o z
        rw [upd_ne (ne_of_none z hlc)]
        exact s9 c o z
      · rw [upd_same,List.take_add_one,List.getElem?_eq_getElem hni,List.map_append,List.map_append]
        rfl
    | [],hbd,_=>exact hbd.elim
    | [_],hbd,_=>exact hbd.2.elim
    | _ :: _ :: _ :: _,hbd,_=>exact hbd.2.2.elim
theorem paths_walk {K:PySem.W.Frag} {q lc:Addr} {dvs:List V} {as:List Addr} {ps:List (List Int × List Nat)} {H:Hp} {R:Hp→Prop} (e1:H q=some (.tup dvs)) (hul:dvs.length=ps.length) (hal:as.length=ps.length) (hx:∀ (i:Nat) (h:i < ps.length),∃ b a:Addr,dvs[i]?=some (.ref b)∧as[i]?=some a∧H b=some (.tup [.ref a,mkT ps[i].2])∧H a=some (.tup (ps[i].1.map V.int))) (hn:ps.length≤100000) (hlc:H lc=none) (hfin:∀ H',Same H H'→H' lc=some (.lst (as.map V.ref))→R H') :
    ∃ W:Nat→Nat→L2.St→Hp→Prop,(∃ m,W 0 m [none,none] (upd H lc (.lst [])))∧∀ i m σ H,W i m σ H →
      ((Itt K q).stop i H∧R H)∨((Itt K q).go i H∧∃ N:L2.St→Hp→Prop,(∀ σ' H',N σ' H'→∃ m',m' < m∧W (i+1) m' σ' H') ∧
        ∀ x H',(Itt K q).yld i H x H'→gTup K 2 (gCons (gName 0) (gCons (gName 1) gNil)) x σ H' fun σ2 H2=>tYes σ2 H2 fun b H3=>if b=true then tVar 0 σ2 H3 fun v H4=>∃ ys,H4 lc=some (.lst ys)∧ys.length < sizeLine∧N σ2 (upd H4 lc (.lst (ys++[v]))) else N σ2 H3):=by
  refine comp_by (J:=Itt K q) (l:=lc) dvs.length (fun i σ' H'=>∃ (u0 u1:Option V),σ'=[u0,u1]∧Same H H'∧H' lc=some (.lst ((as.take i).map V.ref))) ⟨none,none,rfl,same_new hlc _,upd_same⟩ ?_ ?_
  · rintro σ' H9 ⟨u0,u1,rfl,s9,hl9⟩
    rw [hul,← hal,List.take_length] at hl9
    exact ⟨⟨_,SqT.of (s9 _ _ e1),Nat.le_refl _⟩,hfin H9 s9 hl9⟩
  · rintro i σ' H9 hi ⟨u0,u1,rfl,s9,hl9⟩
    obtain ⟨b,a,hat,haa,hb,_⟩:=hx i (by omega)
    refine ⟨⟨_,_,SqT.of (s9 _ _ e1),hat⟩,?_⟩
    rintro y H'' ⟨rfl,hy⟩
    have ey:y=.ref b:=Option.some.inj ((hy _ (SqT.of (s9 _ _ e1))).symm.trans hat)
    subst ey
    refine ⟨b,_,rfl,SqT.of (s9 _ _ hb),rfl,_,_,rfl,_,_,rfl,rfl,yesT (iteT ?_)⟩
    refine ⟨_,rfl,_,hl9,?_,_,_,rfl,?_,?_⟩
    · rw [List.length_map,List.length_take]
      exact Nat.lt_of_lt_of_le (show min i as.length < 1000000 by omega) sizeLine_big
    · intro c o z
      rw [upd_ne (ne_of_none z hlc)]
      exact s9 c o z
    · rw [upd_same,List.take_add_one,haa,List.map_append]
      rfl
theorem flat_len:∀ {l:List (List Nat)},(∀ x∈l,x≠[])→l.length≤l.flatten.length
  | [],_=>Nat.zero_le _
  | x :: l,h=>by
    have h1:=flat_len fun y hy=>h y (List.mem_cons_of_mem _ hy)
    have h2:=List.length_pos_iff.mpr (h x List.mem_cons_self)
    rw [List.length_cons,List.flatten_cons,List.length_append]
    omega
theorem all_say {H:Hp} {n:Nat}:∀ {ds:List D} {xs ys:List V},DenL H xs ds→DenL H ys ds→(∀ d∈ds,Shal n d)→AllSay n H xs ys
  | [],[],[],_,_,_=>trivial
  | d :: ds,x :: xs,y :: ys,h,g,hs=>⟨.inr ⟨d,hs d List.mem_cons_self,h.1,g.1⟩,all_say h.2 g.2 fun e he=>hs e (List.mem_cons_of_mem _ he)⟩
  | [],_ :: _,_,h,_,_=>h.elim
  | _ :: _,[],_,h,_,_=>h.elim
  | [],[],_ :: _,_,h,_=>h.elim
  | _ :: _,_ :: _,[],_,h,_=>h.elim
theorem scLaw:FnScope ["_law_script", "_law_seed_here", "_law_left", "_law_k", "_law_cell", "_law_pot_here", "_law_text_here", "_law_rules_here", "_law_tree", "_law_told"] ["_law_script"] (defScope sLaw):=⟨rfl,rfl,rfl,by decide +kernel,rfl,by decide +kernel,by decide +kernel⟩
theorem ok_law {f:Addr} {fd:FuncData} (F:Fun K "law" "law" sLaw f fd) (C_seed:Cal P w K mg base "_law_seed" 1 ["_law_script"] (spSeed K)) (C_pot:Cal P w K mg base "_law_pot" 1 ["_law_cell", "_law_seed_here"] spPot) (C_text:Cal P w K mg base "_law_text" 2 ["_law_pot_here"] spText) (C_rules:Cal P w K mg base "_law_rules" 3 ["_law_pot_here", "_law_text_here", "_law_many"] spRules) (C_take:Cal P w K mg base "_law_take" 1 ["_law_pot_here", "_law_many"] spTake) (C_cut_up:Cal P w K mg base "cut_up" 7 ["text", "rules"] (spCut 5)) (C_leaves:Cal P w K mg base "leaves" 8 ["tree"] spLeaves) (C_ends:Cal P w K mg base "_law_ends" 14 ["_law_tree", "_law_rules_here"] (spEnds 5)) (C_sewn:Cal P w K mg base "sewn" 9 ["tree"] spSewn) (m_enumerate:mg "enumerate" = none) (m_max:mg "max" = none) (m_len:mg "len" = none) (m_any:mg "any" = none) (m_sorted:mg "sorted" = none) (m_set:mg "set" = none):FnOk P w K mg base CX0 15 f fd ["_law_script"] (spLaw K):=by
  refine F.ok scLaw (fun vs H Q E hs=>?_) (fun cdv A outer s H vs Q E hr hs=>?_)
  · obtain ⟨a,ns,rfl,_⟩:=hs
    rfl
  obtain ⟨a,ns,rfl,hS,h63,k⟩:=hs
  refine ⟨_,(pss_cons (ps_set (i:=1) scLaw.nd rfl (Or.inl rfl) (pe_cal C_seed hr (by decide) rfl (pa_cons (pv 0) pa_nil)))
    (pss_cons (ps_set (i:=2) scLaw.nd rfl (Or.inl rfl) pe_int)
    (pss_cons (ps_for PassesOwn.never rfl (pi_enum rfl m_enumerate (pa_cons (pe_op op_cat (pe_lst (pa_cons pe_int (pa_cons pe_int pa_nil))) (pe_slice sl_list (pv 0) po_none (po_some pe_int))) pa_nil)) (pg_tup (n:=2) rfl (pgs_cons (pg_name (i:=3) scLaw.nd rfl (Or.inl rfl)) (pgs_cons (pg_name (i:=4) scLaw.nd rfl (Or.inl rfl)) pgs_nil)))
      (pss_cons (ps_set (i:=5) scLaw.nd rfl (Or.inl rfl) (pe_cal C_pot hr (by decide) rfl (pa_cons (pv 4) (pa_cons (pe_op op_add (pv 1) (pe_op op_mul pe_int (pv 3))) pa_nil))))
    (pss_cons (ps_set (i:=6) scLaw.nd rfl (Or.inl rfl) (pe_slice sl_str (pe_cal C_text hr (by decide) rfl (pa_cons (pv 5) pa_nil)) po_none (po_some (pe_callB (call_max2 rfl) rfl m_max boot_max (pa_cons pe_int (pa_cons (pv 2) pa_nil))))))
    (pss_cons (ps_set (i:=2) scLaw.nd rfl (Or.inl rfl) (pe_op op_sub (pv 2) (pe_callB call_len_str rfl m_len PySem.boot_len (pa_cons (pv 6) pa_nil))))
    (pss_cons (ps_set (i:=7) scLaw.nd rfl (Or.inr rfl) (pe_cal C_rules hr (by decide) rfl (pa_cons (pv 5) (pa_cons (pv 6) (pa_cons (pe_op op_add pe_int (pe_cal C_take hr (by decide) rfl (pa_cons (pv 5) (pa_cons pe_int pa_nil)))) pa_nil)))))
    (pss_cons (ps_set (i:=8) scLaw.nd rfl (Or.inl rfl) (pe_cal C_cut_up hr (by decide) rfl (pa_cons (pv 6) (pa_cons (pv 7) pa_nil))))
    (pss_cons (ps_set (i:=9) scLaw.nd rfl (Or.inl rfl) (pe_cal C_leaves hr (by decide) rfl (pa_cons (pv 8) pa_nil)))
    (pss_cons (ps_if (PW.pt (pw_or (pt_cmpR op_ne (pe_cal C_sewn hr (by decide) rfl (pa_cons (pv 8) pa_nil)) (pv 6) (nomark _)) (pw_or (pt_cmpR op_ne (pe_bm PySem.F.plainAttrs_str PySem.F.slot_str_join PySem.F.type_str_join mt_join pe_str (pa_cons (pe_compL ["_law_script", "_law_seed_here", "_law_left", "_law_k", "_law_cell", "_law_pot_here", "_law_text_here", "_law_rules_here", "_law_tree", "_law_told"] (defScope sLaw) ["_law_path", "_law_leaf"] [none,none] rfl rfl rfl (pi_tup (pv 9)) rfl (by decide +kernel) (by decide +kernel) (by decide +kernel) (by decide +kernel) (g:=gTup K 2 (gCons (gName 0) (gCons (gName 1) gNil))) (hg:=fun cl C s H ex pn E=>pg_tup (n:=2) rfl (pgs_cons (pg_name (i:=0) (by decide +kernel:(["_law_path", "_law_leaf"]:List Str).Nodup) rfl (Or.inl rfl) (Or.inr rfl)) (pgs_cons (pg_name (i:=1) (by decide +kernel:(["_law_path", "_law_leaf"]:List Str).Nodup) rfl (Or.inl rfl) (Or.inr rfl)) pgs_nil))) (ht:=fun cl C s H ex pn E=>pifs_nil) (he:=fun cl C s H ex pn E=>(pv 1))) pa_nil)) (pv 6) (nomark _)) (pw_or1 (pt_not (pt_val (pe_cal C_ends hr (by decide) rfl (pa_cons (pv 8) (pa_cons (pv 7) pa_nil)))))))))
      (pss_one (ps_ret pe_bl))
      pss_nil)
    (pss_cons (ps_if (pt_val (pe_callB (call_anyB rfl) rfl m_any boot_any (pa_cons (pe_compL ["_law_script", "_law_seed_here", "_law_left", "_law_k", "_law_cell", "_law_pot_here", "_law_text_here", "_law_rules_here", "_law_tree", "_law_told"] (defScope sLaw) ["_law_rules_here", "_law_path", "_law_leaf"] [some 7,none,none] rfl rfl rfl (pi_tup (pv 9)) rfl (by decide +kernel) (by decide +kernel) (by decide +kernel) (by decide +kernel) (g:=gTup K 2 (gCons (gName 1) (gCons (gName 2) gNil))) (hg:=fun cl C s H ex pn E=>pg_tup (n:=2) rfl (pgs_cons (pg_name (i:=1) (by decide +kernel:(["_law_rules_here", "_law_path", "_law_leaf"]:List Str).Nodup) rfl (Or.inl rfl) (Or.inr rfl)) (pgs_cons (pg_name (i:=2) (by decide +kernel:(["_law_rules_here", "_law_path", "_law_leaf"]:List Str).Nodup) rfl (Or.inl rfl) (Or.inr rfl)) pgs_nil))) (ht:=fun cl C s H ex pn E=>pifs_nil) (he:=fun cl C s H ex pn E=>(pe_or (pe_cmpR op_ne (pe_callB (call_len_seqK (K:=K) rfl) rfl m_len PySem.boot_len (pa_cons (pv 1) pa_nil)) (pe_callB (call_len_seqK (K:=K) rfl) rfl m_len PySem.boot_len (pa_cons (pv 0) pa_nil)) (nomark _)) (pe_one (pe_cmpR op_eq (pv 2) pe_str (nomark _)))))) pa_nil)))
      (pss_one (ps_ret pe_bl))
      pss_nil)
    (pss_one (ps_if (pt_cmpR (op_neL hr.units) (pe_compL ["_law_script", "_law_seed_here", "_law_left", "_law_k", "_law_cell", "_law_pot_here", "_law_text_here", "_law_rules_here", "_law_tree", "_law_told"] (defScope sLaw) ["_law_path", "_law_leaf"] [none,none] rfl rfl rfl (pi_tup (pv 9)) rfl (by decide +kernel) (by decide +kernel) (by decide +kernel) (by decide +kernel) (g:=gTup K 2 (gCons (gName 0) (gCons (gName 1) gNil))) (hg:=fun cl C s H ex pn E=>pg_tup (n:=2) rfl (pgs_cons (pg_name (i:=0) (by decide +kernel:(["_law_path", "_law_leaf"]:List Str).Nodup) rfl (Or.inl rfl) (Or.inr rfl)) (pgs_cons (pg_name (i:=1) (by decide +kernel:(["_law_path", "_law_leaf"]:List Str).Nodup) rfl (Or.inl rfl) (Or.inr rfl)) pgs_nil))) (ht:=fun cl C s H ex pn E=>pifs_nil) (he:=fun cl C s H ex pn E=>(pv 0))) (pe_callB (call_sortedST rfl hr.units) rfl m_sorted boot_sorted (pa_cons (pe_callTy (call_setT rfl hr.units) rfl m_set boot_set (pa_cons (pe_compL ["_law_script", "_law_seed_here", "_law_left", "_law_k", "_law_cell", "_law_pot_here", "_law_text_here", "_law_rules_here", "_law_tree", "_law_told"] (defScope sLaw) ["_law_path", "_law_leaf"] [none,none] rfl rfl rfl (pi_tup (pv 9)) rfl (by decide +kernel) (by decide +kernel) (by decide +kernel) (by decide +kernel) (g:=gTup K 2 (gCons (gName 0) (gCons (gName 1) gNil))) (hg:=fun cl C s H ex pn E=>pg_tup (n:=2) rfl (pgs_cons (pg_name (i:=0) (by decide +kernel:(["_law_path", "_law_leaf"]:List Str).Nodup) rfl (Or.inl rfl) (Or.inr rfl)) (pgs_cons (pg_name (i:=1) (by decide +kernel:(["_law_path", "_law_leaf"]:List Str).Nodup) rfl (Or.inl rfl) (Or.inr rfl)) pgs_nil))) (ht:=fun cl C s H ex pn E=>pifs_nil) (he:=fun cl C s H ex pn E=>(pv 0))) pa_nil)) pa_nil)) (nomark _))
      (pss_one (ps_ret pe_bl))
      pss_nil)))))))))))
    (pss_one (ps_ret pe_bl))))),?_⟩
  refine ⟨_,rfl,a,ns,rfl,hS,fun z H1 s1=>?_⟩
  refine ⟨smn 2,fun l1 hl1=>?_⟩
  have hS1:=(same_new hl1 (.lst [.int 3,.int 4])).seq (s1.seq hS)
  refine ⟨_,rfl,_,rfl,a,_,rfl,hS1,fun l2 hl2=>?_⟩
  obtain ⟨ms0,em0,hms0⟩:=cutV_ints ns none (some 61)
  rw [em0]
  have npl:l1≠l2:=ne_of_none upd_same hl2
  refine ⟨l1,l2,[.int 3,.int 4],ms0.map V.int,rfl,rfl,Eq.trans (upd_ne npl) upd_same,upd_same,(by rw [List.length_map]; exact small (by show 2+ms0.length≤1000; omega)),fun l3 hl3=>?_⟩
  have ecat:([.int 3,.int 4]:List V)++ms0.map V.int=(3 :: 4 :: ms0).map V.int:=rfl
  rw [ecat]
  refine ⟨l3,rfl,⟨_,SqL.of upd_same⟩,?_⟩
  have hmlen:(3 :: 4 :: ms0).length≤65:=by simp only [List.length_cons]; omega
  generalize 3 :: 4 :: ms0=ms3 at hmlen
  refine for_enum (K:=K) (a:=l3) (xs:=ms3.map V.int) (fun i σ H2=>∃ (lf:Int) (v3 v4 v5 v6 v7 v8 v9:Option V),σ=[some (.ref a),some (.int z),some (.int lf),v3,v4,v5,v6,v7,v8,v9]∧lf≤9000∧H2 l3=some (.lst (ms3.map V.int)))
    ⟨4000,_,_,_,_,_,_,_,rfl,by decide,upd_same⟩ ?_ ?_ ?_
  · rintro i σ H2 _ ⟨lf,v3,v4,v5,v6,v7,v8,v9,_,_,e⟩
    exact SqL.of e
  · rintro i y t σ H2 hi ⟨lf,v3,v4,v5,v6,v7,v8,v9,rfl,hlf,el3⟩ ht
    obtain ⟨c,rfl⟩:=map_int_at hi
    have nt:l3≠t:=ne_of_none el3 ht
    have q1:(upd H2 t (.tup [.int (i:Nat),.int c])) l3=some (.lst (ms3.map V.int)):=(upd_ne nt).trans el3
    refine ⟨t,_,rfl,SqT.of upd_same,rfl,_,_,rfl,_,_,rfl,rfl,?_⟩
    refine ⟨_,rfl,_,rfl,_,rfl,_,_,rfl,rfl,.inl ⟨by decide,by decide⟩,_,_,rfl,rfl,_,_,rfl,fun p a0 b0 hp=>?_⟩
    have n3p:l3≠p:=ne_of_none q1 hp
    refine ⟨_,rfl,p,a0,b0,rfl,upd_same,fun x H3 hx hP=>?_⟩
    refine ⟨_,rfl,_,_,rfl,_,rfl,x,rfl,small (by omega),?_⟩
    obtain ⟨m,em⟩:∃ m:Nat,(if lf > 12 then lf else 12)=(m:Int):=⟨(if lf > 12 then lf else 12).toNat,by split <;> omega⟩
    rw [em,SLi.upto]
    have hxl:x.cps.toList.length=x.length:=by simp [Str.length]
    obtain ⟨tt,ett⟩:∃ tt,tt=x.cps.toList.take m:=⟨_,rfl⟩
    have htt:tt.length≤400:=by
      rw [ett,List.length_take]
      omega
    rw [← ett]
    have hz:(⟨tt.toArray⟩:Str).length≤sizeLine:=small (by rw [lenT]; omega)
    refine ⟨_,rfl,_,rfl,_,rfl,hz,_,_,rfl,rfl,?_⟩
    have e3':H3 l3=some (.lst (ms3.map V.int)):=hP.old l3 _ ((upd_ne n3p).trans q1) n3p
    have hlf2:lf - ((⟨tt.toArray⟩:Str).length:Nat)≤9000:=by
      have:(0:Int)≤(((⟨tt.toArray⟩:Str).length:Nat):Int):=Int.natCast_nonneg _
      omega
    refine ⟨_,rfl,_,rfl,?_⟩
    refine draw (σ:=[some (.ref a),some (.int z),some (.int (lf - ((⟨tt.toArray⟩:Str).length:Nat))),some (.int (i:Nat)),some (.int c),some (.ref p),some (mkT tt),v7,v8,v9]) (i:=5) (H:=H3) (m:=5) rfl hP (by decide) (by decide) fun lv H4 r0 r1 P4 s4=>?_
    refine ⟨_,_,rfl,rfl,?_⟩
    obtain ⟨ln,eln⟩:∃ ln:Nat,1+lv=(ln:Int):=⟨(1+lv).toNat,by omega⟩
    obtain ⟨a1,b1,e1⟩:=id P4.at_
    refine ⟨p,⟨tt.toArray⟩,ln,a1,b1,(by show [V.ref p,V.str ⟨tt.toArray⟩,V.int (1+lv)]=_; rw [eln]),e1,by rw [lenT]; omega,by omega,fun q ls H5 P5 d5 ok5 hll=>?_⟩
    have e43:H4 l3=some (.lst (ms3.map V.int)):=s4 l3 _ e3' n3p
    have e53:H5 l3=some (.lst (ms3.map V.int)):=P5.old l3 _ e43 n3p
    have hln:ls≠[]:=fun z=>by rw [z] at hll; simp at hll; omega
    have hl5:ls.length≤5:=by omega
    refine ⟨_,rfl,_,rfl,tt,_,ls,rfl,d5,hln,hl5,ok5,by omega,fun q6 H6 s6 d6=>?_⟩
    have htr:=tr_tree ls tt
    have hcn:cntN ls.length (treeD ls tt)≤100000:=by
      have h1:=cnt_tree ls tt
      have h2:ls.length * tt.length≤5 * 400:=Nat.mul_le_mul hl5 htt
      omega
    have hsw:(sew ls.length (treeD ls tt)).length≤100000:=by
      rw [sew_tree]
      omega
    have e63:=s6 _ _ e53
    refine ⟨_,rfl,_,ls.length,treeD ls tt,rfl,d6,by omega,htr,hcn,fun q7 H7 s7 d7=>?_⟩
    have hsew:=lvs_sew ls.length [] (treeD ls tt)
    rw [sew_tree] at hsew
    have hcnl:=lvs_cnt ls.length [] (treeD ls tt)
    have hpt:=lvs_path ls.length [] (treeD ls tt)
    have hup:=lvs_up ls.length [] (treeD ls tt)
    have hlne:=lvs_ne ls [] tt (.inr hln)
    generalize hL:lvs ls.length [] (treeD ls tt)=LV at d7 hsew hcnl hpt hup hlne
    obtain ⟨q7',dvs,eq,e7q,d7'⟩:=den_tup d7
    injection eq with eq
    subst eq
    have d67:=d6.same s7
    have e73:=s7 _ _ e63
    refine ⟨_,rfl,_,ls.length,treeD ls tt,rfl,d67,by omega,htr,hcn,hsw,fun H8 s8=>?_⟩
    rw [sew_tree]
    have s68:=s7.trans s8
    refine ⟨_,rfl,rfl,_,rfl,?_⟩
    rw [decide_eq_true rfl]
    refine (iteF ?_:if (!true)=true then _ else _)
    obtain ⟨as,hal,dP,hx7⟩:=leaves_split d7'
    have hdl:dvs.length=LV.length:=by have:=d7'.len; rwa [List.length_map] at this
    refine ⟨rfl,_,rfl,q7,rfl,⟨_,SqT.of (s8 _ _ e7q)⟩,fun lc hlc=>?_⟩
    refine texts_walk (K:=K) (s8 _ _ e7q) (d7'.same s8) (by omega) hlc fun H9 s9 hl9=>?_
    refine ⟨_,lc,(LV.map (·.2)).map (fun r=>(⟨r.toArray⟩:Str)),rfl,rfl,SqL.of (by rw [List.map_map]; exact hl9),join_flat_fits (by decide +kernel) _ (by rw [hsew]; omega),?_⟩
    rw [join_flat (by decide +kernel),hsew]
    refine ⟨_,rfl,rfl,_,rfl,?_⟩
    rw [decide_eq_true rfl]
    refine (iteF ?_:if (!true)=true then _ else _)
    obtain ⟨l,ls',els⟩:∃ l ls',ls=l :: ls':=by
      cases ls with
      | nil=>exact absurd rfl hln
      | cons l ls'=>exact ⟨l,ls',rfl⟩
    have s59:Same H5 H9:=(s6.trans s68).trans s9
    have d5':=d5.same s59
    have d6':=d6.same (s68.trans s9)
    have hl4:ls'.length≤4:=by rw [els,List.length_cons] at hl5; omega
    refine ⟨_,rfl,_,rfl,?_⟩
    refine ⟨.ref q6,.ref q,l,ls',tt,rfl,(by rw [← els]; exact d6'),(by rw [← els]; exact d5'),hl4,by decide,htt,(fun l' hl'=>Nat.le_trans (ok5 l' (by rw [els]; exact hl')).1.few (by decide)),fun H10 s10=>⟨_,rfl,?_⟩⟩
    refine (iteF ?_:if (!true)=true then _ else _)
    obtain ⟨q',rs,eq,hq5,dr5⟩:=den_tup d5
    injection eq with eq
    subst eq
    have hrl:rs.length=ls.length:=by have:=dr5.len; rwa [List.length_map] at this
    have s7A:Same H7 H10:=(s8.trans s9).trans s10
    have s5A:Same H5 H10:=s59.trans s10
    refine ⟨_,rfl,q7,rfl,⟨_,SqT.of (s7A _ _ e7q)⟩,fun lc2 hlc2=>?_⟩
    refine comp_by (J:=Itt K q7) (l:=lc2) dvs.length (fun i' σ' H'=>∃ (u1 u2:Option V),σ'=[some (.ref q),u1,u2]∧Same H10 H'∧H' lc2=some (.lst ((List.replicate i' false).map V.bl))) ⟨none,none,rfl,same_new hlc2 _,upd_same⟩ ?_ ?_
    · rintro σ' H11 ⟨u1,u2,rfl,s11,hl11⟩
      refine ⟨⟨_,SqT.of (s11 _ _ (s7A _ _ e7q)),Nat.le_refl _⟩,lc2,_,rfl,SqL.of hl11,_,rfl,?_⟩
      have ean:(List.replicate dvs.length false).any id=false:=by
        rw [List.any_eq_false]
        intro x hx
        rw [(List.mem_replicate.mp hx).2]
        decide
      rw [ean]
      refine (iteF ?_:if false=true then _ else _)
      have s7B:Same H7 H11:=s7A.trans s11
      have hxB:∀ (i:Nat) (h:i < LV.length),∃ b a:Addr,dvs[i]?=some (.ref b)∧as[i]?=some a∧H11 b=some (.tup [.ref a,mkT LV[i].2])∧H11 a=some (.tup (LV[i].1.map V.int)):=fun i h=>by
        obtain ⟨b,a,h1,h2,h3,h4⟩:=hx7 i h
        exact ⟨b,a,h1,h2,s7B _ _ h3,s7B _ _ h4⟩
      refine ⟨_,rfl,q7,rfl,⟨_,SqT.of (s7B _ _ e7q)⟩,fun lc3 hlc3=>?_⟩
      refine paths_walk (K:=K) (s7B _ _ e7q) hdl hal hxB (by omega) hlc3 fun H12 s12 hl12=>?_
      have s7C:Same H7 H12:=s7B.trans s12
      have hxC:∀ (i:Nat) (h:i < LV.length),∃ b a:Addr,dvs[i]?=some (.ref b)∧as[i]?=some a∧H12 b=some (.tup [.ref a,mkT LV[i].2])∧H12 a=some (.tup (LV[i].1.map V.int)):=fun i h=>by
        obtain ⟨b,a,h1,h2,h3,h4⟩:=hx7 i h
        exact ⟨b,a,h1,h2,s7C _ _ h3,s7C _ _ h4⟩
      refine ⟨_,rfl,q7,rfl,⟨_,SqT.of (s7C _ _ e7q)⟩,fun lc4 hlc4=>?_⟩
      refine paths_walk (K:=K) (s7C _ _ e7q) hdl hal hxC (by omega) hlc4 fun H13 s13 hl13=>?_
      have s7D:Same H7 H13:=s7C.trans s13
      have hLl:LV.length≤400:=by
        have h1:=flat_len (l:=LV.map (·.2)) fun x hx=>by
          obtain ⟨y,hy,rfl⟩:=List.mem_map.mp hx
          exact hlne y hy
        rw [hsew,List.length_map] at h1
        omega
      have hpu:((LV.map (·.1)).map tI).Pairwise fun a b=>dlt a b=true:=by
        rw [List.pairwise_map,List.pairwise_map]
        exact hup
      have hnd:(LV.map (·.1)).Nodup:=by
        rw [List.nodup_iff_pairwise_ne]
        refine List.Pairwise.imp ?_ ((List.pairwise_map (f:=tI)).mp hpu)
        intro a b hab e
        rw [e,dlt_irr] at hab
        cases hab
      have hUp:UpD ((LV.map (·.1)).map tI):=by
        refine List.Pairwise.imp ?_ hpu
        intro a b hab
        cases hq:dlt b a with
        | false=>rfl
        | true =>
          have:=dlt_tr a b a hab hq
          rw [dlt_irr] at this
          cases this
      have hpl:∀ x∈LV.map (·.1),x.length=ls.length:=fun x hx=>by
        obtain ⟨y,hy,rfl⟩:=List.mem_map.mp hx
        obtain ⟨rr,hrr,err⟩:=hpt y hy
        rw [err,List.nil_append,hrr]
      have hl0:0 < ls.length:=List.length_pos_iff.mpr hln
      refine ⟨lc4,as,(LV.map fun x:List Int × List Nat=>x.1),rfl,SqL.of hl13,dP.same s7D,hnd,by rw [List.length_map]; omega,fun sa hsa=>?_⟩
      have sN:=same_new hsa (.ext (tupΦ P w sa ((LV.map (·.1)).zip as)))
      refine ⟨sa,as,(LV.map fun x:List Int × List Nat=>x.1),rfl,upd_same,(dP.same s7D).same sN,by rw [List.length_map]; omega,(fun x hx e=>?_),(fun x hx=>by rw [hpl x hx]; omega),fun lr us ds' hlr hpm hu' hdn=>?_⟩
      · have:=hpl x hx
        rw [e] at this
        simp at this
        omega
      have eds:ds'=(LV.map (·.1)).map tI:=upD_unique hu' hUp hpm
      rw [eds] at hdn
      have sM:=same_new hlr (.lst us)
      have s7E:=(s7D.trans sN).trans sM
      refine ⟨lc3,lr,as.map V.ref,us,50,rfl,rfl,sM _ _ (sN _ _ (s13 _ _ hl12)),upd_same,by decide,all_say (dP.same s7E) (hdn.same sM) (fun d hd=>?_),_,rfl,?_⟩
      · obtain ⟨x,hx,rfl⟩:=List.mem_map.mp hd
        refine ⟨(fun z=>nomatch z),fun ds e=>?_⟩
        cases e
        refine ⟨by rw [List.length_map,hpl x hx]; omega,fun e he=>?_⟩
        obtain ⟨i,_,rfl⟩:=List.mem_map.mp he
        exact ⟨(fun z=>nomatch z),fun _ z=>nomatch z⟩
      refine (iteF ?_:if false=true then _ else _)
      exact ⟨_,_,_,_,_,_,_,_,rfl,hlf2,s7E _ _ e73⟩
    · rintro i' σ' H11 hi' ⟨u1,u2,rfl,s11,hl11⟩
      have hiL:i' < LV.length:=by omega
      obtain ⟨b,aa,hat,haa,hb,ha⟩:=hx7 i' hiL
      refine ⟨⟨_,_,SqT.of (s11 _ _ (s7A _ _ e7q)),hat⟩,?_⟩
      rintro yy H'' ⟨rfl,hy⟩
      have ey:yy=.ref b:=Option.some.inj ((hy _ (SqT.of (s11 _ _ (s7A _ _ e7q)))).symm.trans hat)
      subst ey
      obtain ⟨rr,hrr,err⟩:=hpt _ (List.getElem_mem hiL)
      have hpl:(LV[i'].1.map V.int).length=rs.length:=by rw [List.length_map,err,List.nil_append,hrr,hrl]
      refine ⟨b,_,rfl,SqT.of (s11 _ _ (s7A _ _ hb)),rfl,_,_,rfl,_,_,rfl,rfl,yesT (iteT ?_)⟩
      refine ⟨_,rfl,aa,_,rfl,.inr (SqT.of (s11 _ _ (s7A _ _ ha))),_,rfl,q,rs,rfl,.inr (SqT.of (s11 _ _ (s5A _ _ hq5))),rfl,_,rfl,?_⟩
      rw [hpl,decide_eq_true rfl]
      refine (iteF ?_:if (!true)=true then _ else _)
      refine ⟨_,rfl,rfl,?_⟩
      have ene:decide (mkT LV[i'].2=V.str (Str.ofString ""))=false:=by
        refine decide_eq_false fun z=>?_
        injection z with z
        have z':=congrArg (fun u:Str=>u.cps.toList) z
        exact hlne _ (List.getElem_mem hiL) z'
      refine ⟨_,hl11,?_,_,_,rfl,?_,?_⟩
      · rw [List.length_map,List.length_replicate]
        exact Nat.lt_of_lt_of_le (show i' < 1000000 by omega) sizeLine_big
      · intro c o z
        rw [upd_ne (ne_of_none z hlc2)]
        exact s11 c o z
      · rw [upd_same]
        show some (HO.lst (_++[V.bl (decide (mkT LV[i'].2=V.str (Str.ofString "")))]))=_
        rw [ene,List.replicate_succ',List.map_append]
        rfl
  · rintro σ H2 _
    exact k _
end
theorem all_mk {l:PySem.W.OpenLaw} {w:World} {K:PySem.W.Frag} {h:Heap} {mg:Str→Option Value} {fa f1 f2 f3 f4 f5 f6 f7 f8 f9 f10 f11 f12 f13 f14:Addr} (X:K.In h) (G:h.Ns mainGlobals mg) (hfa:mg "law" = some (.ref fa))
    {od1 an1 od2 an2 od3 an3 od4 an4 od5 an5 od6 an6 od7 an7 od8 an8 od9 an9 od10 an10 od11 an11 od12 an12 od13 an13 od14 an14:Option Addr} {sl1 sl2 sl3 sl4 sl5 sl6 sl7 sl8 sl9 sl10 sl11 sl12 sl13 sl14:Array (Option Value)} {oc1 kV1 dc1 pm1 cd1 ct1 oc2 kV2 dc2 pm2 cd2 ct2 oc3 kV3 dc3 pm3 cd3 ct3 oc4 kV4 dc4 pm4 cd4 ct4 oc5 kV5 dc5 pm5 cd5 ct5 oc6 kV6 dc6 pm6 cd6 ct6 oc7 kV7 dc7 pm7 cd7 ct7 oc8 kV8 dc8 pm8 cd8 ct8 oc9 kV9 dc9 pm9 cd9 ct9 oc10 kV10 dc10 pm10 cd10 ct10 oc11 kV11 dc11 pm11 cd11 ct11 oc12 kV12 dc12 pm12 cd12 ct12 oc13 kV13 dc13 pm13 cd13 ct13 oc14 kV14 dc14 pm14 cd14 ct14:Value}
    (a1:PySem.W.nsIn K mainGlobals "longest_at" = some (some (.ref f1))) (l1:K.lookup f1=some ⟨oc1,od1,.func (PySem.W.fnOf "longest_at" "longest_at" (defArgs sLongestAt) (defBody sLongestAt) (defScope sLongestAt) .none kV1 dc1 pm1 an1 cd1 ct1),sl1⟩) (c1:PySem.W.codeIn K cd1 "longest_at" = true) (k1:PySem.W.keepIn K (.ref f1)=true)
    (a2:PySem.W.nsIn K mainGlobals "pieces_of" = some (some (.ref f2))) (l2:K.lookup f2=some ⟨oc2,od2,.func (PySem.W.fnOf "pieces_of" "pieces_of" (defArgs sPiecesOf) (defBody sPiecesOf) (defScope sPiecesOf) .none kV2 dc2 pm2 an2 cd2 ct2),sl2⟩) (c2:PySem.W.codeIn K cd2 "pieces_of" = true) (k2:PySem.W.keepIn K (.ref f2)=true)
    (a3:PySem.W.nsIn K mainGlobals "cut_up" = some (some (.ref f3))) (l3:K.lookup f3=some ⟨oc3,od3,.func (PySem.W.fnOf "cut_up" "cut_up" (defArgs sCutUp) (defBody sCutUp) (defScope sCutUp) .none kV3 dc3 pm3 an3 cd3 ct3),sl3⟩) (c3:PySem.W.codeIn K cd3 "cut_up" = true) (k3:PySem.W.keepIn K (.ref f3)=true)
    (a4:PySem.W.nsIn K mainGlobals "nodes_of" = some (some (.ref f4))) (l4:K.lookup f4=some ⟨oc4,od4,.func (PySem.W.fnOf "nodes_of" "nodes_of" (defArgs sNodesOf) (defBody sNodesOf) (defScope sNodesOf) .none kV4 dc4 pm4 an4 cd4 ct4),sl4⟩) (c4:PySem.W.codeIn K cd4 "nodes_of" = true) (k4:PySem.W.keepIn K (.ref f4)=true)
    (a5:PySem.W.nsIn K mainGlobals "leaves" = some (some (.ref f5))) (l5:K.lookup f5=some ⟨oc5,od5,.func (PySem.W.fnOf "leaves" "leaves" (defArgs sLeaves) (defBody sLeaves) (defScope sLeaves) .none kV5 dc5 pm5 an5 cd5 ct5),sl5⟩) (c5:PySem.W.codeIn K cd5 "leaves" = true) (k5:PySem.W.keepIn K (.ref f5)=true)
    (a6:PySem.W.nsIn K mainGlobals "sewn" = some (some (.ref f6))) (l6:K.lookup f6=some ⟨oc6,od6,.func (PySem.W.fnOf "sewn" "sewn" (defArgs sSewn) (defBody sSewn) (defScope sSewn) .none kV6 dc6 pm6 an6 cd6 ct6),sl6⟩) (c6:PySem.W.codeIn K cd6 "sewn" = true) (k6:PySem.W.keepIn K (.ref f6)=true)
    (a7:PySem.W.nsIn K mainGlobals "_law_pot" = some (some (.ref f7))) (l7:K.lookup f7=some ⟨oc7,od7,.func (PySem.W.fnOf "_law_pot" "_law_pot" (defArgs sPot) (defBody sPot) (defScope sPot) .none kV7 dc7 pm7 an7 cd7 ct7),sl7⟩) (c7:PySem.W.codeIn K cd7 "_law_pot" = true) (k7:PySem.W.keepIn K (.ref f7)=true)
    (a8:PySem.W.nsIn K mainGlobals "_law_take" = some (some (.ref f8))) (l8:K.lookup f8=some ⟨oc8,od8,.func (PySem.W.fnOf "_law_take" "_law_take" (defArgs sTake) (defBody sTake) (defScope sTake) .none kV8 dc8 pm8 an8 cd8 ct8),sl8⟩) (c8:PySem.W.codeIn K cd8 "_law_take" = true) (k8:PySem.W.keepIn K (.ref f8)=true)
    (a9:PySem.W.nsIn K mainGlobals "_law_seed" = some (some (.ref f9))) (l9:K.lookup f9=some ⟨oc9,od9,.func (PySem.W.fnOf "_law_seed" "_law_seed" (defArgs sSeed) (defBody sSeed) (defScope sSeed) .none kV9 dc9 pm9 an9 cd9 ct9),sl9⟩) (c9:PySem.W.codeIn K cd9 "_law_seed" = true) (k9:PySem.W.keepIn K (.ref f9)=true)
    (a10:PySem.W.nsIn K mainGlobals "_law_text" = some (some (.ref f10))) (l10:K.lookup f10=some ⟨oc10,od10,.func (PySem.W.fnOf "_law_text" "_law_text" (defArgs sText) (defBody sText) (defScope sText) .none kV10 dc10 pm10 an10 cd10 ct10),sl10⟩) (c10:PySem.W.codeIn K cd10 "_law_text" = true) (k10:PySem.W.keepIn K (.ref f10)=true)
    (a11:PySem.W.nsIn K mainGlobals "_law_marks" = some (some (.ref f11))) (l11:K.lookup f11=some ⟨oc11,od11,.func (PySem.W.fnOf "_law_marks" "_law_marks" (defArgs sMarks) (defBody sMarks) (defScope sMarks) .none kV11 dc11 pm11 an11 cd11 ct11),sl11⟩) (c11:PySem.W.codeIn K cd11 "_law_marks" = true) (k11:PySem.W.keepIn K (.ref f11)=true)
    (a12:PySem.W.nsIn K mainGlobals "_law_rules" = some (some (.ref f12))) (l12:K.lookup f12=some ⟨oc12,od12,.func (PySem.W.fnOf "_law_rules" "_law_rules" (defArgs sRules) (defBody sRules) (defScope sRules) .none kV12 dc12 pm12 an12 cd12 ct12),sl12⟩) (c12:PySem.W.codeIn K cd12 "_law_rules" = true) (k12:PySem.W.keepIn K (.ref f12)=true)
    (a13:PySem.W.nsIn K mainGlobals "_law_ends" = some (some (.ref f13))) (l13:K.lookup f13=some ⟨oc13,od13,.func (PySem.W.fnOf "_law_ends" "_law_ends" (defArgs sEnds) (defBody sEnds) (defScope sEnds) .none kV13 dc13 pm13 an13 cd13 ct13),sl13⟩) (c13:PySem.W.codeIn K cd13 "_law_ends" = true) (k13:PySem.W.keepIn K (.ref f13)=true)
    (a14:PySem.W.nsIn K mainGlobals "law" = some (some (.ref f14))) (l14:K.lookup f14=some ⟨oc14,od14,.func (PySem.W.fnOf "law" "law" (defArgs sLaw) (defBody sLaw) (defScope sLaw) .none kV14 dc14 pm14 an14 cd14 ct14),sl14⟩) (c14:PySem.W.codeIn K cd14 "law" = true) (k14:PySem.W.keepIn K (.ref f14)=true)
    (z_len:PySem.W.nsIn K mainGlobals "len" = some none) (z_abs:PySem.W.nsIn K mainGlobals "abs" = some none) (z_int:PySem.W.nsIn K mainGlobals "int" = some none) (z_range:PySem.W.nsIn K mainGlobals "range" = some none) (z_isinstance:PySem.W.nsIn K mainGlobals "isinstance" = some none) (z_tuple:PySem.W.nsIn K mainGlobals "tuple" = some none) (z_bool:PySem.W.nsIn K mainGlobals "bool" = some none) (z_str:PySem.W.nsIn K mainGlobals "str" = some none) (z_all:PySem.W.nsIn K mainGlobals "all" = some none) (z_zip:PySem.W.nsIn K mainGlobals "zip" = some none) (z_enumerate:PySem.W.nsIn K mainGlobals "enumerate" = some none) (z_any:PySem.W.nsIn K mainGlobals "any" = some none) (z_set:PySem.W.nsIn K mainGlobals "set" = some none) (z_sorted:PySem.W.nsIn K mainGlobals "sorted" = some none) (z_max:PySem.W.nsIn K mainGlobals "max" = some none) (z_list:PySem.W.nsIn K mainGlobals "list" = some none) :
    ∃ fd:FuncData,(∀ (s:Shared) (v:Value),BindsTo s fd ⟨[v],[]⟩ [("_law_script",v)])∧∀ base:Heap,K.In base→base.Ns mainGlobals mg→FnOk l.prog w K mg base CX0 15 fa fd ["_law_script"] (spLaw K):=by
  have e:=hfa.symm.trans (PySem.W.mg_of X G a14)
  cases e
  have F1:=fun_mk (st:=sLongestAt) l1 c1 k1
  have h_longest_at:Has K mg "longest_at" sLongestAt ["text", "place", "choices"]:=⟨_,_,F1,F1.binds fun _ _ _ _ _ _ us hl=>match us,hl with | [_,_,_],_=>rfl,PySem.W.mg_of X G a1⟩
  have F2:=fun_mk (st:=sPiecesOf) l2 c2 k2
  have h_pieces_of:Has K mg "pieces_of" sPiecesOf ["text", "level"]:=⟨_,_,F2,F2.binds fun _ _ _ _ _ _ us hl=>match us,hl with | [_,_],_=>rfl,PySem.W.mg_of X G a2⟩
  have F3:=fun_mk (st:=sCutUp) l3 c3 k3
  have h_cut_up:Has K mg "cut_up" sCutUp ["text", "rules"]:=⟨_,_,F3,F3.binds fun _ _ _ _ _ _ us hl=>match us,hl with | [_,_],_=>rfl,PySem.W.mg_of X G a3⟩
  have F4:=fun_mk (st:=sNodesOf) l4 c4 k4
  have h_nodes_of:Has K mg "nodes_of" sNodesOf ["tree", "path"]:=⟨_,_,F4,F4.binds fun _ _ _ _ _ _ us hl=>match us,hl with | [_,_],_=>rfl,PySem.W.mg_of X G a4⟩
  have F5:=fun_mk (st:=sLeaves) l5 c5 k5
  have h_leaves:Has K mg "leaves" sLeaves ["tree"]:=⟨_,_,F5,F5.binds fun _ _ _ _ _ _ us hl=>match us,hl with | [_],_=>rfl,PySem.W.mg_of X G a5⟩
  have F6:=fun_mk (st:=sSewn) l6 c6 k6
  have h_sewn:Has K mg "sewn" sSewn ["tree"]:=⟨_,_,F6,F6.binds fun _ _ _ _ _ _ us hl=>match us,hl with | [_],_=>rfl,PySem.W.mg_of X G a6⟩
  have F7:=fun_mk (st:=sPot) l7 c7 k7
  have h_pot:Has K mg "_law_pot" sPot ["_law_cell", "_law_seed_here"]:=⟨_,_,F7,F7.binds fun _ _ _ _ _ _ us hl=>match us,hl with | [_,_],_=>rfl,PySem.W.mg_of X G a7⟩
  have F8:=fun_mk (st:=sTake) l8 c8 k8
  have h_take:Has K mg "_law_take" sTake ["_law_pot_here", "_law_many"]:=⟨_,_,F8,F8.binds fun _ _ _ _ _ _ us hl=>match us,hl with | [_,_],_=>rfl,PySem.W.mg_of X G a8⟩
  have F9:=fun_mk (st:=sSeed) l9 c9 k9
  have h_seed:Has K mg "_law_seed" sSeed ["_law_script"]:=⟨_,_,F9,F9.binds fun _ _ _ _ _ _ us hl=>match us,hl with | [_],_=>rfl,PySem.W.mg_of X G a9⟩
  have F10:=fun_mk (st:=sText) l10 c10 k10
  have h_text:Has K mg "_law_text" sText ["_law_pot_here"]:=⟨_,_,F10,F10.binds fun _ _ _ _ _ _ us hl=>match us,hl with | [_],_=>rfl,PySem.W.mg_of X G a10⟩
  have F11:=fun_mk (st:=sMarks) l11 c11 k11
  have h_marks:Has K mg "_law_marks" sMarks ["_law_pot_here", "_law_text_here"]:=⟨_,_,F11,F11.binds fun _ _ _ _ _ _ us hl=>match us,hl with | [_,_],_=>rfl,PySem.W.mg_of X G a11⟩
  have F12:=fun_mk (st:=sRules) l12 c12 k12
  have h_rules:Has K mg "_law_rules" sRules ["_law_pot_here", "_law_text_here", "_law_many"]:=⟨_,_,F12,F12.binds fun _ _ _ _ _ _ us hl=>match us,hl with | [_,_,_],_=>rfl,PySem.W.mg_of X G a12⟩
  have F13:=fun_mk (st:=sEnds) l13 c13 k13
  have h_ends:Has K mg "_law_ends" sEnds ["_law_tree", "_law_rules_here"]:=⟨_,_,F13,F13.binds fun _ _ _ _ _ _ us hl=>match us,hl with | [_,_],_=>rfl,PySem.W.mg_of X G a13⟩
  have F14:=fun_mk (st:=sLaw) l14 c14 k14
  have m_len:=PySem.W.mg_none_of X G z_len
  have m_abs:=PySem.W.mg_none_of X G z_abs
  have m_int:=PySem.W.mg_none_of X G z_int
  have m_range:=PySem.W.mg_none_of X G z_range
  have m_isinstance:=PySem.W.mg_none_of X G z_isinstance
  have m_tuple:=PySem.W.mg_none_of X G z_tuple
  have m_bool:=PySem.W.mg_none_of X G z_bool
  have m_str:=PySem.W.mg_none_of X G z_str
  have m_all:=PySem.W.mg_none_of X G z_all
  have m_zip:=PySem.W.mg_none_of X G z_zip
  have m_enumerate:=PySem.W.mg_none_of X G z_enumerate
  have m_any:=PySem.W.mg_none_of X G z_any
  have m_set:=PySem.W.mg_none_of X G z_set
  have m_sorted:=PySem.W.mg_none_of X G z_sorted
  have m_max:=PySem.W.mg_none_of X G z_max
  have m_list:=PySem.W.mg_none_of X G z_list
  refine ⟨PySem.W.fnOf "law" "law" (defArgs sLaw) (defBody sLaw) (defScope sLaw) .none kV14 dc14 pm14 an14 cd14 ct14,fun s v=>.of_eq rfl,fun base _ _=>?_⟩
  have C_pot:=c_pot (P:=l.prog) (w:=w) (base:=base) h_pot m_abs m_int
  have C_take:=c_take (P:=l.prog) (w:=w) (base:=base) h_take
  have C_seed:=c_seed (P:=l.prog) (w:=w) (base:=base) h_seed
  have C_text:=c_text (P:=l.prog) (w:=w) (base:=base) h_text C_take m_len m_range
  have C_longest_at:=c_longest_at (P:=l.prog) (w:=w) (base:=base) h_longest_at m_max m_len
  have C_pieces_of:=c_pieces_of (P:=l.prog) (w:=w) (base:=base) h_pieces_of C_longest_at m_len m_max m_tuple
  have C_cut_up:=c_cut_up (P:=l.prog) (w:=w) (base:=base) h_cut_up C_pieces_of m_len m_tuple 5
  have C_nodes_of:=c_nodes_of (P:=l.prog) (w:=w) (base:=base) h_nodes_of m_isinstance m_tuple m_enumerate 7
  have C_leaves:=c_leaves (P:=l.prog) (w:=w) (base:=base) h_leaves C_nodes_of m_tuple m_isinstance m_str
  have C_sewn:=c_sewn (P:=l.prog) (w:=w) (base:=base) h_sewn C_leaves
  have C_marks:=c_marks (P:=l.prog) (w:=w) (base:=base) h_marks C_take m_range m_len m_tuple m_list
  have C_rules:=c_rules (P:=l.prog) (w:=w) (base:=base) h_rules C_marks m_tuple m_range
  have C_ends:=c_ends (P:=l.prog) (w:=w) (base:=base) h_ends C_sewn m_any m_len m_isinstance m_tuple m_enumerate 5
  exact ok_law F14 C_seed C_pot C_text C_rules C_take C_cut_up C_leaves C_ends C_sewn m_enumerate m_max m_len m_any m_sorted m_set
theorem walk {l:PySem.W.OpenLaw} {q:Program} {loose:List Str} {XP:(Str→Option Value)→Heap→Prop} {YP:World→Heap→Prop} {d:DefRec} {K:Params→PySem.W.Frag} (hn:l.most=some 63) (hdf:d.params.defaults=[])
    (hY:∀ (w:World) (h:Heap),YP w h→(K w.params).In h)
    (F:∀ (w:World) (mg:Str→Option Value) (fa:Addr) (h:Heap),(K w.params).In h→h.Ns mainGlobals mg→mg d.name=some (.ref fa) →
      ∃ fd:FuncData,(∀ (s:Shared) (u:Value),BindsTo s fd ⟨[u],[]⟩ [("_law_script",u)])∧∀ base:Heap,(K w.params).In base→base.Ns mainGlobals mg→FnOk l.prog w (K w.params) mg base CX0 15 fa fd ["_law_script"] (spLaw (K w.params))) :
    PySem.W.WalkO q loose XP YP l.row.toRowW d [] (fun f vs=>PySem.call f vs) :=
  L2.walk_of (n:=63) (k:=15) (x:="_law_script") (CX:=fun _=>CX0) (sp:=fun w=>spLaw (K w.params)) hn (by decide) hdf ⟨rfl,by decide,by decide⟩ hY F (fun _ _ a ns hl _ hS=>⟨a,ns,rfl,hS,hl,fun _=>rfl⟩) fun _ _ _ _ _ z=>z
end Mine
def PySem.W.Fast.tw5693814445415860982:Unit:=()
def PySem.W.Fast.tw17613646872539193530:Unit:=()
def PySem.W.Fast.tw12891005010521812699:Unit:=()
def PySem.W.Fast.tw3796626089016360247:Unit:=()
def PySem.W.Fast.tw1120983769710955210:Unit:=()
def PySem.W.Fast.tw16043855268734787550:Unit:=()
def PySem.W.Fast.tw17188598769681589408:Unit:=()
def PySem.W.Fast.tw323947486737665702:Unit:=()
def PySem.W.Fast.tw3152208960493004267:Unit:=()
def PySem.W.Fast.tw5264580474146565483:Unit:=()
def PySem.W.Fast.tw1541059386981934534:Unit:=()
def PySem.W.Fast.tw4335725413712237218:Unit:=()
def PySem.W.Fast.tw2794603458950349572:Unit:=()
def PySem.W.Fast.tw9421985166074345502:Unit:=()
def PySem.W.Fast.tw8879860069472379213:Unit:=()
def PySem.W.Fast.tw9743245932929529066:Unit:=()
def PySem.W.Fast.tw14208439568639024109:Unit:=()
def PySem.W.Fast.tw11802295558834480811:Unit:=()
def PySem.W.Fast.tw10458285460408089341:Unit:=()
open PySem PySem.W PyProof.Rows
set_option maxRecDepth 100000 in
set_option maxHeartbeats 0 in
theorem PySem.Challenge.cw_twainkeep_k13_whole_cut_and_sewn_holds : PySem.Challenge.rw_twainkeep_k13_whole_cut_and_sewn.Holds := by
  w_on; o_law; k_head; (case hw=>w_witness2)
  k_fill
  refine Mine.walk (l:=PySem.Challenge.rw_twainkeep_k13_whole_cut_and_sewn) rfl rfl (fun w h Y=>PySem.W.kIn_of Y) ?F
  case F =>
    intro w mg fa h KX G hmg
    refine' Mine.all_mk KX G hmg ?a1 ?l1 ?c1 ?k1 ?a2 ?l2 ?c2 ?k2 ?a3 ?l3 ?c3 ?k3 ?a4 ?l4 ?c4 ?k4 ?a5 ?l5 ?c5 ?k5 ?a6 ?l6 ?c6 ?k6 ?a7 ?l7 ?c7 ?k7 ?a8 ?l8 ?c8 ?k8 ?a9 ?l9 ?c9 ?k9 ?a10 ?l10 ?c10 ?k10 ?a11 ?l11 ?c11 ?k11 ?a12 ?l12 ?c12 ?k12 ?a13 ?l13 ?c13 ?k13 ?a14 ?l14 ?c14 ?k14 ?z_len ?z_abs ?z_int ?z_range ?z_isinstance ?z_tuple ?z_bool ?z_str ?z_all ?z_zip ?z_enumerate ?z_any ?z_set ?z_sorted ?z_max ?z_list
    (case a1=>k_is)
    (case l1=>k_is)
    (case c1=>k_is)
    (case k1=>k_is)
    (case a2=>k_is)
    (case l2=>k_is)
    (case c2=>k_is)
    (case k2=>k_is)
    (case a3=>k_is)
    (case l3=>k_is)
    (case c3=>k_is)
    (case k3=>k_is)
    (case a4=>k_is)
    (case l4=>k_is)
    (case c4=>k_is)
    (case k4=>k_is)
    (case a5=>k_is)
    (case l5=>k_is)
    (case c5=>k_is)
    (case k5=>k_is)
    (case a6=>k_is)
    (case l6=>k_is)
    (case c6=>k_is)
    (case k6=>k_is)
    (case a7=>k_is)
    (case l7=>k_is)
    (case c7=>k_is)
    (case k7=>k_is)
    (case a8=>k_is)
    (case l8=>k_is)
    (case c8=>k_is)
    (case k8=>k_is)
    (case a9=>k_is)
    (case l9=>k_is)
    (case c9=>k_is)
    (case k9=>k_is)
    (case a10=>k_is)
    (case l10=>k_is)
    (case c10=>k_is)
    (case k10=>k_is)
    (case a11=>k_is)
    (case l11=>k_is)
    (case c11=>k_is)
    (case k11=>k_is)
    (case a12=>k_is)
    (case l12=>k_is)
    (case c12=>k_is)
    (case k12=>k_is)
    (case a13=>k_is)
    (case l13=>k_is)
    (case c13=>k_is)
    (case k13=>k_is)
    (case a14=>k_is)
    (case l14=>k_is)
    (case c14=>k_is)
    (case k14=>k_is)
    (case z_len=>k_is)
    (case z_abs=>k_is)
    (case z_int=>k_is)
    (case z_range=>k_is)
    (case z_isinstance=>k_is)
    (case z_tuple=>k_is)
    (case z_bool=>k_is)
    (case z_str=>k_is)
    (case z_all=>k_is)
    (case z_zip=>k_is)
    (case z_enumerate=>k_is)
    (case z_any=>k_is)
    (case z_set=>k_is)
    (case z_sorted=>k_is)
    (case z_max=>k_is)
    (case z_list=>k_is)
