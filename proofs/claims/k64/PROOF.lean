import PyProof.Rows.All
import Wide.All
import OpenK.AllK
import Wide.FinOn
import Lean
import PyProof.EqAt
import PyProof.EqKinds
import PyProof.TupleCall
import PyProof.ZipIter
import PyProof.TupleIter
import PyProof.WalksMore
import KE.KWords
import PyProof.MinMaxWalk
import PyProof.SeqI3
import PyProof.MaxThree
import PyProof.AttrMissHeap
import PyProof.DictList
import PyProof.DictIter
import KE.KDictOf
import KE.KDictList
import PyProof.Rows.CallKwBuiltin
import PyProof.Rows.Range3
import PyProof.Rows.StrNews2
import PyProof.StrLawsIdx
import PyProof.StrBlockI
import KE.KRevSl
import PyProof.AutoListH
import PyProof.DictWalks
import PyProof.Draws
import PyProof.EnumMake
import PyProof.NeKinds
import PyProof.Rows.SetFrom
import KE.KSortTup
import PyProof.StrBlock2
import PyProof.DictItems
import KE.KPairComp
import PyProof.Rows.SumAny
import PyProof.ListStr
import PyProof.DictValues
import OpenK.KRaise
import PyProof.StationsW
import PyProof.ExcClass2
import OpenK.KOwn
import PyProof.Rows.FStr
import PyProof.NsDelKeeps
import PyProof.RulesAs
import KE.KIsNot
import PyProof.ExcArgsOwn
import PyProof.ExcAttrAll.ValueError
import KE.KLam
import PyProof.ListRange
import PyProof.TupleOfSeq
import PyProof.SetRoads
import PyProof.MeetsSeq2
import PySem.Challenge.RW_twainkeep_k64_fits
set_option Elab.async false
set_option linter.all false
set_option maxRecDepth 100000
namespace L2
open PySem PySem.Spec PyProof.Rows
abbrev Key:=Sum Int Str
def keyIs:Key→Value→Bool
  | .inl k,v=>Value.isInt k v
  | .inr x,v=>Value.isStrOf x v
def keyH (w:World):Key→Int
  | .inl k=>hashInt k
  | .inr x=>hashStr w x
theorem keyIs_shape:∀ {k:Key} {v:Value},keyIs k v=true→(∃ i t,k=Sum.inl i∧v=Value.int i t)∨(∃ x t,k=Sum.inr x∧v=Value.str x t)
  | .inl i,v,h=>by
    obtain ⟨t,e⟩:=Value.isInt_shape (k:=i) (v:=v) h
    exact .inl ⟨i,t,rfl,e⟩
  | .inr x,v,h=>by
    obtain ⟨t,e⟩:=Value.isStrOf_shape (x:=x) (v:=v) h
    exact .inr ⟨x,t,rfl,e⟩
theorem keyIs_int (i:Int) (t:Tok):keyIs (.inl i) (.int i t)=true:=by simp [keyIs,Value.isInt]
theorem keyIs_str (x:Str) (t:Tok):keyIs (.inr x) (.str x t)=true:=by simp [keyIs,Value.isStrOf]
theorem key_ll (a b:Int):decide ((Sum.inl a:Key)=Sum.inl b)=(a == b):=by
  by_cases e:a=b
  · subst e; simp
  · have h:¬ (Sum.inl a:Key)=Sum.inl b:=fun q=>e (Sum.inl.inj q)
    rw [decide_eq_false h]
    exact (beq_eq_false_iff_ne.mpr e).symm
theorem key_rr (a b:Str):decide ((Sum.inr a:Key)=Sum.inr b)=decide (a=b):=by
  by_cases e:a=b
  · subst e; simp
  · have h:¬ (Sum.inr a:Key)=Sum.inr b:=fun q=>e (Sum.inr.inj q)
    rw [decide_eq_false h,decide_eq_false e]
theorem key_lr (a:Int) (b:Str):decide ((Sum.inl a:Key)=Sum.inr b)=false:=decide_eq_false (fun q=>nomatch q)
theorem key_rl (a:Str) (b:Int):decide ((Sum.inr a:Key)=Sum.inl b)=false:=decide_eq_false (fun q=>nomatch q)
def mixKind (prog:Program) (w:World):PySem.KeyKind prog w Key where
  is:=keyIs
  hash:=keyH w
  inj:=fun v a b ha hb=>by
    rcases keyIs_shape ha with ⟨i,t,rfl,rfl⟩ | ⟨x,t,rfl,rfl⟩
    · rcases keyIs_shape hb with ⟨j,u,rfl,e⟩ | ⟨y,u,rfl,e⟩
      · injection e with e1 _; rw [e1]
      · exact nomatch e
    · rcases keyIs_shape hb with ⟨j,u,rfl,e⟩ | ⟨y,u,rfl,e⟩
      · exact nomatch e
      · injection e with e1 _; rw [e1]
  byValue:=fun k v h=>by
    rcases keyIs_shape h with ⟨i,t,rfl,rfl⟩ | ⟨x,t,rfl,rfl⟩ <;> rfl
  pyHash:=fun hv h=>by
    rcases keyIs_shape hv with ⟨i,t,rfl,rfl⟩ | ⟨x,t,rfl,rfl⟩
    · exact wpAny_pyHash_int h
    · exact wpAny_pyHash_str h
  eqBool:=fun hu hv h=>by
    rcases keyIs_shape hu with ⟨i,t,rfl,rfl⟩ | ⟨x,t,rfl,rfl⟩
    · rcases keyIs_shape hv with ⟨j,u,rfl,rfl⟩ | ⟨y,u,rfl,rfl⟩
      · rw [key_ll] at h; exact wpAny_eqBool_int h
      · rw [key_lr] at h; exact SeqAt.EqAt.int_str i t y u _ _ _ _ h
    · rcases keyIs_shape hv with ⟨j,u,rfl,rfl⟩ | ⟨y,u,rfl,rfl⟩
      · rw [key_rl] at h; exact SeqAt.EqAt.str_int x t j u _ _ _ _ h
      · rw [key_rr] at h; exact wpAny_eqBool_str h
  «strs»:=fun k x t v h=>by
    rcases keyIs_shape h with ⟨i,u,rfl,e⟩ | ⟨y,u,rfl,e⟩
    · exact nomatch e
    · injection e with e1 _
      subst e1
      cases v <;> rfl
theorem mixKind_int (prog:Program) (w:World) (i:Int) (t:Tok):(mixKind prog w).is (.inl i) (.int i t)=true:=keyIs_int i t
theorem mixKind_str (prog:Program) (w:World) (x:Str) (t:Tok):(mixKind prog w).is (.inr x) (.str x t)=true:=keyIs_str x t
end L2
namespace L2
open PySem PySem.Spec PyProof.Rows
inductive V where
  | non | bl (b:Bool) | int (i:Int) | str (x:Str) | byt (b:Array UInt8) | flt (b:UInt64) | ref (a:Addr) | ty (n:String)
  deriving DecidableEq
def RelV:V→Value→Prop
  | .non,u=>u=Value.none
  | .bl b,u=>u=Value.bool b
  | .int i,u=>∃ t,u=Value.int i t
  | .str x,u=>∃ t,u=Value.str x t
  | .byt b,u=>∃ t,u=Value.bytes b t
  | .flt b,u=>∃ t,u=Value.float b t
  | .ref a,u=>u=Value.ref a
  | .ty n,u=>u=Value.type n
abbrev Vals:List V→List Value→Prop:=Paired RelV
theorem Vals.length {xs:List V} {us:List Value} (r:Vals xs us):xs.length=us.length:=Paired.length r
theorem Vals.get:∀ {xs:List V} {us:List Value} {i:Nat} {x:V},Vals xs us→xs[i]?=some x→∃ u,us[i]?=some u∧RelV x u
  | _,_,_,_,.nil,e=>by simp at e
  | _,_,0,_,.cons r _,e=>by simp at e; subst e; exact ⟨_,rfl,r⟩
  | _,_,i+1,x,.cons _ t,e=>by
    obtain ⟨u,h1,h2⟩:=Vals.get (i:=i) (x:=x) t (by simpa using e)
    exact ⟨u,by simpa using h1,h2⟩
theorem Vals.set {x:V} {u:Value} (r:RelV x u):∀ {xs:List V} {us:List Value} (i:Nat),Vals xs us→Vals (xs.set i x) (us.set i u)
  | _,_,_,.nil=>.nil
  | _,_,0,.cons _ t=>.cons r t
  | _,_,i+1,.cons q t=>.cons q (Vals.set r i t)
theorem Vals.append:∀ {xs ys:List V} {us ws:List Value},Vals xs us→Vals ys ws→Vals (xs++ys) (us++ws)
  | _,_,_,_,.nil,s=>s
  | _,_,_,_,.cons r t,s=>.cons r (Vals.append t s)
theorem Vals.take:∀ {xs:List V} {us:List Value} (n:Nat),Vals xs us→Vals (xs.take n) (us.take n)
  | _,_,0,_=>.nil
  | _,_,_+1,.nil=>.nil
  | _,_,n+1,.cons r t=>.cons r (Vals.take n t)
theorem Vals.drop:∀ {xs:List V} {us:List Value} (n:Nat),Vals xs us→Vals (xs.drop n) (us.drop n)
  | _,_,0,r=>r
  | _,_,_+1,.nil=>.nil
  | _,_,n+1,.cons _ t=>Vals.drop n t
def RelO:Option V→Option Value→Prop
  | some v,some u=>RelV v u
  | none,none=>True
  | _,_=>False
def KV {κ:Type}:List (κ × V)→List (κ × Value)→Prop:=Paired fun (p:κ × V) (q:κ × Value)=>p.1=q.1∧RelV p.2 q.2
def kV:Key→V
  | .inl i=>.int i
  | .inr x=>.str x
inductive HO where
  | lst (xs:List V)
  | tup (xs:List V)
  | dK (kvs:List (Key × V)) | dT (kvs:List (List Key × V))
  | set (S:Int→Bool) (n:Nat)
  | ins (C dx:Addr) (fs:List (Str × V))
  | own (x:Addr)
  | xd (fs:List (Str × V))
  | met (f x:Addr)
  | rng (lo hi:Int)
  | frz (o:Obj) (u:HO)
  | tbl (ps:Array Value)
  | ext (φ:Heap→Prop)
abbrev Hp:=Addr→Option HO
def upd (H:Hp) (a:Addr) (o:HO):Hp:=fun b=>if b=a then some o else H b
theorem upd_same {H:Hp} {a:Addr} {o:HO}:upd H a o a=some o:=by unfold upd; rw [if_pos rfl]
theorem upd_ne {H:Hp} {a b:Addr} {o:HO} (h:b≠a):upd H a o b=H b:=by unfold upd; rw [if_neg h]
theorem upd_upd {H:Hp} {a:Addr} {o u:HO}:upd (upd H a o) a u=upd H a u:=by
  funext b; unfold upd; split <;> rfl
theorem ne_of {H:Hp} {a b:Addr} {o u:HO} (h:H a=some o) (h':H b=some u) (d:o≠u):a≠b:=by
  intro e; subst e; rw [h] at h'; exact d (Option.some.inj h')
theorem ne_of_none {H:Hp} {a b:Addr} {o:HO} (h:H a=some o) (h':H b=none):a≠b:=by
  intro e; subst e; rw [h] at h'; cases h'
section
variable (P:Program) (w:World)
def ObjOk (H:Hp) (h:Heap) (a:Addr):HO→Prop
  | .lst xs=>xs.length≤sizeLine∧∃ (its:List Value) (n:Nat),Vals xs its∧h.get? a=some { cls:=.type "list",data:=.seq its.toArray n }
  | .tup xs=>xs.length≤sizeLine∧∃ its:List Value,Vals xs its∧IsTup h a its.toArray
  | .dK kvs=>kvs.length≤sizeLine∧(a == sysModules)=false∧∃ vs,KV kvs vs∧h.DictOf (mixKind P w) a vs
  | .dT kvs=>kvs.length≤sizeLine∧(a == sysModules)=false∧∃ xs:List (List Key × Addr × Value),
      Paired (fun (p:List Key × V) (q:List Key × Addr × Value)=>p.1=q.1∧H q.2.1=some (.tup (p.1.map kV))∧RelV p.2 q.2.2) kvs xs ∧
      ∃ o es ep,h.get? a=some o∧o.ExactDict∧o.data=.dict es ep∧es.toList=xs.map (entryOfKey (tupleKind (mixKind P w)))∧(xs.map (·.1)).Nodup
  | .set S n=>h.SetOf (intKind P w) a S n
  | .ins C dx fs=>H dx=some (.own a)∧fs.length≤1000∧dx≠a∧h.get? a=some (PySem.W.instObj C dx) ∧
      ∃ mA,h.Ns1 dx mA∧(∀ f,RelO (fs.lookup f) (mA f))∧PySem.Within mA (fs.map (·.1))
  | .own _=>∃ o,h.get? a=some o
  | .xd fs=>∃ mA,h.Ns1 a mA∧∀ f,RelO (fs.lookup f) (mA f)
  | .rng lo hi=>∃ t u v,h.get? a=some { cls:=.type "range",data:=.fields #[.int lo t,.int hi u,.int 1 v] }
  | .frz o u=>h.get? a=some o∧ObjOk H h a u
  | .tbl ps=>h.get? a=some { cls:=.none,data:=.fields ps }
  | .met f x=>h.get? a=some (PySem.W.methodObj (.ref f) (.ref x))
  | .ext φ=>φ h∧(∃ o,h.get? a=some o)∧∀ h1 h2:Heap,φ h1→(∀ o,h1.get? a=some o→h2.get? a=some o)→φ h2
def HOk (H:Hp) (h:Heap):Prop:=∀ a o,H a=some o→ObjOk P w H h a o
end
section
variable {P:Program} {w:World} {H H':Hp} {h h':Heap} {a:Addr} {o:HO}
theorem ObjOk.lt (x:ObjOk P w H h a o):a < h.objs.size:=by
  cases o with
  | lst xs=>obtain ⟨_,_,_,_,e⟩:=x; exact Heap.lt_size e
  | tup xs=>obtain ⟨_,_,_,p⟩:=x; exact p.lt
  | dK kvs=>obtain ⟨_,_,_,_,o,_,_,e,_⟩:=x; exact Heap.lt_size e
  | dT kvs=>obtain ⟨_,_,_,_,o,_,_,e,_⟩:=x; exact Heap.lt_size e
  | set S n=>obtain ⟨o,_,_,_,e,_⟩:=x; exact Heap.lt_size e
  | ins C dx fs=>obtain ⟨_,_,_,e,_⟩:=x; exact Heap.lt_size e
  | own y=>obtain ⟨_,e⟩:=x; exact Heap.lt_size e
  | xd fs=>obtain ⟨_,⟨_,_,_,e,_⟩,_⟩:=x; exact Heap.lt_size e
  | rng lo hi=>obtain ⟨_,_,_,e⟩:=x; exact Heap.lt_size e
  | frz ob u=>obtain ⟨e,_⟩:=x; exact Heap.lt_size e
  | tbl ps=>exact Heap.lt_size (show h.get? a=some _ from x)
  | met f y=>exact Heap.lt_size (show h.get? a=some _ from x)
  | ext φ=>obtain ⟨_,⟨_,e⟩,_⟩:=x; exact Heap.lt_size e
theorem Paired.mapP {α β:Type} {F G:α→β→Prop}:∀ {l₁:List α} {l₂:List β},Paired F l₁ l₂→(∀ a b,F a b→G a b)→Paired G l₁ l₂
  | _,_,.nil,_=>.nil
  | _,_,.cons r t,f=>.cons (f _ _ r) (Paired.mapP t f)
theorem ObjOk.stay (x:ObjOk P w H h a o) (k:∀ b u,(b=a∨H b=some (.own a))→h.get? b=some u→h'.get? b=some u)
    (ho:∀ b,H b=some (.own a)→H' b=some (.own a)) (ht:∀ b xs,H b=some (.tup xs)→H' b=some (.tup xs)):ObjOk P w H' h' a o:=by
  induction o with
  | lst xs=>obtain ⟨z,its,n,r,e⟩:=x; exact ⟨z,its,n,r,k _ _ (.inl rfl) e⟩
  | tup xs=>obtain ⟨z,its,r,ob,e,c⟩:=x; exact ⟨z,its,r,ob,k _ _ (.inl rfl) e,c⟩
  | dK kvs=>obtain ⟨z,y,vs,r,ob,es,ep,e,c⟩:=x; exact ⟨z,y,vs,r,ob,es,ep,k _ _ (.inl rfl) e,c⟩
  | dT kvs =>
    obtain ⟨z,y,xs,r,ob,es,ep,e,c⟩:=x
    exact ⟨z,y,xs,Paired.mapP r fun p q z=>⟨z.1,ht _ _ z.2.1,z.2.2⟩,ob,es,ep,k _ _ (.inl rfl) e,c⟩
  | set S n=>obtain ⟨ob,es,ep,t,e,c⟩:=x; exact ⟨ob,es,ep,t,k _ _ (.inl rfl) e,c⟩
  | ins C dx fs =>
    obtain ⟨d,z,ne,e,mA,⟨od,es,ep,e2,c⟩,r⟩:=x
    exact ⟨ho _ d,z,ne,k _ _ (.inl rfl) e,mA,⟨od,es,ep,k _ _ (.inr d) e2,c⟩,r⟩
  | own y=>obtain ⟨ob,e⟩:=x; exact ⟨ob,k _ _ (.inl rfl) e⟩
  | xd fs=>obtain ⟨mA,⟨od,es,ep,e,c⟩,r⟩:=x; exact ⟨mA,⟨od,es,ep,k _ _ (.inl rfl) e,c⟩,r⟩
  | rng lo hi=>obtain ⟨t,u,v,e⟩:=x; exact ⟨t,u,v,k _ _ (.inl rfl) e⟩
  | frz ob u ih=>obtain ⟨e,q⟩:=x; exact ⟨k _ _ (.inl rfl) e,ih q⟩
  | tbl ps =>
    have e:h.get? a=some { cls:=.none,data:=.fields ps }:=x
    show h'.get? a=some { cls:=.none,data:=.fields ps }
    exact k a _ (.inl rfl) e
  | met f y =>
    have e:h.get? a=some (PySem.W.methodObj (.ref f) (.ref y)):=x
    show h'.get? a=some (PySem.W.methodObj (.ref f) (.ref y))
    exact k a _ (.inl rfl) e
  | ext φ=>obtain ⟨p,⟨o,e⟩,st⟩:=x; exact ⟨st _ _ p fun o q=>k _ _ (.inl rfl) q,⟨o,k _ _ (.inl rfl) e⟩,st⟩
theorem HOk.lt (x:HOk P w H h) (e:H a=some o):a < h.objs.size:=(x a o e).lt
theorem HOk.fresh (x:HOk P w H h) (e:h.objs.size≤a):H a=none:=by
  cases q:H a with
  | none=>rfl
  | some u=>exact absurd (Nat.lt_of_lt_of_le (x.lt q) e) (Nat.lt_irrefl _)
theorem HOk.kept (x:HOk P w H h) (k:∀ b u,h.get? b=some u→h'.get? b=some u):HOk P w H h':=fun a o e =>
  (x a o e).stay (fun b u _ q=>k b u q) (fun _ q=>q) fun _ _ q=>q
theorem HOk.laid (x:HOk P w H h) (k:∀ b u,h.get? b=some u→h'.get? b=some u) (hp:h.objs.size≤a) (new:ObjOk P w (upd H a o) h' a o):HOk P w (upd H a o) h':=fun b u e=>by
  have hn:=x.fresh hp
  by_cases hb:b=a
  · subst hb; rw [upd_same] at e; cases e; exact new
  · rw [upd_ne hb] at e
    exact (x b u e).stay (fun c v _ q=>k c v q) (fun c q=>by rw [upd_ne (ne_of_none q hn)]; exact q) fun c xs q=>by rw [upd_ne (ne_of_none q hn)]; exact q
end
def Rd (H:Hp) (a:Addr) (u:HO):Prop:=H a=some u∨∃ o,H a=some (.frz o u)
theorem Rd.of {H:Hp} {a:Addr} {u:HO} (h:H a=some u):Rd H a u:=.inl h
theorem Rd.ok {P:Program} {w:World} {H:Hp} {h:Heap} {a:Addr} {u:HO} (r:Rd H a u) (x:HOk P w H h):ObjOk P w H h a u:=by
  rcases r with r | ⟨o,r⟩
  · exact x a u r
  · obtain ⟨_,q⟩:=x a _ r
    exact q
def Mut:Option HO→Prop
  | some (.lst _)=>True
  | some (.dK _)=>True
  | some (.dT _)=>True
  | some (.set _ _)=>True
  | some (.ins _ _ _)=>True
  | some (.ext _)=>True
  | _=>False
section
variable {P:Program} {w:World} {H:Hp} {h h':Heap} {x e:Addr} {o':HO}
theorem HOk.write (ok:HOk P w H h) (mu:Mut (H x)) (he:e=x∨H e=some (.own x)) (k:∀ b u,b≠e→h.get? b=some u→h'.get? b=some u) (heo:∃ u,h'.get? e=some u)
    (new:ObjOk P w (upd H x o') h' x o'):HOk P w (upd H x o') h':=fun b u q=>by
  have nown:∀ c y,H c=some (.own y)→c≠x:=fun c y r z=>by subst z; rw [r] at mu; exact mu
  have ntup:∀ c xs,H c=some (.tup xs)→c≠x:=fun c xs r z=>by subst z; rw [r] at mu; exact mu
  by_cases hb:b=x
  · subst hb; rw [upd_same] at q; cases q; exact new
  · rw [upd_ne hb] at q
    by_cases hbe:b=e
    · have q':H b=some (.own x):=by
        rcases he with z | z
        · exact absurd (hbe.trans z) hb
        · rw [hbe]; exact z
      rw [q] at q'; cases q'
      obtain ⟨v,hv⟩:=heo
      exact ⟨v,by rw [hbe]; exact hv⟩
    · refine (ok b u q).stay (fun c v hc r=>k c v ?_ r) (fun c r=>by rw [upd_ne (nown c b r)]; exact r) fun c xs r=>by rw [upd_ne (ntup c xs r)]; exact r
      rcases hc with rfl | hc
      · exact hbe
      · rintro rfl
        rcases he with z | z
        · exact nown c b hc z
        · rw [hc] at z; cases z; exact hb rfl
end
structure Un (fs ex:List Addr) (H H':Hp) (h h':Heap):Prop where
  keep:∀ b o,h.get? b=some o→H b=none→b ∉ fs→b ∉ ex→h'.get? b=some o
  slot:∀ b o,h.get? b=some o→H b=none→b∈fs→b ∉ ex→∃ sl,h'.get? b=some { o with slots:=sl }
  free:∀ b o,h.get? b=some o→H b=none→b ∉ ex→H' b=none
  there:∀ b o,h.get? b=some o→b ∉ ex→∃ o',h'.get? b=some o'
  tups:∀ b xs,H b=some (.tup xs)→H' b=some (.tup xs)
  frzs:∀ b o u,H b=some (.frz o u)→H' b=some (.frz o u)
  tbls:∀ b ps,H b=some (.tbl ps)→∃ more,H' b=some (.tbl (ps++more))
section
variable {fs fs' ex ex':List Addr} {H H1 H2:Hp} {h h1 h2 h':Heap} {a x e:Addr} {o:HO}
theorem Un.any (u:Un fs ex H H1 h h1) {b:Addr} {ob:Obj} (q:h.get? b=some ob) (n:H b=none) (hx:b ∉ ex):∃ sl,h1.get? b=some { ob with slots:=sl }:=by
  by_cases hb:b∈fs
  · exact u.slot b ob q n hb hx
  · exact ⟨ob.slots,u.keep b ob q n hb hx⟩
theorem Un.trans (a:Un fs ex H H1 h h1) (b:Un fs ex H1 H2 h1 h2):Un fs ex H H2 h h2 where
  keep:=fun c ob q n hc hx=>b.keep c ob (a.keep c ob q n hc hx) (a.free c ob q n hx) hc hx
  slot:=fun c ob q n hc hx=>by
    obtain ⟨sl,e1⟩:=a.slot c ob q n hc hx
    obtain ⟨sl',e2⟩:=b.slot c _ e1 (a.free c ob q n hx) hc hx
    exact ⟨sl',e2⟩
  free:=fun c ob q n hx=>by
    obtain ⟨o',e1⟩:=a.there c ob q hx
    exact b.free c o' e1 (a.free c ob q n hx) hx
  there:=fun c ob q hx=>by
    obtain ⟨o',e1⟩:=a.there c ob q hx
    exact b.there c o' e1 hx
  tups:=fun c xs q=>b.tups c xs (a.tups c xs q)
  frzs:=fun c ob xs q=>b.frzs c ob xs (a.frzs c ob xs q)
  tbls:=fun c ps q=>by
    obtain ⟨m1,e1⟩:=a.tbls c ps q
    obtain ⟨m2,e2⟩:=b.tbls c _ e1
    exact ⟨m1++m2,by rw [e2,Array.append_assoc]⟩
theorem Un.kept (k:∀ b u,h.get? b=some u→h'.get? b=some u):Un fs ex H H h h' :=
  ⟨fun b ob q _ _ _=>k b ob q,fun b ob q _ _ _=>⟨ob.slots,k b ob q⟩,fun _ _ _ n _=>n,fun b ob q _=>⟨ob,k b ob q⟩,fun _ _ q=>q,fun _ _ _ q=>q,fun _ ps q=>⟨#[],by rw [q]; simp⟩⟩
theorem Un.refl:Un fs ex H H h h:=Un.kept fun _ _ q=>q
theorem Un.laid (k:∀ b u,h.get? b=some u→h'.get? b=some u) (hp:h.objs.size≤a) (hn:H a=none):Un fs ex H (upd H a o) h h' where
  keep:=fun b u q _ _ _=>k b u q
  slot:=fun b u q _ _ _=>⟨u.slots,k b u q⟩
  free:=fun b u q n _=>by rw [upd_ne (Nat.ne_of_lt (Nat.lt_of_lt_of_le (Heap.lt_size q) hp))]; exact n
  there:=fun b u q _=>⟨u,k b u q⟩
  tups:=fun b xs q=>by rw [upd_ne (ne_of_none q hn)]; exact q
  frzs:=fun b u xs q=>by rw [upd_ne (ne_of_none q hn)]; exact q
  tbls:=fun b ps q=>⟨#[],by rw [upd_ne (ne_of_none q hn),q]; simp⟩
theorem Un.write (mu:Mut (H x)) (he:e=x∨H e=some (.own x)) (k:∀ b u,b≠e→h.get? b=some u→h'.get? b=some u) (heo:∃ u,h'.get? e=some u):Un fs ex H (upd H x o) h h':=by
  have hx:∀ b,H b=none→b≠x:=fun b n z=>by subst z; rw [n] at mu; exact mu
  have hb:∀ b,H b=none→b≠e:=fun b n z=>by
    subst z
    rcases he with r | r
    · exact hx b n r
    · rw [n] at r; cases r
  have hm:∀ b u,H b=some u→¬ Mut (some u)→b≠x:=fun b u q nm z=>by subst z; rw [q] at mu; exact nm mu
  refine ⟨fun b u q n _ _=>k b u (hb b n) q,fun b u q n _ _=>⟨u.slots,k b u (hb b n) q⟩,fun b u q n _=>by rw [upd_ne (hx b n)]; exact n,fun b u q _=>?_,
    fun b xs q=>by rw [upd_ne (hm b _ q fun z=>z)]; exact q,fun b u xs q=>by rw [upd_ne (hm b _ q fun z=>z)]; exact q,fun b ps q=>⟨#[],by rw [upd_ne (hm b _ q fun z=>z),q]; simp⟩⟩
  by_cases hbe:b=e
  · subst hbe; exact heo
  · exact ⟨u,k b u hbe q⟩
theorem Un.mono (u:Un fs ex H H1 h h1) (hs:∀ b∈fs,b∈fs') (hx:∀ b∈ex,b∈ex'):Un fs' ex' H H1 h h1 :=
  ⟨fun b ob q n hb he=>u.keep b ob q n (fun z=>hb (hs b z)) fun z=>he (hx b z),fun _ _ q n _ he=>u.any q n fun z=>he (hx _ z),fun b ob q n he=>u.free b ob q n fun z=>he (hx b z),fun b ob q he=>u.there b ob q fun z=>he (hx b z),u.tups,u.frzs,u.tbls⟩
end
def trk (h:Heap) (H:Hp):List Addr:=(List.range h.objs.size).filter fun a=>(H a).isSome
def hidT (h:Heap) (H:Hp):Heap:=PySem.W.hideAll h (trk h H)
theorem hidT_size (h:Heap) (H:Hp):(hidT h H).objs.size=h.objs.size:=PySem.W.hideAll_size _ _
theorem hidT_get {h:Heap} {H:Hp} {b:Addr} {o:Obj} (e:h.get? b=some o) (n:H b=none):(hidT h H).get? b=some o :=
  PySem.W.hideAll_get _ e fun hm=>by
    have q:(H b).isSome=true:=(List.mem_filter.mp hm).2
    rw [n] at q; simp at q
theorem of_hidT {h:Heap} {H:Hp} {b:Addr} {o:Obj} (e:(hidT h H).get? b=some o):h.get? b=some o∧H b=none:=by
  have e':h.get? b=some o:=PySem.W.of_hideAll (trk h H) e
  refine ⟨e',?_⟩
  cases q:H b with
  | none=>rfl
  | some x =>
    have hm:b∈trk h H:=List.mem_filter.mpr ⟨List.mem_range.mpr (Heap.lt_size e'),by simp [q]⟩
    have z:(hidT h H).get? b=none:=PySem.W.hideAll_none (trk h H) hm
    rw [z] at e; cases e
def allNews (g h:Heap) (L:Addr):List (Addr × Obj):=(List.range h.objs.size).filterMap fun a=>if a=L∨(g.get? a).isSome=true then none else (h.get? a).map fun o=>(a,o)
def rest (g h:Heap) (L d:Addr):List (Addr × Obj):=(allNews g h L).filter fun p=>decide (p.1≠d)
end L2
namespace L2
open PySem PySem.Spec PyProof.Rows
structure Mod (K:PySem.W.Frag) (mg:Str→Option Value) (base:Heap):Prop where
  kin:K.In base
  glob:base.Ns mainGlobals mg
  blt:∃ mb,base.Ns builtinsNs mb∧∀ x:Str,x ≠ "__name__"→mb x=bootBuiltins x
  nolimit:base.NoLimit
structure Cx where
  prog:Program
  w:World
  K:PySem.W.Frag
  mg:Str→Option Value
  base:Heap
  A:Around
  N:List Str
  s₀:Shared
  H₀:Hp
  env:Env
  outer:List Env
  stack:List Env
  ex:List Addr
  fn:Str→Bool
  calm:Bool
  pn:List (Addr × Obj)
  xe:Value→Shared→Prop
def frs (l:List Env):List Addr:=l.filterMap (·.frame)
abbrev Cx.fs (X:Cx):List Addr:=frs X.outer
def Vis (sc:Scope) (x:Str):Prop:=sc.names.lookup x=some .local∨sc.names.lookup x=some .cell∨sc.names.lookup x=some .free
def Loc (sc:Scope) (x:Str):Prop:=sc.names.lookup x=some .local∨sc.names.lookup x=some .cell
def Look (env:Env) (h:Heap) (m:Str→Option Value) (x:Str) (u:Value):Prop :=
  (env.kindOf x=some .local∧m x=some u)∨((env.kindOf x=some .cell∨env.kindOf x=some .free)∧∃ c,env.cells.lookup x=some c∧h.IsCell c (some u))
structure Cx.Ok (X:Cx):Prop where
  mod:Mod X.K X.mg X.base
  kind:X.env.scope.kind=.function
  glob:X.env.globals=mainGlobals
  blt:X.env.builtins=builtinsNs
  above:X.s₀.heap.objs.size≤X.env.locals
  inj:∀ x y c,X.env.cells.lookup x=some c→X.env.cells.lookup y=some c→x=y
  has:∀ x,(X.env.kindOf x=some .cell∨X.env.kindOf x=some .free)→∃ c,X.env.cells.lookup x=some c
  cab:∀ x c,X.fn x=true→X.env.cells.lookup x=some c→X.s₀.heap.objs.size≤c
  hd:X.calm=true→X.A.handled=none
  frames:X.A.frames=some X.stack
  stk:X.stack=X.outer∨(X.stack=X.env :: X.outer∧X.env.frame=some X.env.locals)
  exf:∀ b∈X.ex,b≠X.env.locals∧∀ x c,X.env.cells.lookup x=some c→c≠b
  bs:∀ b o,X.base.get? b=some o→X.s₀.heap.get? b=some o∧X.H₀ b=none
  bsz:X.base.objs.size≤X.s₀.heap.objs.size
  noex:∀ b o,X.base.get? b=some o→b ∉ X.ex
  exfs:∀ b∈X.ex,b ∉ X.fs
  funs:X.s₀.heap.FunFrames X.base X.outer
  frf:∀ b∈X.fs,X.H₀ b=none
structure Inv (X:Cx) (pins:List (Addr × Obj)) (σ:List (Option V)) (H:Hp) (s:Shared):Prop where
  ok:X.Ok
  os:s.os=X.s₀.os
  bare:AllBare s.gens
  base:Un X.fs X.ex X.H₀ H X.s₀.heap s.heap
  loc:∃ m,s.heap.Ns X.env.locals m∧∀ (i:Nat) (x:Str) (v:V),X.N[i]?=some x→σ[i]?=some (some v)→Vis X.env.scope x→∃ u,RelV v u∧Look X.env s.heap m x u
  cell:∀ x c,X.env.cells.lookup x=some c→∃ v,s.heap.IsCell c v
  free:H X.env.locals=none
  freeC:∀ x c,X.env.cells.lookup x=some c→H c=none
  pin:∀ p∈X.pn++pins,s.heap.get? p.1=some p.2∧H p.1=none∧p.1≠X.env.locals∧p.1 ∉ X.fs∧∀ v,p.2.data≠.cell v
  hok:HOk X.prog X.w H s.heap
  len:σ.length=X.N.length
section
variable {X:Cx} {pins:List (Addr × Obj)} {σ:List (Option V)} {H H':Hp} {s:Shared} {h':Heap}
theorem Cx.Ok.nofr (ok:X.Ok) {b:Addr} {o:Obj} (e:X.base.get? b=some o):b ∉ X.fs:=fun hb=>by
  have:=(ok.funs.mem hb).1
  rw [e] at this; cases this
theorem Inv.bs (I:Inv X pins σ H s):∀ b o,X.base.get? b=some o→s.heap.get? b=some o∧H b=none:=fun b o e =>
  ⟨I.base.keep b o (I.ok.bs b o e).1 (I.ok.bs b o e).2 (I.ok.nofr e) (I.ok.noex b o e),I.base.free b o (I.ok.bs b o e).1 (I.ok.bs b o e).2 (I.ok.noex b o e)⟩
theorem Inv.bk (I:Inv X pins σ H s):∀ b o,X.base.get? b=some o→s.heap.get? b=some o:=fun b o e=>(I.bs b o e).1
theorem Inv.mod (I:Inv X pins σ H s):Mod X.K X.mg X.base:=I.ok.mod
theorem Inv.kIn (I:Inv X pins σ H s):X.K.In s.heap:=I.ok.mod.kin.keeps I.bk
theorem Inv.nolimit (I:Inv X pins σ H s):s.heap.NoLimit:=I.ok.mod.nolimit.keeps I.bk
theorem Inv.fr (I:Inv X pins σ H s):∃ m,Fr X.base X.env.locals s.heap m :=
  let ⟨m,hn,_⟩:=I.loc
  ⟨m,hn,I.bk,Nat.le_trans I.ok.bsz I.ok.above⟩
theorem Inv.lt (I:Inv X pins σ H s):X.env.locals < s.heap.objs.size:=let ⟨_,hn,_⟩:=I.loc; hn.lt
theorem Inv.sz (I:Inv X pins σ H s):X.s₀.heap.objs.size≤s.heap.objs.size:=Nat.le_trans I.ok.above (Nat.le_of_lt I.lt)
theorem Inv.nofs (I:Inv X pins σ H s) {a:Addr} (h:s.heap.objs.size≤a):a ∉ X.fs:=fun hb=>by
  obtain ⟨_,o,ho,_⟩:=I.ok.funs.mem hb
  exact absurd (Nat.lt_of_lt_of_le (Heap.lt_size ho) (Nat.le_trans I.sz h)) (Nat.lt_irrefl _)
theorem Inv.cne (I:Inv X pins σ H s):∀ x c,X.env.cells.lookup x=some c→c≠X.env.locals:=fun x c e z=>by
  obtain ⟨v,o,ho,hd⟩:=I.cell x c e
  obtain ⟨m,⟨o',es,ep,ho',hd',_⟩,_⟩:=I.loc
  rw [z,ho'] at ho; cases ho; rw [hd'] at hd; cases hd
theorem Inv.funs (I:Inv X pins σ H s):s.heap.FunFrames X.base X.outer:=by
  have all:∀ (l:List Env),(∀ b∈frs l,b∈X.fs)→X.s₀.heap.FunFrames X.base l→s.heap.FunFrames X.base l:=by
    intro l
    induction l with
    | nil=>intro _ _; trivial
    | cons env r ih =>
      intro hs hl
      obtain ⟨hk,⟨L,o,hf,hn,ho,hd⟩,hr⟩:=hl
      have hL:L∈X.fs:=hs L (by unfold frs; rw [List.filterMap_cons,hf]; exact List.mem_cons_self)
      obtain ⟨sl,e⟩:=I.base.slot L o ho (I.ok.frf L hL) hL fun z=>I.ok.exfs L z hL
      exact ⟨hk,⟨L,_,hf,hn,e,hd⟩,ih (fun b hb=>hs b (by unfold frs; rw [List.filterMap_cons,hf]; exact List.mem_cons_of_mem _ hb)) hr⟩
  exact all X.outer (fun _ hb=>hb) I.ok.funs
theorem Inv.stack (I:Inv X pins σ H s):s.heap.FunFrames X.base X.stack:=by
  rcases I.ok.stk with e | ⟨e,hf⟩
  · rw [e]; exact I.funs
  · rw [e]
    obtain ⟨m,hn,_⟩:=I.loc
    refine .cons (by rw [I.ok.kind]; decide) hf hn ?_ I.funs
    exact Heap.get?_none_of_le (Nat.le_trans I.ok.bsz I.ok.above)
theorem Inv.stkSub (I:Inv X pins σ H s):∀ b∈frs X.stack,b∈X.env.locals :: X.fs:=fun b hb=>by
  rcases I.ok.stk with e | ⟨e,hf⟩
  · rw [e] at hb; exact List.mem_cons_of_mem _ hb
  · rw [e] at hb
    unfold frs at hb
    rw [List.filterMap_cons,hf] at hb
    exact hb
theorem Inv.stkFree (I:Inv X pins σ H s):∀ b∈frs X.stack,H b=none:=fun b hb=>by
  rcases List.mem_cons.mp (I.stkSub b hb) with e | hb
  · rw [e]; exact I.free
  · obtain ⟨_,o,ho,_⟩:=I.ok.funs.mem hb
    exact I.base.free b o ho (I.ok.frf b hb) fun z=>I.ok.exfs b z hb
theorem Inv.step {g':Array GenState} {t':Nat} {d':Drawn} {ch:List Addr} (I:Inv X pins σ H s)
    (hch:∀ b∈ch,(b∈X.ex∨X.s₀.heap.objs.size≤b)∧b≠X.env.locals∧(∀ x c,X.env.cells.lookup x=some c→c≠b)∧∀ p∈X.pn++pins,p.1≠b)
    (keep:∀ b o,b≠X.env.locals→b ∉ X.fs→b ∉ ch→s.heap.get? b=some o→H b=none→h'.get? b=some o)
    (slot:∀ b o,b≠X.env.locals→b∈X.fs→b ∉ ch→s.heap.get? b=some o→H b=none→∃ sl,h'.get? b=some { o with slots:=sl }) (free:∀ b o,b ∉ ch→s.heap.get? b=some o→H b=none→H' b=none)
    (there:∀ b o,b ∉ ch→s.heap.get? b=some o→∃ o',h'.get? b=some o')
    (tups:∀ b xs,H b=some (.tup xs)→H' b=some (.tup xs)) (frzs:∀ b o u,H b=some (.frz o u)→H' b=some (.frz o u)) (tbls:∀ b ps,H b=some (.tbl ps)→∃ more,H' b=some (.tbl (ps++more)))
    (ns:∀ m,s.heap.Ns X.env.locals m→h'.Ns X.env.locals m) (hok:HOk X.prog X.w H' h') (hg:AllBare g') :
    Inv X pins σ H' { s with heap:=h',gens:=g',drawn:=d',toks:=t' }:=by
  have neL:∀ b o,X.s₀.heap.get? b=some o→b≠X.env.locals:=fun b o e=>Nat.ne_of_lt (Nat.lt_of_lt_of_le (Heap.lt_size e) I.ok.above)
  have neC:∀ b o,X.s₀.heap.get? b=some o→b ∉ X.ex→b ∉ ch:=fun b o e hx hb=>by
    rcases (hch b hb).1 with z | z
    · exact hx z
    · exact absurd (Nat.lt_of_lt_of_le (Heap.lt_size e) z) (Nat.lt_irrefl _)
  have cellK:∀ x c,X.env.cells.lookup x=some c→∀ v,s.heap.IsCell c v→h'.IsCell c v:=fun x c e v ⟨o,ho,hd⟩=>by
    have nch:c ∉ ch:=fun z=>(hch c z).2.2.1 x c e rfl
    by_cases hc:c∈X.fs
    · obtain ⟨sl,q⟩:=slot c o (I.cne x c e) hc nch ho (I.freeC x c e)
      exact ⟨_,q,hd⟩
    · exact ⟨o,keep c o (I.cne x c e) hc nch ho (I.freeC x c e),hd⟩
  refine ⟨I.ok,I.os,hg,⟨fun b o e n hb hx=>?_,fun b o e n hb hx=>?_,fun b o e n hx=>?_,fun b o e hx=>?_,fun b xs e=>tups b xs (I.base.tups b xs e),fun b o xs e=>frzs b o xs (I.base.frzs b o xs e),fun b ps e=>?_⟩,?_,fun x c e=>?_,?_,fun x c e=>?_,fun p hp=>?_,hok,I.len⟩
  · exact keep b o (neL b o e) hb (neC b o e hx) (I.base.keep b o e n hb hx) (I.base.free b o e n hx)
  · obtain ⟨sl,e1⟩:=I.base.slot b o e n hb hx
    obtain ⟨sl',e2⟩:=slot b _ (neL b o e) hb (neC b o e hx) e1 (I.base.free b o e n hx)
    exact ⟨sl',e2⟩
  · obtain ⟨o',e1⟩:=I.base.there b o e hx
    exact free b o' (neC b o e hx) e1 (I.base.free b o e n hx)
  · obtain ⟨o',e1⟩:=I.base.there b o e hx
    exact there b o' (neC b o e hx) e1
  · obtain ⟨m1,e1⟩:=I.base.tbls b ps e
    obtain ⟨m2,e2⟩:=tbls b _ e1
    exact ⟨m1++m2,by rw [e2,Array.append_assoc]⟩
  · obtain ⟨m,hn,hl⟩:=I.loc
    refine ⟨m,ns m hn,fun i x v e1 e2 e3=>?_⟩
    obtain ⟨u,r,l⟩:=hl i x v e1 e2 e3
    refine ⟨u,r,?_⟩
    rcases l with l | ⟨k,c,e,z⟩
    · exact .inl l
    · exact .inr ⟨k,c,e,cellK x c e _ z⟩
  · obtain ⟨v,z⟩:=I.cell x c e
    exact ⟨v,cellK x c e v z⟩
  · obtain ⟨m,⟨o,_,_,ho,_⟩,_⟩:=I.loc
    exact free _ o (fun z=>(hch _ z).2.1 rfl) ho I.free
  · obtain ⟨v,o,ho,hd⟩:=I.cell x c e
    exact free c o (fun z=>(hch c z).2.2.1 x c e rfl) ho (I.freeC x c e)
  · obtain ⟨e,n,ne,nf,d⟩:=I.pin p hp
    have nch:p.1 ∉ ch:=fun z=>(hch p.1 z).2.2.2 p hp rfl
    exact ⟨keep p.1 p.2 ne nf nch e n,free p.1 p.2 nch e n,ne,nf,d⟩
theorem Inv.un {t':Nat} (I:Inv X pins σ H s) (u:Un X.fs [] H H' s.heap h') (hok:HOk X.prog X.w H' h'):Inv X pins σ H' { s with heap:=h',toks:=t' }:=by
  obtain ⟨m,⟨o,es,ep,ho,r⟩,_⟩:=id I.loc
  obtain ⟨sl,hL⟩:=u.any ho I.free (by simp)
  exact I.step (g':=s.gens) (d':=s.drawn) (ch:=[]) (fun _ z=>nomatch z) (fun b o _ hb _ e n=>u.keep b o e n hb (by simp)) (fun b o _ hb _ e n=>u.slot b o e n hb (by simp)) (fun b o _ e n=>u.free b o e n (by simp)) (fun b o _ e=>u.there b o e (by simp)) u.tups u.frzs u.tbls (fun m' hm=>by
    obtain ⟨o',es',ep',ho',r'⟩:=hm
    rw [ho] at ho'; cases ho'
    exact ⟨_,es',ep',hL,r'⟩) hok I.bare
theorem Inv.call {g':Array GenState} {t':Nat} {d':Drawn} {ch:List Addr} (I:Inv X pins σ H s) (u:Un (frs X.stack) ch H H' s.heap h') (hok:HOk X.prog X.w H' h') (hg:AllBare g')
    (hch:∀ b∈ch,(b∈X.ex∨X.s₀.heap.objs.size≤b)∧b≠X.env.locals∧(∀ x c,X.env.cells.lookup x=some c→c≠b)∧∀ p∈X.pn++pins,p.1≠b) :
    Inv X pins σ H' { s with heap:=h',gens:=g',drawn:=d',toks:=t' }:=by
  obtain ⟨m,⟨o,es,ep,ho,r⟩,_⟩:=id I.loc
  obtain ⟨sl,hL⟩:=u.any ho I.free fun z=>(hch _ z).2.1 rfl
  exact I.step (ch:=ch) hch (fun b o hL hb hc e n=>u.keep b o e n (fun z=>(List.mem_cons.mp (I.stkSub b z)).elim hL hb) hc) (fun b o _ _ hc e n=>u.any e n hc) (fun b o hc e n=>u.free b o e n hc) (fun b o hc e=>u.there b o e hc) u.tups u.frzs u.tbls (fun m' hm=>by
    obtain ⟨o',es',ep',ho',r'⟩:=hm
    rw [ho] at ho'; cases ho'
    exact ⟨_,es',ep',hL,r'⟩) hok hg
theorem Inv.turned {t':Nat} {it:Addr} (I:Inv X pins σ H s) (k:∀ b o,b≠it→s.heap.get? b=some o→h'.get? b=some o) (hn:H it=none) (hL:it≠X.env.locals)
    (h1:it∈X.ex∨X.s₀.heap.objs.size≤it) (h2:∀ x c,X.env.cells.lookup x=some c→c≠it) (h3:∀ p∈X.pn++pins,p.1≠it):Inv X pins σ H { s with heap:=h',toks:=t' }:=by
  have nit:∀ b u,H b=some u→b≠it:=fun b u e z=>by rw [z,hn] at e; cases e
  refine I.step (g':=s.gens) (d':=s.drawn) (ch:=[it]) (fun b hb=>?_) (fun b o _ _ hc e _=>k b o (fun z=>hc (by simp [z])) e) (fun b o _ _ hc e _=>⟨o.slots,k b o (fun z=>hc (by simp [z])) e⟩) (fun _ _ _ _ n=>n)
    (fun b o hc e=>⟨o,k b o (fun z=>hc (by simp [z])) e⟩) (fun _ _ e=>e) (fun _ _ _ e=>e) (fun b ps e=>⟨#[],by rw [e]; simp⟩) (fun m hm=>?_) (fun b u e=>?_) I.bare
  · have e:b=it:=by simpa using hb
    subst e
    exact ⟨h1,hL,h2,h3⟩
  · obtain ⟨o,es,ep,ho,r⟩:=hm
    exact ⟨o,es,ep,k _ o (Ne.symm hL) ho,r⟩
  · refine (I.hok b u e).stay (fun c v hc q=>k c v ?_ q) (fun _ q=>q) fun _ _ q=>q
    rcases hc with z | z
    · rw [z]; exact nit b u e
    · exact nit c _ z
theorem Inv.tok (I:Inv X pins σ H s) (t:Nat):Inv X pins σ H { s with toks:=t }:=I.un (h':=s.heap) (t':=t) Un.refl I.hok
theorem Inv.kept {t':Nat} (I:Inv X pins σ H s) (k:∀ b u,s.heap.get? b=some u→h'.get? b=some u):Inv X pins σ H { s with heap:=h',toks:=t' }:=I.un (Un.kept k) (I.hok.kept k)
theorem Inv.laid {a:Addr} {o:HO} {t':Nat} (I:Inv X pins σ H s) (k:∀ b u,s.heap.get? b=some u→h'.get? b=some u) (hp:s.heap.objs.size≤a) (new:ObjOk X.prog X.w (upd H a o) h' a o) :
    Inv X pins σ (upd H a o) { s with heap:=h',toks:=t' }:=I.un (Un.laid k hp (I.hok.fresh hp)) (I.hok.laid k hp new)
theorem Inv.write {x e:Addr} {o:HO} {t':Nat} (I:Inv X pins σ H s) (mu:Mut (H x)) (he:e=x∨H e=some (.own x)) (k:∀ b u,b≠e→s.heap.get? b=some u→h'.get? b=some u) (heo:∃ u,h'.get? e=some u)
    (new:ObjOk X.prog X.w (upd H x o) h' x o):Inv X pins σ (upd H x o) { s with heap:=h',toks:=t' }:=I.un (Un.write mu he k heo) (I.hok.write mu he k heo new)
theorem Inv.pins_of {pins':List (Addr × Obj)} (I:Inv X pins σ H s) (h:∀ p∈pins',s.heap.get? p.1=some p.2∧H p.1=none∧p.1≠X.env.locals∧p.1 ∉ X.fs∧∀ v,p.2.data≠.cell v):Inv X pins' σ H s :=
  ⟨I.ok,I.os,I.bare,I.base,I.loc,I.cell,I.free,I.freeC,fun p hp=>(List.mem_append.mp hp).elim (fun z=>I.pin p (List.mem_append_left _ z)) (h p),I.hok,I.len⟩
theorem nodup_ix {N:List Str} (hN:N.Nodup) {i j:Nat} {x:Str} (a:N[i]?=some x) (b:N[j]?=some x):i=j:=by
  obtain ⟨h1,e1⟩:=List.getElem?_eq_some_iff.mp a
  obtain ⟨h2,e2⟩:=List.getElem?_eq_some_iff.mp b
  exact (List.getElem_inj hN).mp (e1.trans e2.symm)
theorem store_ok2 {M:Model} {A:Around} {E:Value→Shared→Prop} {i:Nat} {x:Str} {v:V} {u:Value} {Q:Unit→Shared→Prop} (I:Inv X pins σ H s) (hN:X.N.Nodup) (hi:X.N[i]?=some x) (hx:Loc X.env.scope x) (r:RelV v u)
    (h:∀ s',Inv X pins (σ.set i (some v)) H s'→(∃ a,Heap.SameBut a s.heap s'.heap∧(a=X.env.locals∨X.env.cells.lookup x=some a))→Q () s') (hf:X.fn x=true∨X.env.scope.names.lookup x=some .local:=by first | exact .inl rfl | exact .inr rfl | assumption):wpAny M A (storeName X.env x u) Q E s:=by
  obtain ⟨m,hn,hl⟩:=id I.loc
  have hcls:(X.env.scope.kind == .class || (X.env.scope.kind == .module && X.env.locals != X.env.globals))=false:=by rw [I.ok.kind]; rfl
  have hiσ:i < σ.length:=by rw [I.len]; exact (List.getElem?_eq_some_iff.mp hi).1
  have cne:=I.cne
  have tracked:∀ {a:Addr} {h':Heap},(∃ o,s.heap.get? a=some o∧H a=none)→Heap.SameBut a s.heap h'→HOk X.prog X.w H h':=fun {a h'} ha hs b ob e=>by
    obtain ⟨_,_,hfree⟩:=ha
    refine (I.hok b ob e).stay (fun c w' hc q=>(hs.2 c ?_).trans q) (fun _ q=>q) fun _ _ q=>q
    rintro rfl
    rcases hc with rfl | hc
    · rw [hfree] at e; cases e
    · rw [hfree] at hc; cases hc
  rcases hx with hk | hk
  · refine wpAny_storeName_local hk hn (fun h' hn' hs=>?_) hcls
    obtain ⟨oL,_,_,hoL,_⟩:=id hn
    refine h _ ⟨I.ok,I.os,I.bare,⟨fun b o e n hb hx=>?_,fun b o e n hb hx=>?_,I.base.free,fun b o e hx=>?_,I.base.tups,I.base.frzs,I.base.tbls⟩,⟨_,hn',fun j y v' e1 e2 e3=>?_⟩,fun y c e=>?_,I.free,I.freeC,fun p hp=>?_,tracked ⟨oL,hoL,I.free⟩ hs,by simpa using I.len⟩ ⟨_,hs,.inl rfl⟩
    · exact (hs.2 b (Nat.ne_of_lt (Nat.lt_of_lt_of_le (Heap.lt_size e) I.ok.above))).trans (I.base.keep b o e n hb hx)
    · obtain ⟨sl,e1⟩:=I.base.slot b o e n hb hx
      exact ⟨sl,(hs.2 b (Nat.ne_of_lt (Nat.lt_of_lt_of_le (Heap.lt_size e) I.ok.above))).trans e1⟩
    · obtain ⟨o',e1⟩:=I.base.there b o e hx
      exact ⟨o',(hs.2 b (Nat.ne_of_lt (Nat.lt_of_lt_of_le (Heap.lt_size e) I.ok.above))).trans e1⟩
    · by_cases hj:j=i
      · subst hj
        rw [hi] at e1; cases e1
        rw [List.getElem?_set_self hiσ] at e2
        cases e2
        exact ⟨u,r,.inl ⟨hk,by simp⟩⟩
      · rw [List.getElem?_set_ne (Ne.symm hj)] at e2
        obtain ⟨u',r',q⟩:=hl j y v' e1 e2 e3
        refine ⟨u',r',?_⟩
        rcases q with ⟨k,e⟩ | ⟨k,c,e,z⟩
        · refine .inl ⟨k,?_⟩
          have:y≠x:=fun e=>hj (nodup_ix hN e1 (e ▸ hi))
          simp [this,e]
        · exact .inr ⟨k,c,e,z.sameBut hs (cne y c e)⟩
    · obtain ⟨w',z⟩:=I.cell y c e
      exact ⟨w',z.sameBut hs (cne y c e)⟩
    · obtain ⟨e,n,ne,nf,d⟩:=I.pin p hp
      exact ⟨(hs.2 p.1 ne).trans e,n,ne,nf,d⟩
  · have hfn:X.fn x=true:=by
      rcases hf with z | z
      · exact z
      · rw [z] at hk; cases hk
    obtain ⟨c,hc⟩:=I.ok.has x (.inl hk)
    obtain ⟨w',z⟩:=I.cell x c hc
    refine wpAny_storeName_cell I.ok.kind hk hc z (fun h' hc' hs=>?_)
    obtain ⟨oc,hoc,hocd⟩:=id z
    refine h { s with heap:=h' } ⟨I.ok,I.os,I.bare,⟨fun b o e n hb hx=>?_,fun b o e n hb hx=>?_,I.base.free,fun b o e hx=>?_,I.base.tups,I.base.frzs,I.base.tbls⟩,⟨m,hn.sameBut hs (Ne.symm (cne x c hc)),fun j y v' e1 e2 e3=>?_⟩,fun y c' e=>?_,I.free,I.freeC,fun p hp=>?_,tracked ⟨oc,hoc,I.freeC x c hc⟩ hs,by simpa using I.len⟩ ⟨c,hs,.inr hc⟩
    · exact (hs.2 b (Nat.ne_of_lt (Nat.lt_of_lt_of_le (Heap.lt_size e) (I.ok.cab x c hfn hc)))).trans (I.base.keep b o e n hb hx)
    · obtain ⟨sl,e1⟩:=I.base.slot b o e n hb hx
      exact ⟨sl,(hs.2 b (Nat.ne_of_lt (Nat.lt_of_lt_of_le (Heap.lt_size e) (I.ok.cab x c hfn hc)))).trans e1⟩
    · obtain ⟨o',e1⟩:=I.base.there b o e hx
      exact ⟨o',(hs.2 b (Nat.ne_of_lt (Nat.lt_of_lt_of_le (Heap.lt_size e) (I.ok.cab x c hfn hc)))).trans e1⟩
    · by_cases hj:j=i
      · subst hj
        rw [hi] at e1; cases e1
        rw [List.getElem?_set_self hiσ] at e2
        cases e2
        exact ⟨u,r,.inr ⟨.inl hk,c,hc,hc'⟩⟩
      · rw [List.getElem?_set_ne (Ne.symm hj)] at e2
        obtain ⟨u',r',q⟩:=hl j y v' e1 e2 e3
        refine ⟨u',r',?_⟩
        rcases q with q | ⟨k,c',e,z'⟩
        · exact .inl q
        · refine .inr ⟨k,c',e,z'.sameBut hs ?_⟩
          rintro rfl
          exact hj (nodup_ix hN e1 (I.ok.inj _ _ _ e hc ▸ hi))
    · by_cases hcc:c'=c
      · subst hcc; exact ⟨_,hc'⟩
      · obtain ⟨w2,z2⟩:=I.cell y c' e
        exact ⟨w2,z2.sameBut hs hcc⟩
    · obtain ⟨e,n,ne,nf,d⟩:=I.pin p hp
      refine ⟨(hs.2 p.1 ?_).trans e,n,ne,nf,d⟩
      intro q
      rw [q,hoc] at e
      have q':oc=p.2:=Option.some.inj e
      exact d w' (by rw [← q']; exact hocd)
theorem store_ok {M:Model} {A:Around} {E:Value→Shared→Prop} {i:Nat} {x:Str} {v:V} {u:Value} {Q:Unit→Shared→Prop} (I:Inv X pins σ H s) (hN:X.N.Nodup) (hi:X.N[i]?=some x) (hx:Loc X.env.scope x) (r:RelV v u)
    (h:∀ s',Inv X pins (σ.set i (some v)) H s'→Q () s') (hf:X.fn x=true∨X.env.scope.names.lookup x=some .local:=by first | exact .inl rfl | exact .inr rfl | assumption):wpAny M A (storeName X.env x u) Q E s :=
  store_ok2 I hN hi hx r (fun s' I' _=>h s' I') hf
theorem Inv.call' {s':Shared} {ch:List Addr} (I:Inv X pins σ H s) (ho:s'.os=s.os) (u:Un (frs X.stack) ch H H' s.heap s'.heap) (hok:HOk X.prog X.w H' s'.heap) (hg:AllBare s'.gens)
    (hch:∀ b∈ch,(b∈X.ex∨X.s₀.heap.objs.size≤b)∧b≠X.env.locals∧(∀ x c,X.env.cells.lookup x=some c→c≠b)∧∀ p∈X.pn++pins,p.1≠b):Inv X pins σ H' s':=by
  obtain ⟨h',g',d',t',o'⟩:=s'
  have e:o'=s.os:=ho
  subst e
  exact I.call (g':=g') (t':=t') (d':=d') u hok hg hch
end
abbrev XK:=Value→Option Addr→Hp→Prop
abbrev St:=List (Option V)
abbrev VK:=V→Hp→Prop
abbrev TE:=St→Hp→VK→Prop
abbrev TT:=St→Hp→(Bool→Hp→Prop)→Prop
abbrev TA:=St→Hp→(List V→Hp→Prop)→Prop
structure Ends where
  nx:St→Hp→Prop
  rt:VK
  bk:St→Hp→Prop:=fun _ _=>False
  ct:St→Hp→Prop:=fun _ _=>False
abbrev TS:=Ends→St→Hp→Prop
def EP (X:Cx) (pins:List (Addr × Obj)) (σ:St) (Q:VK) (u:Value) (s':Shared):Prop:=∃ v H',Inv X pins σ H' s'∧RelV v u∧Q v H'
def TP (X:Cx) (pins:List (Addr × Obj)) (σ:St) (Q:Bool→Hp→Prop) (b:Bool) (s':Shared):Prop:=∃ H',Inv X pins σ H' s'∧Q b H'
def AP (X:Cx) (pins:List (Addr × Obj)) (σ:St) (Q:List V→Hp→Prop) (us:List Value) (s':Shared):Prop:=∃ vs H',Inv X pins σ H' s'∧Vals vs us∧Q vs H'
def SP (X:Cx) (pins:List (Addr × Obj)) (D:Ends) (f:Flow) (s':Shared):Prop :=
  match f with
  | .next=>∃ σ' H',Inv X pins σ' H' s'∧D.nx σ' H'
  | .brk=>∃ σ' H',Inv X pins σ' H' s'∧D.bk σ' H'
  | .cont=>∃ σ' H',Inv X pins σ' H' s'∧D.ct σ' H'
  | .ret u=>∃ v σ' H',Inv X pins σ' H' s'∧RelV v u∧D.rt v H'
def PE (X:Cx) (e:Expr) (t:TE):Prop :=
  ∀ (pins:List (Addr × Obj)) (s:Shared) (σ:St) (H:Hp) (Q:VK),Inv X pins σ H s→t σ H Q→wpAny (model X.prog X.w) X.A (eval e X.env) (EP X pins σ Q) X.xe s
def PT (X:Cx) (e:Expr) (t:TT):Prop :=
  ∀ (pins:List (Addr × Obj)) (s:Shared) (σ:St) (H:Hp) (Q:Bool→Hp→Prop),Inv X pins σ H s→t σ H Q→wpAny (model X.prog X.w) X.A (isTrue e X.env (eval e X.env)) (TP X pins σ Q) X.xe s
def PW (X:Cx) (e:Expr) (t:TT):Prop :=
  ∀ (whole:Sem Value) (pins:List (Addr × Obj)) (s:Shared) (σ:St) (H:Hp) (Q:Bool→Hp→Prop),Inv X pins σ H s→t σ H Q→wpAny (model X.prog X.w) X.A (isTrue e X.env whole) (TP X pins σ Q) X.xe s
theorem PW.pt {X:Cx} {e:Expr} {t:TT} (h:PW X e t):PT X e t:=h _
def PA (X:Cx) (es:List Expr) (t:TA):Prop :=
  ∀ (pos:Pos) (pins:List (Addr × Obj)) (s:Shared) (σ:St) (H:Hp) (Q:List V→Hp→Prop),Inv X pins σ H s→t σ H Q→wpAny (model X.prog X.w) X.A (spliced (backTo pos (starEach es X.env))) (AP X pins σ Q) X.xe s
def PS (X:Cx) (st:Stmt) (t:TS):Prop :=
  ∀ (pins:List (Addr × Obj)) (s:Shared) (σ:St) (H:Hp) (D:Ends),Inv X pins σ H s→t D σ H→wpAny (model X.prog X.w) X.A (exec st X.env) (SP X pins D) X.xe s
def PSs (X:Cx) (st:List Stmt) (t:TS):Prop :=
  ∀ (pins:List (Addr × Obj)) (s:Shared) (σ:St) (H:Hp) (D:Ends),Inv X pins σ H s→t D σ H→wpAny (model X.prog X.w) X.A (execs st X.env) (SP X pins D) X.xe s
theorem thn {α:Type} {t:Sem α} {Q Q':α→Shared→Prop} {M:Model} {A:Around} {E:Value→Shared→Prop} {s:Shared} (h:wpAny M A t Q E s) (hQ:∀ a s,Q a s→Q' a s):wpAny M A t Q' E s:=wpAny_mono h hQ fun _ _ x=>x
end L2
namespace L2
open PySem PySem.Spec PyProof.Rows
section
variable {X:Cx}
theorem bin {a b:Expr} {ta tb:TE} (ha:PE X a ta) (hb:PE X b tb) {pins:List (Addr × Obj)} {s:Shared} {σ:St} {H:Hp} {R:V→V→Hp→Prop} (I:Inv X pins σ H s) (h:ta σ H fun x H1=>tb σ H1 fun y H2=>R x y H2)
    {α:Type} {Q:α→Shared→Prop} {f:Value→Value→Sem α}
    (hf:∀ v u s2 x y H2,Inv X pins σ H2 s2→RelV x v→RelV y u→R x y H2→wpAny (model X.prog X.w) X.A (f v u) Q X.xe s2) :
    wpAny (model X.prog X.w) X.A (eval a X.env) (fun v s₁=>wpAny (model X.prog X.w) X.A (eval b X.env) (fun u s₂=>wpAny (model X.prog X.w) X.A (f v u) Q X.xe s₂) X.xe s₁) X.xe s:=by
  refine thn (ha pins s σ H _ I h) fun v s1 ⟨x,H1,I1,r1,q1⟩=>?_
  refine thn (hb pins s1 σ H1 _ I1 q1) fun u s2 ⟨y,H2,I2,r2,q2⟩=>?_
  exact hf v u s2 x y H2 I2 r1 r2 q2
def tVar (i:Nat):TE:=fun σ H Q=>∃ v,σ[i]?=some (some v)∧Q v H
def tC (v:V):TE:=fun _ H Q=>Q v H
theorem pe_var {i:Nat} {x:Str} {pos:Pos} (hN:X.N[i]?=some x) (hv:Vis X.env.scope x) (hd:(x == ("__debug__" : Str))=false:=by decide) (hcd:(x == ("__classdict__" : Str))=false:=by decide):PE X (.Name x pos) (tVar i):=by
  intro pins s σ H Q I h
  obtain ⟨v,e,h⟩:=h
  obtain ⟨m,hn,hl⟩:=I.loc
  obtain ⟨u,r,l⟩:=hl i x v hN e hv
  have fin:EP X pins σ Q u s:=⟨v,H,I,r,h⟩
  rcases l with ⟨hk,hm⟩ | ⟨hk,c,hc,hcell⟩
  · exact wpAny_Name (wpAny_loadName_local I.ok.kind hk hn hm fin) hd
  · rcases hk with hk | hk
    · exact wpAny_Name (wpAny_loadName_cell I.ok.kind hk hc hcell fin) hd
    · exact wpAny_Name (wpAny_loadName_free I.ok.kind hk hc hcell fin hcd) hd
theorem pe_int {i j pos}:PE X (.Constant (.int i) j pos) (tC (.int i)):=fun _ _ _ H _ I h=>wpAny_Constant_int ⟨.int i,H,I.tok _,⟨_,rfl⟩,h⟩
theorem pe_bl {b j pos}:PE X (.Constant (.bool b) j pos) (tC (.bl b)):=fun _ _ _ H _ I h=>Constant_bool ⟨.bl b,H,I,rfl,h⟩
theorem pe_non {j pos}:PE X (.Constant .none j pos) (tC .non):=fun _ _ _ H _ I h=>Constant_none ⟨.non,H,I,rfl,h⟩
theorem pe_str {x j pos}:PE X (.Constant (.str x) j pos) (tC (.str x)):=fun _ _ _ H _ I h=>Calls.Constant_str ⟨.str x,H,I.tok _,⟨_,rfl⟩,h⟩
def Gl (X:Cx) (x:Str):Prop:=X.env.kindOf x=some .globalImplicit
theorem ld_glob {E:Value→Shared→Prop} {pins:List (Addr × Obj)} {s:Shared} {σ:St} {H:Hp} {x:Str} {u:Value} {pos:Pos} {Q:Value→Shared→Prop} (I:Inv X pins σ H s) (hg:Gl X x) (hm:X.mg x=some u) (h:Q u s)
    (hd:(x == ("__debug__" : Str))=false:=by decide):wpAny (model X.prog X.w) X.A (eval (.Name x pos) X.env) Q E s :=
  Calls.Name_function_global I.ok.kind hg (Calls.loadGlobal_global (by rw [I.ok.glob]; exact I.mod.glob.keeps I.bk) hm h) hd
theorem ld_blt {E:Value→Shared→Prop} {pins:List (Addr × Obj)} {s:Shared} {σ:St} {H:Hp} {x:Str} {u:Value} {pos:Pos} {Q:Value→Shared→Prop} (I:Inv X pins σ H s) (hg:Gl X x) (hm:X.mg x=none) (hv:bootBuiltins x=some u) (h:Q u s)
    (hn:x ≠ "__name__":=by decide) (hd:(x == ("__debug__" : Str))=false:=by decide):wpAny (model X.prog X.w) X.A (eval (.Name x pos) X.env) Q E s:=by
  obtain ⟨mb,h1,h2⟩:=I.mod.blt
  exact Calls.Name_function_global I.ok.kind hg (Calls.loadGlobal_builtin (by rw [I.ok.glob]; exact I.mod.glob.keeps I.bk) hm (by rw [I.ok.blt]; exact h1.keeps I.bk) ((h2 x hn).trans hv) h) hd
variable {a b:Expr} {ta tb:TE} {pos:Pos}
def PC (X:Cx) (op:CmpOp) (a b:Expr) (t:TE):Prop :=
  ∀ (pins:List (Addr × Obj)) (s:Shared) (σ:St) (H:Hp) (Q:VK),Inv X pins σ H s→t σ H Q →
    wpAny (model X.prog X.w) X.A (eval a X.env) (fun v s₁=>wpAny (model X.prog X.w) X.A (eval b X.env) (fun u s₂=>wpAny (model X.prog X.w) X.A (compareOp op v u) (EP X pins σ Q) X.xe s₂) X.xe s₁) X.xe s
theorem nobehind (b:Expr) {op:CmpOp} (h:op≠.In) (h2:op≠.NotIn):behindInMarks op b=false:=by
  have e1:(op == CmpOp.In)=false:=by cases op <;> first | rfl | exact absurd rfl h
  have e2:(op == CmpOp.NotIn)=false:=by cases op <;> first | rfl | exact absurd rfl h2
  cases b <;> simp [behindInMarks,e1,e2]
def tB (t:TE):TT:=fun σ H Q=>t σ H fun x H1=>∃ c,x=.bl c∧Q c H1
theorem pt_cmp {op:CmpOp} {t:TE} (h:PC X op a b t) (h1:behindInMarks op b=false:=by first | exact nobehind _ (by decide) (by decide) | rfl):PT X (.Compare a [op] [b] pos) (tB t):=by
  intro pins s σ H Q I hw
  refine wpAny_isTrue_Compare1 (thn (h pins s σ H _ I hw) fun v s1 h1=>thn h1 fun u s2 h2=>thn h2 fun c s3 ⟨x,H1,I1,r1,q1⟩=>?_) h1
  obtain ⟨d,rfl,q⟩:=q1
  cases r1
  exact wpAny_truthy_bool ⟨H1,I1,q⟩
theorem pt_val {e:Expr} {t:TE} (h:PE X e t) (he:∀ whole,isTrue e X.env whole=(do let v ← whole; standAt e.pos; holding [v] (truthy v)):=by intro _; rfl):PT X e (tB t):=by
  intro pins s σ H Q I hw
  refine isTrue_plain (thn (h pins s σ H _ I hw) fun v s1 ⟨x,H1,I1,r1,q1⟩=>?_) (he _)
  obtain ⟨d,rfl,q⟩:=q1
  cases r1
  exact wpAny_truthy_bool ⟨H1,I1,q⟩
variable {tA tB':TT} {rest:List Expr}
def tAnd (t u:TT):TT:=fun σ H Q=>t σ H fun c H1=>if c=true then u σ H1 Q else Q false H1
def tNot (t:TT):TT:=fun σ H Q=>t σ H fun c H1=>Q (!c) H1
theorem pw_and1 (ha:PT X a tA):PW X (.BoolOp .And [a] pos) tA:=by
  intro wh pins s σ H Q I h
  refine isTrue_and (thn (ha pins s σ H Q I h) fun c s1 e=>?_)
  cases c with
  | true=>exact isTrue_and_nil e
  | false=>exact e
theorem pw_and (ha:PT X a tA) (hb:PW X (.BoolOp .And (b :: rest) pos) tB'):PW X (.BoolOp .And (a :: b :: rest) pos) (tAnd tA tB'):=by
  intro wh pins s σ H Q I h
  refine isTrue_and (thn (ha pins s σ H _ I h) fun c s1 ⟨H1,I1,q1⟩=>?_)
  cases c with
  | true=>exact hb wh pins s1 σ H1 Q I1 q1
  | false=>exact ⟨H1,I1,q1⟩
theorem pt_not (ha:PT X a tA):PT X (.UnaryOp .Not a pos) (tNot tA):=by
  intro pins s σ H Q I h
  exact isTrue_not (ha pins s σ H (fun c H1=>Q (!c) H1) I h)
def tAndV (ta tb:TE):TE:=fun σ H Q=>ta σ H fun x H1=>∃ c,x=.bl c∧if c=true then tb σ H1 Q else Q (.bl false) H1
def tOrV (ta tb:TE):TE:=fun σ H Q=>ta σ H fun x H1=>∃ c,x=.bl c∧if c=true then Q (.bl true) H1 else tb σ H1 Q
theorem pe_one {op} {t:TE} (h:PE X a t):PE X (.BoolOp op [a] pos) t:=fun pins s σ H Q I hw=>BoolOp_one (h pins s σ H Q I hw)
theorem pe_and (ha:PE X a ta) (hb:PE X (.BoolOp .And (b :: rest) pos) tb):PE X (.BoolOp .And (a :: b :: rest) pos) (tAndV ta tb):=by
  intro pins s σ H Q I h
  refine BoolOp_and (thn (ha pins s σ H _ I h) fun v s1 ⟨x,H1,I1,r1,q1⟩=>?_)
  obtain ⟨c,rfl,q1⟩:=q1
  cases r1
  refine wpAny_truthy_bool ?_
  cases c with
  | true=>exact hb pins s1 σ H1 Q I1 q1
  | false=>exact ⟨.bl false,H1,I1,rfl,q1⟩
theorem pe_or (ha:PE X a ta) (hb:PE X (.BoolOp .Or (b :: rest) pos) tb):PE X (.BoolOp .Or (a :: b :: rest) pos) (tOrV ta tb):=by
  intro pins s σ H Q I h
  refine BoolOp_or (thn (ha pins s σ H _ I h) fun v s1 ⟨x,H1,I1,r1,q1⟩=>?_)
  obtain ⟨c,rfl,q1⟩:=q1
  cases r1
  refine wpAny_truthy_bool ?_
  cases c with
  | false=>exact hb pins s1 σ H1 Q I1 q1
  | true=>exact ⟨.bl true,H1,I1,rfl,q1⟩
def tIf (t:TT) (ta tb:TE):TE:=fun σ H Q=>t σ H fun c H1=>if c=true then ta σ H1 Q else tb σ H1 Q
theorem pe_ifExp {c:Expr} (hc:PT X c tA) (ha:PE X a ta) (hb:PE X b tb):PE X (.IfExp c a b pos) (tIf tA ta tb):=by
  intro pins s σ H Q I h
  refine wpAny_IfExp (thn (hc pins s σ H _ I h) fun d s1 ⟨H1,I1,q1⟩=>?_)
  cases d with
  | true=>exact ha pins s1 σ H1 Q I1 q1
  | false=>exact hb pins s1 σ H1 Q I1 q1
end
end L2
namespace L2
open PySem PySem.Spec PyProof.Rows
def SqL (K:PySem.W.Frag) (H:Hp) (a:Addr) (xs:List V):Prop :=
  Rd H a (.lst xs) ∨
    ∃ (o:Obj) (its:Array Value) (n:Nat),K.lookup a=some o∧o.cls=.type "list"∧o.dict=none∧o.data=.seq its n∧its.size≤sizeLine∧Vals xs its.toList
def SqT (K:PySem.W.Frag) (H:Hp) (a:Addr) (xs:List V):Prop :=
  Rd H a (.tup xs) ∨
    ∃ (o:Obj) (its:Array Value) (n:Nat),K.lookup a=some o∧o.cls=.type "tuple"∧o.data=.seq its n∧its.size≤sizeLine∧Vals xs its.toList
def absV:Value→Option V
  | .none=>some .non
  | .bool b=>some (.bl b)
  | .int i _=>some (.int i)
  | .str x _=>some (.str x)
  | .bytes b _=>some (.byt b)
  | .float b _=>some (.flt b)
  | .ref a=>some (.ref a)
  | .type n=>some (.ty n)
  | _=>none
theorem RelV.abs {x:V} {u:Value} (r:RelV x u):absV u=some x:=by
  cases x with
  | non=>cases r; rfl
  | bl _=>cases r; rfl
  | int _=>obtain ⟨t,rfl⟩:=r; rfl
  | str _=>obtain ⟨t,rfl⟩:=r; rfl
  | byt _=>obtain ⟨t,rfl⟩:=r; rfl
  | flt _=>obtain ⟨t,rfl⟩:=r; rfl
  | ref _=>cases r; rfl
  | ty _=>cases r; rfl
theorem RelV.inj {x y:V} {u:Value} (r:RelV x u) (q:RelV y u):x=y:=Option.some.inj (r.abs.symm.trans q.abs)
theorem Vals.inj:∀ {xs ys:List V} {us:List Value},Vals xs us→Vals ys us→xs=ys
  | _,_,_,.nil,.nil=>rfl
  | _,_,_,.cons r t,.cons r' t'=>by rw [r.inj r',Vals.inj t t']
section
variable {X:Cx} {pins:List (Addr × Obj)} {σ:St} {H:Hp} {s:Shared} {a:Addr} {xs ys:List V}
theorem SqL.of {K:PySem.W.Frag} (h:H a=some (.lst xs)):SqL K H a xs:=.inl (.inl h)
theorem SqT.of {K:PySem.W.Frag} (h:H a=some (.tup xs)):SqT K H a xs:=.inl (.inl h)
theorem Inv.list (I:Inv X pins σ H s) (h:SqL X.K H a xs):∃ its:List Value,Vals xs its∧PlainL s.heap a its.toArray∧xs.length≤sizeLine:=by
  rcases h with h | ⟨o,its,n,hk,hc,hd,hs,hz,r⟩
  · obtain ⟨z,its,n,r,e⟩:=h.ok I.hok
    exact ⟨its,r,⟨_,n,e,rfl,rfl,rfl⟩,z⟩
  · refine ⟨its.toList,r,⟨o,n,I.kIn a o hk,hc,hd,by simpa using hs⟩,?_⟩
    have e:=r.length
    simp only [Array.length_toList] at e
    omega
theorem Inv.tuple (I:Inv X pins σ H s) (h:SqT X.K H a xs):∃ its:List Value,Vals xs its∧IsTup s.heap a its.toArray∧xs.length≤sizeLine:=by
  rcases h with h | ⟨o,its,n,hk,hc,hs,hz,r⟩
  · obtain ⟨z,its,r,p⟩:=h.ok I.hok
    exact ⟨its,r,p,z⟩
  · refine ⟨its.toList,r,⟨o,I.kIn a o hk,hc,n,by simpa using hs⟩,?_⟩
    have e:=r.length
    simp only [Array.length_toList] at e
    omega
theorem Inv.list_inj (I:Inv X pins σ H s) (h:SqL X.K H a xs) (h':SqL X.K H a ys):xs=ys:=by
  obtain ⟨its,r,⟨o,n,e,_,_,d⟩,_⟩:=I.list h
  obtain ⟨its',r',⟨o',n',e',_,_,d'⟩,_⟩:=I.list h'
  rw [e] at e'; cases e'
  rw [d] at d'
  injection d' with d1 _
  have:its=its':=by simpa using congrArg Array.toList d1
  subst this
  exact r.inj r'
theorem Inv.tuple_inj (I:Inv X pins σ H s) (h:SqT X.K H a xs) (h':SqT X.K H a ys):xs=ys:=by
  obtain ⟨its,r,⟨o,e,_,n,d⟩,_⟩:=I.tuple h
  obtain ⟨its',r',⟨o',e',_,n',d'⟩,_⟩:=I.tuple h'
  rw [e] at e'; cases e'
  rw [d] at d'
  injection d' with d1 _
  have:its=its':=by simpa using congrArg Array.toList d1
  subst this
  exact r.inj r'
end
abbrev Cx.wish (X:Cx) (E:Value→Shared→Prop):Cx:={ X with xe:=E }
abbrev Cx.nox (X:Cx):Cx:=X.wish fun _ _=>False
theorem Cx.Ok.wish {X:Cx} (ok:X.Ok) (E:Value→Shared→Prop):(X.wish E).Ok :=
  ⟨ok.mod,ok.kind,ok.glob,ok.blt,ok.above,ok.inj,ok.has,ok.cab,ok.hd,ok.frames,ok.stk,ok.exf,ok.bs,ok.bsz,ok.noex,ok.exfs,ok.funs,ok.frf⟩
theorem Cx.Ok.unwish {X:Cx} {E:Value→Shared→Prop} (ok:(X.wish E).Ok):X.Ok :=
  ⟨ok.mod,ok.kind,ok.glob,ok.blt,ok.above,ok.inj,ok.has,ok.cab,ok.hd,ok.frames,ok.stk,ok.exf,ok.bs,ok.bsz,ok.noex,ok.exfs,ok.funs,ok.frf⟩
section
variable {X:Cx} {pins:List (Addr × Obj)} {σ:St} {H:Hp} {s:Shared} {E:Value→Shared→Prop}
theorem Inv.wish (I:Inv X pins σ H s) (E:Value→Shared→Prop):Inv (X.wish E) pins σ H s:=⟨I.ok.wish E,I.os,I.bare,I.base,I.loc,I.cell,I.free,I.freeC,I.pin,I.hok,I.len⟩
theorem Inv.unwish (I:Inv (X.wish E) pins σ H s):Inv X pins σ H s:=⟨I.ok.unwish,I.os,I.bare,I.base,I.loc,I.cell,I.free,I.freeC,I.pin,I.hok,I.len⟩
theorem SP.unwish {D:Ends} {f:Flow} {s':Shared} (h:SP (X.wish E) pins D f s'):SP X pins D f s':=by
  cases f with
  | next=>obtain ⟨σ',H',I,q⟩:=h; exact ⟨σ',H',I.unwish,q⟩
  | brk=>obtain ⟨σ',H',I,q⟩:=h; exact ⟨σ',H',I.unwish,q⟩
  | cont=>obtain ⟨σ',H',I,q⟩:=h; exact ⟨σ',H',I.unwish,q⟩
  | ret u=>obtain ⟨v,σ',H',I,r,q⟩:=h; exact ⟨v,σ',H',I.unwish,r,q⟩
theorem PE.nox {e:Expr} {t:TE} (h:PE X.nox e t):PE X e t:=fun pins s σ H Q I hw =>
  wpAny_mono (h pins s σ H Q (I.wish _) hw) (fun _ _ ⟨v,H',I',r,q⟩=>⟨v,H',I'.unwish,r,q⟩) fun _ _ z=>False.elim z
theorem PT.nox {e:Expr} {t:TT} (h:PT X.nox e t):PT X e t:=fun pins s σ H Q I hw =>
  wpAny_mono (h pins s σ H Q (I.wish _) hw) (fun _ _ ⟨H',I',q⟩=>⟨H',I'.unwish,q⟩) fun _ _ z=>False.elim z
theorem PSs.nox {st:List Stmt} {t:TS} (h:PSs X.nox st t):PSs X st t:=fun pins s σ H D I hw =>
  wpAny_mono (h pins s σ H D (I.wish _) hw) (fun _ _ q=>q.unwish) fun _ _ z=>False.elim z
end
section
variable {X:Cx} {st:Stmt} {rest:List Stmt} {t u:TS} {e:Expr} {te:TE} {pos:Pos}
def tNext:TS:=fun D σ H=>D.nx σ H
def tSeq (t u:TS):TS:=fun D σ H=>t { D with nx:=u D } σ H
theorem pss_nil:PSs X [] tNext:=fun _ _ σ H _ I h=>wpAny_execs_nil ⟨σ,H,I,h⟩
theorem pss_cons (h1:PS X st t) (h2:PSs X rest u):PSs X (st :: rest) (tSeq t u):=by
  intro pins s σ H D I h
  refine wpAny_execs_cons (thn (h1 pins s σ H { D with nx:=u D } I h) fun f s1 q=>?_)
  cases f with
  | next =>
    obtain ⟨σ',H',I',q⟩:=q
    exact h2 pins s1 σ' H' D I' q
  | ret v=>exact q
  | brk=>exact q
  | cont=>exact q
theorem pss_one (h1:PS X st t):PSs X [st] t:=by
  intro pins s σ H D I h
  refine wpAny_execs_cons (thn (h1 pins s σ H D I h) fun f s1 q=>?_)
  cases f with
  | next=>exact wpAny_execs_nil q
  | ret v=>exact q
  | brk=>exact q
  | cont=>exact q
theorem Inv.quiet {pins:List (Addr × Obj)} {σ:St} {H:Hp} {s:Shared} (I:Inv X pins σ H s):interactive X.env=false:=by simp [interactive,I.ok.kind]
def tDrop (te:TE):TS:=fun D σ H=>te σ H fun _ H1=>D.nx σ H1
theorem ps_expr (he:PE X e te) (hs:swapsWith e none pos.line X.env=pure false:=by rfl):PS X (.Expr e pos) (tDrop te):=by
  intro pins s σ H D I h
  exact wpAny_Expr_any (thn (he pins s σ H _ I h) fun v s1 ⟨x,H1,I1,r1,q1⟩=>⟨σ,H1,I1,q1⟩) I.quiet hs
def tRet (te:TE):TS:=fun D σ H=>te σ H D.rt
theorem ps_ret (he:PE X e te):PS X (.Return (some e) pos) (tRet te):=by
  intro pins s σ H D I h
  exact wpAny_Return_some (thn (he pins s σ H _ I h) fun v s1 ⟨x,H1,I1,r1,q1⟩=>⟨x,σ,H1,I1,r1,q1⟩)
def tIfS (c:TT) (t u:TS):TS:=fun D σ H=>c σ H fun b H1=>if b=true then t D σ H1 else u D σ H1
theorem ps_if {c:Expr} {a b:List Stmt} {tc:TT} (hc:PT X c tc) (ha:PSs X a t) (hb:PSs X b u):PS X (.If c a b pos) (tIfS tc t u):=by
  intro pins s σ H D I h
  refine wpAny_If (thn (hc pins s σ H _ I h) fun d s1 ⟨H1,I1,q1⟩=>?_)
  cases d with
  | true=>exact ha pins s1 σ H1 D I1 q1
  | false=>exact hb pins s1 σ H1 D I1 q1
end
abbrev TG:=V→St→Hp→(St→Hp→Prop)→Prop
abbrev TGs:=List V→St→Hp→(St→Hp→Prop)→Prop
def PG (X:Cx) (target:Expr) (t:TG):Prop :=
  ∀ (pins:List (Addr × Obj)) (s:Shared) (σ:St) (H:Hp) (v:V) (u:Value) (Q:St→Hp→Prop),Inv X pins σ H s→RelV v u→t v σ H Q →
    wpAny (model X.prog X.w) X.A (assign target X.env u) (fun _ s'=>∃ σ' H',Inv X pins σ' H' s'∧Q σ' H') X.xe s
def PGs (X:Cx) (ts:List Expr) (t:TGs):Prop :=
  ∀ (pins:List (Addr × Obj)) (s:Shared) (σ:St) (H:Hp) (vs:List V) (us:List Value) (Q:St→Hp→Prop),Inv X pins σ H s→Vals vs us→t vs σ H Q →
    wpAny (model X.prog X.w) X.A (assignInOrder ((assignEach ts X.env).map (·.2)) us) (fun _ s'=>∃ σ' H',Inv X pins σ' H' s'∧Q σ' H') X.xe s
abbrev TSet:=V→V→V→Hp→(Hp→Prop)→Prop
def PSet (X:Cx) (t:TSet):Prop :=
  ∀ (pins:List (Addr × Obj)) (s:Shared) (σ:St) (H:Hp) (o i v:V) (ov iv u:Value) (Q:Hp→Prop),Inv X pins σ H s→RelV o ov→RelV i iv→RelV v u→t o i v H Q →
    wpAny (model X.prog X.w) X.A (setItem ov iv u) (fun _ s'=>∃ H',Inv X pins σ H' s'∧Q H') X.xe s
section
variable {X:Cx} {pos:Pos}
def gName (i:Nat):TG:=fun v σ H Q=>Q (σ.set i (some v)) H
theorem pg_name {i:Nat} {x:Str} (hN:X.N.Nodup) (hi:X.N[i]?=some x) (hx:Loc X.env.scope x) (hf:X.fn x=true∨X.env.scope.names.lookup x=some .local:=by first | exact .inl rfl | exact .inr rfl | assumption):PG X (.Name x pos) (gName i):=by
  intro pins s σ H v u Q I r h
  exact wpAny_assign_Name (store_ok I hN hi hx r (fun s' I'=>⟨_,H,I',h⟩) hf)
def gNil:TGs:=fun vs σ H Q=>vs=[]∧Q σ H
def gCons (t:TG) (u:TGs):TGs:=fun vs σ H Q=>∃ v r,vs=v :: r∧t v σ H fun σ' H'=>u r σ' H' Q
theorem pgs_nil:PGs X [] gNil:=by
  intro pins s σ H vs us Q I r h
  obtain ⟨e,h⟩:=h
  subst e
  cases r
  exact assignInOrder_nil ⟨σ,H,I,h⟩
theorem pgs_cons {e:Expr} {es:List Expr} {t:TG} {u:TGs} (h1:PG X e t) (h2:PGs X es u)
    (hs:(assignEach (e :: es) X.env).map (·.2)=assign e X.env :: (assignEach es X.env).map (·.2):=by rfl):PGs X (e :: es) (gCons t u):=by
  intro pins s σ H vs us Q I r h
  obtain ⟨v,vr,e1,h⟩:=h
  subst e1
  cases r with
  | cons r rr =>
    rw [hs]
    refine assignInOrder_cons (thn (h1 pins s σ H _ _ _ I r h) fun _ s1 ⟨σ1,H1,I1,q1⟩=>?_)
    exact h2 pins s1 σ1 H1 _ _ Q I1 rr q1
def gTup (K:PySem.W.Frag) (n:Nat) (t:TGs):TG:=fun v σ H Q=>∃ a xs,v=.ref a∧SqT K H a xs∧xs.length=n∧t xs σ H Q
theorem pg_tup {es:List Expr} {k:Nat} {t:TGs} {n:Nat} (hc:X.calm=true) (h:PGs X es t)
    (hn:(assignEach es X.env).length=n:=by rfl) (hst:(assignEach es X.env).findIdx? (·.1)=none:=by rfl):PG X (.Tuple es k pos) (gTup X.K n t):=by
  intro pins s σ H v u Q I r hw
  obtain ⟨a,xs,e1,hq,hl,hw⟩:=hw
  subst e1
  cases r
  obtain ⟨its,rv,ht,hz⟩:=I.tuple hq
  refine assign_Tuple_tuple (I.ok.hd hc) ht (by simp [hn,← hl,rv.length]) hst fun h' hx=>?_
  have I1:Inv X pins σ H { s with heap:=h' }:=I.kept (t':=s.toks) fun b o e=>hx b o (Nat.ne_of_lt (Heap.lt_size e)) e
  exact h pins _ σ H xs _ Q I1 (by simpa using rv) hw
def gSub (to ti:TE) (t:TSet):TG:=fun v σ H Q=>to σ H fun o H1=>ti σ H1 fun i H2=>t o i v H2 fun H3=>Q σ H3
theorem pg_sub {o i:Expr} {to ti:TE} {t:TSet} (ho:PE X o to) (hi:PE X i ti) (hs:PSet X t)
    (ha:∀ v,assign (.Subscript o i pos) X.env v=(do
      let ov ← holding [v] (eval o X.env)
      let iv ← holding [v,ov] (eval i X.env)
      standAt pos
      holding [v,ov,iv] (setItem ov iv v)
      release [v,ov,iv] []):=by intro _; rfl):PG X (.Subscript o i pos) (gSub to ti t):=by
  intro pins s σ H v u Q I r h
  rw [ha]
  refine wpAny_bind (wpAny_holding (thn (ho pins s σ H _ I h) fun ov s1 ⟨x,H1,I1,r1,q1⟩=>?_))
  refine wpAny_bind (wpAny_holding (thn (hi pins s1 σ H1 _ I1 q1) fun iv s2 ⟨y,H2,I2,r2,q2⟩=>?_))
  refine wpAny_bind (wpAny_standAt (wpAny_bind (wpAny_holding (thn (hs pins s2 σ H2 x y v ov iv u _ I2 r1 r2 r q2) fun _ s3 ⟨H3,I3,q3⟩=>?_))))
  exact wpAny_release ⟨σ,H3,I3,q3⟩
def tAsg (te:TE) (g:TG):TS:=fun D σ H=>te σ H fun x H1=>g x σ H1 D.nx
theorem ps_asg {tg e:Expr} {te:TE} {g:TG} (he:PE X e te) (hg:PG X tg g) (hs:swapsWithSole [tg] e pos.line X.env=pure false:=by rfl) (hw:swappedStores [tg] e X.env=pure none:=by rfl)
    (h1:(assignEach [tg] X.env).map (·.2)=[assign tg X.env]:=by rfl):PS X (.Assign [tg] e pos) (tAsg te g):=by
  intro pins s σ H D I h
  refine wpAny_Assign_stores (thn (he pins s σ H _ I h) fun v s1 ⟨x,H1,I1,r1,q1⟩=>?_) hs hw
  rw [h1]
  exact thn (hg pins s1 σ H1 x v _ I1 r1 q1) fun _ s2 q=>q
theorem ps_set {i:Nat} {x:Str} {e:Expr} {te:TE} {pos':Pos} (hN:X.N.Nodup) (hi:X.N[i]?=some x) (hx:Loc X.env.scope x) (he:PE X e te) (hs:swapsWith e (some (.Name x pos')) pos.line X.env=pure false:=by rfl) (hf:X.fn x=true∨X.env.scope.names.lookup x=some .local:=by first | exact .inl rfl | exact .inr rfl | assumption) :
    PS X (.Assign [.Name x pos'] e pos) (tAsg te (gName i)):=by
  intro pins s σ H D I h
  refine wpAny_Assign_Name (thn (he pins s σ H _ I h) fun v s1 ⟨y,H1,I1,r1,q1⟩=>?_) hs
  exact store_ok I1 hN hi hx r1 (fun s2 I2=>⟨_,H1,I2,q1⟩) hf
end
section
variable {X:Cx} {pos:Pos}
def tWhile (c:TT) (tb:TS):TS:=fun D σ H=>∃ W:Nat→St→Hp→Prop,(∃ m,W m σ H)∧∀ m σ H,W m σ H →
  c σ H fun b H1=>if b=true then ∃ N:St→Hp→Prop,(∀ σ' H',N σ' H'→∃ m',m' < m∧W m' σ' H')∧tb { D with nx:=N,ct:=N,bk:=D.nx } σ H1 else D.nx σ H1
theorem ps_while {c:Expr} {body:List Stmt} {tc:TT} {tb:TS} (hp:PassesOwn (model X.prog X.w) X.A X.env X.xe) (hc:PT X c tc) (hb:PSs X body tb):PS X (.While c body [] pos) (tWhile tc tb):=by
  intro pins s σ H D I h
  obtain ⟨W,⟨m0,w0⟩,turn⟩:=h
  refine wpAny_While (codeAny_whileLoop (fun n s'=>∃ σ' H',Inv X pins σ' H' s'∧W n σ' H') ?_ m0 ⟨σ,H,I,w0⟩)
  rintro n s1 ⟨σ1,H1,I1,w1⟩
  refine wpAny_passesOwn hp (thn (hc pins s1 σ1 H1 _ I1 (turn n σ1 H1 w1)) fun b s2 ⟨H2,I2,q2⟩=>?_)
  cases b with
  | true =>
    obtain ⟨N,hN,q2⟩:=q2
    rw [if_pos rfl]
    refine wpAny_passesOwn hp (thn (hb pins s2 σ1 H2 _ I2 q2) fun f s3 q3=>?_)
    cases f with
    | next =>
      obtain ⟨σ3,H3,I3,n3⟩:=q3
      obtain ⟨m',hm,w3⟩:=hN σ3 H3 n3
      exact ⟨m',hm,σ3,H3,I3,w3⟩
    | cont =>
      obtain ⟨σ3,H3,I3,n3⟩:=q3
      obtain ⟨m',hm,w3⟩:=hN σ3 H3 n3
      exact ⟨m',hm,σ3,H3,I3,w3⟩
    | brk=>exact q3
    | ret v=>exact q3
  | false =>
    rw [if_neg Bool.false_ne_true]
    exact wpAny_execs_nil ⟨σ1,H2,I2,q2⟩
end
structure It where
  go:Nat→Hp→Prop
  yld:Nat→Hp→V→Hp→Prop
  stop:Nat→Hp→Prop
def FpOk (X:Cx) (pins:List (Addr × Obj)) (H:Hp) (b:Addr):Prop :=
  H b=none∧b≠X.env.locals∧b ∉ X.fs∧(b∈X.ex∨X.s₀.heap.objs.size≤b)∧(∀ x c,X.env.cells.lookup x=some c→c≠b)∧∀ p∈X.pn++pins,p.1≠b
theorem Inv.fpOk {X:Cx} {pins:List (Addr × Obj)} {σ:St} {H H':Hp} {s:Shared} {b:Addr} (I:Inv X pins σ H s) (hb:s.heap.objs.size≤b) (hn:H' b=none):FpOk X pins H' b:=by
  refine ⟨hn,Nat.ne_of_gt (Nat.lt_of_lt_of_le I.lt hb),I.nofs hb,.inr (Nat.le_trans I.sz hb),fun x c e z=>?_,fun p hp z=>?_⟩
  · obtain ⟨v,q⟩:=I.cell x c e
    exact absurd (Nat.lt_of_lt_of_le q.lt (by rw [z]; exact hb)) (Nat.lt_irrefl _)
  · exact absurd (Nat.lt_of_lt_of_le (Heap.lt_size (I.pin p hp).1) (by rw [z]; exact hb)) (Nat.lt_irrefl _)
structure Turn (P:Program) (w:World) (K:PySem.W.Frag) (tg:Expr) (J:It) (fp:List Addr) (it:Addr) (tn:Nat→Heap→Prop):Prop where
  mem:it∈fp
  obj:∀ i h,tn i h→∀ b∈fp,∃ o,h.get? b=some o∧∀ v,o.data≠.cell v
  keep:∀ i h h',tn i h→(∀ b∈fp,∀ o,h.get? b=some o→h'.get? b=some o)→tn i h'
  item:∀ (X:Cx),X.prog=P→X.w=w→X.K=K→X.calm=true→∀ (i:Nat) (pins:List (Addr × Obj)) (s:Shared) (σ:St) (H:Hp) (E:Value→Shared→Prop),Inv X pins σ H s→(∀ b∈fp,FpOk X pins H b)→tn i s.heap→J.go i H →
    wpAny (model P w) X.A (pyNext (.ref it)) (fun r s1=>∃ u,r=some u ∧
      wpAny (model P w) X.A (letOwnedTupleGo tg (.ref it) u) (fun _ s2=>∃ x H',Inv X pins σ H' s2∧RelV x u∧J.yld i H x H'∧tn (i+1) s2.heap∧∀ b∈fp,H' b=none) E s1) E s
  done:∀ (X:Cx),X.prog=P→X.w=w→X.K=K→X.calm=true→∀ (i:Nat) (pins:List (Addr × Obj)) (s:Shared) (σ:St) (H:Hp) (E:Value→Shared→Prop),Inv X pins σ H s→(∀ b∈fp,FpOk X pins H b)→tn i s.heap→J.stop i H →
    wpAny (model P w) X.A (pyNext (.ref it)) (fun r s1=>r=none∧Inv X pins σ H s1) E s
  self:∀ (A:Around) (i:Nat) (s:Shared) (Q:Value→Shared→Prop) (E:Value→Shared→Prop),tn i s.heap→Q (.ref it) s→wpAny (model P w) A (pyIter (.ref it)) Q E s
abbrev TI:=St→Hp→(It→Hp→Prop)→Prop
def PIE (X:Cx) (pins:List (Addr × Obj)) (σ:St) (tg:Expr) (R:It→Hp→Prop) (itv:Value) (s2:Shared):Prop :=
  ∃ (it:Addr) (fp:List Addr) (tn:Nat→Heap→Prop) (J:It) (H':Hp),itv=.ref it∧Inv X pins σ H' s2∧Turn X.prog X.w X.K tg J fp it tn∧tn 0 s2.heap∧(∀ b∈fp,FpOk X pins H' b)∧R J H'
def PI (X:Cx) (tg iter:Expr) (wi:TI):Prop :=
  ∀ (pins:List (Addr × Obj)) (s:Shared) (σ:St) (H:Hp) (R:It→Hp→Prop),Inv X pins σ H s→wi σ H R →
    wpAny (model X.prog X.w) X.A (eval iter X.env) (fun v s1=>wpAny (model X.prog X.w) X.A (pyIter v) (PIE X pins σ tg R) X.xe s1) X.xe s
theorem go_of {M:Model} {A:Around} {E:Value→Shared→Prop} {s:Shared} {tg:Expr} {it:Addr} {u:Value} {o:Obj} {n:String} {vs:Array Value} {Q:Unit→Shared→Prop} (ho:s.heap.get? it=some o) (hc:o.cls=.type n) (hd:o.data=.fields vs)
    (hn:["enumerate", "zip", "dict_itemiterator", "dict_reverseitemiterator", "odict_iterator", "itertools.zip_longest", "itertools.pairwise"].contains n=false) (hQ:Q () s):wpAny M A (letOwnedTupleGo tg (.ref it) u) Q E s:=by
  unfold letOwnedTupleGo
  cases tg <;> first
    | exact wpAny_pure hQ
    | (cases u <;> first
        | exact wpAny_pure hQ
        | (refine wpAny_bind (wpAny_load ho ?_)
           rw [hc,hd]
           show wpAny M A (if (["enumerate", "zip", "dict_itemiterator", "dict_reverseitemiterator", "odict_iterator", "itertools.zip_longest", "itertools.pairwise"].contains n && vs[0]? == some (rawInt _))=true then _ else _) Q E s
           rw [if_neg (by intro h; rw [hn,Bool.false_and] at h; cases h)]
           exact wpAny_pure hQ))
def Itl (K:PySem.W.Frag) (a:Addr):It :=
  ⟨fun i H=>∃ xs x,SqL K H a xs∧xs[i]?=some x,fun i H x H'=>H'=H∧∀ xs,SqL K H a xs→xs[i]?=some x,fun i H=>∃ xs,SqL K H a xs∧xs.length≤i⟩
def Itt (K:PySem.W.Frag) (a:Addr):It :=
  ⟨fun i H=>∃ xs x,SqT K H a xs∧xs[i]?=some x,fun i H x H'=>H'=H∧∀ xs,SqT K H a xs→xs[i]?=some x,fun i H=>∃ xs,SqT K H a xs∧xs.length≤i⟩
def Itr (lo:Int) (n:Nat):It:=⟨fun i _=>i < n,fun i H x H'=>H'=H∧x=.int (lo+i),fun i _=>n≤i⟩
theorem turn_list {P:Program} {w:World} {K:PySem.W.Frag} {tg:Expr} (a it:Addr):Turn P w K tg (Itl K a) [it] it (fun i h=>h.IsListIter it a i) where
  mem:=by simp
  obj:=fun i h st b hb=>by
    have e:b=it:=by simpa using hb
    subst e
    obtain ⟨o,e,c,d⟩:=st
    exact ⟨o,e,fun v z=>by rw [d] at z; cases z⟩
  keep:=fun i h h' st k=>st.at fun o e=>k it (by simp) o e
  item:=by
    intro X hP hw hK hc i pins s σ H E I hf st hg
    subst hP hw hK
    obtain ⟨xs,x,hq,hx⟩:=hg
    obtain ⟨its,rv,p,hz⟩:=I.list hq
    obtain ⟨u,hu,ru⟩:=rv.get hx
    obtain ⟨f0,f1,f2,f3,f4,f5⟩:=hf it (by simp)
    refine wpAny_pyNext_list_item st p.isList (x:=u) (by simpa using hu) fun h' st' sb=>?_
    have I1:Inv X pins σ H { s with heap:=h' }:=I.turned (t':=s.toks) (fun b o hb e=>(sb.2 b hb).trans e) f0 f1 f3 f4 f5
    obtain ⟨o,e,c,d⟩:=id st'
    exact ⟨u,rfl,go_of (s:={ s with heap:=h' }) e c d (by decide) ⟨x,H,I1,ru,⟨rfl,fun ys hy=>by rw [I.list_inj hy hq]; exact hx⟩,st',fun b hb=>(hf b hb).1⟩⟩
  done:=by
    intro X hP hw hK hc i pins s σ H E I hf st hg
    subst hP hw hK
    obtain ⟨xs,hq,hx⟩:=hg
    obtain ⟨its,rv,p,hz⟩:=I.list hq
    obtain ⟨f0,f1,f2,f3,f4,f5⟩:=hf it (by simp)
    have hl:=rv.length
    exact wpAny_pyNext_list_end (I.ok.hd hc) st p.isList (by simp; omega) fun h' eb=>⟨rfl,I.turned (t':=s.toks) (fun b o hb e=>eb b o hb e) f0 f1 f3 f4 f5⟩
  self:=fun _ _ _ _ _ st h=>wpAny_pyIter_listiter st h
theorem turn_tuple {P:Program} {w:World} {K:PySem.W.Frag} {tg:Expr} (a it:Addr):Turn P w K tg (Itt K a) [it] it (fun i h=>h.IsTupleIter it a i) where
  mem:=by simp
  obj:=fun i h st b hb=>by
    have e:b=it:=by simpa using hb
    subst e
    obtain ⟨o,e,c,d⟩:=st
    exact ⟨o,e,fun v z=>by rw [d] at z; cases z⟩
  keep:=fun i h h' st k=>st.at fun o e=>k it (by simp) o e
  item:=by
    intro X hP hw hK hc i pins s σ H E I hf st hg
    subst hP hw hK
    obtain ⟨xs,x,hq,hx⟩:=hg
    obtain ⟨its,rv,p,hz⟩:=I.tuple hq
    obtain ⟨u,hu,ru⟩:=rv.get hx
    obtain ⟨f0,f1,f2,f3,f4,f5⟩:=hf it (by simp)
    refine wpAny_pyNext_tuple_item st (show s.heap.IsTuple a its.toArray from p) (x:=u) (by simpa using hu) fun h' st' sb=>?_
    have I1:Inv X pins σ H { s with heap:=h' }:=I.turned (t':=s.toks) (fun b o hb e=>(sb.2 b hb).trans e) f0 f1 f3 f4 f5
    obtain ⟨o,e,c,d⟩:=id st'
    exact ⟨u,rfl,go_of (s:={ s with heap:=h' }) e c d (by decide) ⟨x,H,I1,ru,⟨rfl,fun ys hy=>by rw [I.tuple_inj hy hq]; exact hx⟩,st',fun b hb=>(hf b hb).1⟩⟩
  done:=by
    intro X hP hw hK hc i pins s σ H E I hf st hg
    subst hP hw hK
    obtain ⟨xs,hq,hx⟩:=hg
    obtain ⟨its,rv,p,hz⟩:=I.tuple hq
    obtain ⟨f0,f1,f2,f3,f4,f5⟩:=hf it (by simp)
    have hl:=rv.length
    exact wpAny_pyNext_tuple_end (I.ok.hd hc) st (show s.heap.IsTuple a its.toArray from p) (by simp; omega) fun h' eb=>⟨rfl,I.turned (t':=s.toks) (fun b o hb e=>eb b o hb e) f0 f1 f3 f4 f5⟩
  self:=fun _ _ _ _ _ st h=>wpAny_pyIter_tupleiter st h
theorem turn_range {P:Program} {w:World} {K:PySem.W.Frag} {tg:Expr} (it:Addr) (lo:Int) (n:Nat):Turn P w K tg (Itr lo n) [it] it (fun i h=>IsRangeIter h it (lo+(i:Nat) * 1) ((n:Int) - (i:Nat)) 1) where
  mem:=by simp
  obj:=fun i h st b hb=>by
    have e:b=it:=by simpa using hb
    subst e
    exact ⟨_,st,fun v z=>by
      have z':Data.fields _=Data.cell v:=z
      cases z'⟩
  keep:=fun i h h' st k=>k it (by simp) _ st
  item:=by
    intro X hP hw hK hc i pins s σ H E I hf st hg
    subst hP hw hK
    obtain ⟨f0,f1,f2,f3,f4,f5⟩:=hf it (by simp)
    have W:=Walks.range (prog:=X.prog) (w:=X.w) (I.ok.hd hc) it lo 1 n
    refine W.item i s _ _ hg st fun v h' tk hv st' kk=>?_
    obtain ⟨t,rfl⟩:=hv
    have I1:Inv X pins σ H { s with heap:=h',toks:=tk }:=I.turned (fun b o hb e=>kk b o (by simpa using hb) e) f0 f1 f3 f4 f5
    refine ⟨_,rfl,go_of (s:={ s with heap:=h',toks:=tk }) (n:="range_iterator") st' rfl rfl (by decide) ⟨.int (lo+i),H,I1,⟨t,?_⟩,⟨rfl,rfl⟩,st',fun b hb=>(hf b hb).1⟩⟩
    rw [Int.mul_one]
  done:=by
    intro X hP hw hK hc i pins s σ H E I hf st hg
    subst hP hw hK
    obtain ⟨f0,f1,f2,f3,f4,f5⟩:=hf it (by simp)
    exact wpAny_pyNext_range_end (I.ok.hd hc) st (by have:n≤i:=hg; omega) fun h' eb=>⟨rfl,I.turned (t':=s.toks) (fun b o hb e=>eb b o hb e) f0 f1 f3 f4 f5⟩
  self:=fun _ _ _ _ _ st h=>wpAny_pyIter_rangeiter st h
end L2
namespace L2
open PySem PySem.Spec PyProof.Rows
section
variable {X:Cx} {tg:Expr}
def iList (K:PySem.W.Frag) (tl:TE):TI:=fun σ H R=>tl σ H fun x H1=>∃ a,x=.ref a∧(∃ xs,SqL K H1 a xs)∧R (Itl K a) H1
def iTup (K:PySem.W.Frag) (tl:TE):TI:=fun σ H R=>tl σ H fun x H1=>∃ a,x=.ref a∧(∃ xs,SqT K H1 a xs)∧R (Itt K a) H1
theorem pi_list {l:Expr} {tl:TE} (hl:PE X l tl):PI X tg l (iList X.K tl):=by
  intro pins s σ H R I h
  refine thn (hl pins s σ H _ I h) fun v s1 ⟨x,H1,I1,r1,q1⟩=>?_
  obtain ⟨a,e,⟨xs,hq⟩,q⟩:=q1
  subst e
  cases r1
  obtain ⟨its,rv,p,hz⟩:=I1.list hq
  refine wpAny_pyIter_list p.isList ?_
  refine ⟨s1.heap.objs.size,[s1.heap.objs.size],_,_,H1,rfl,I1.kept (t':=s1.toks) fun b o e=>Heap.get?_push_of_some _ e,turn_list a _,⟨_,Heap.get?_push_size _ rfl,rfl,rfl⟩,fun b hb=>?_,q⟩
  have e:b=s1.heap.objs.size:=by simpa using hb
  subst e
  exact I1.fpOk (Nat.le_refl _) (I1.hok.fresh (Nat.le_refl _))
theorem pi_tup {l:Expr} {tl:TE} (hl:PE X l tl):PI X tg l (iTup X.K tl):=by
  intro pins s σ H R I h
  refine thn (hl pins s σ H _ I h) fun v s1 ⟨x,H1,I1,r1,q1⟩=>?_
  obtain ⟨a,e,⟨xs,hq⟩,q⟩:=q1
  subst e
  cases r1
  obtain ⟨its,rv,p,hz⟩:=I1.tuple hq
  refine wpAny_pyIter_tuple (show s1.heap.IsTuple a its.toArray from p) ?_
  refine ⟨s1.heap.objs.size,[s1.heap.objs.size],_,_,H1,rfl,I1.kept (t':=s1.toks) fun b o e=>Heap.get?_push_of_some _ e,turn_tuple a _,⟨_,Heap.get?_push_size _ rfl,rfl,rfl⟩,fun b hb=>?_,q⟩
  have e:b=s1.heap.objs.size:=by simpa using hb
  subst e
  exact I1.fpOk (Nat.le_refl _) (I1.hok.fresh (Nat.le_refl _))
theorem range_it {pins:List (Addr × Obj)} {σ:St} {H:Hp} {s:Shared} {R:It→Hp→Prop} {E:Value→Shared→Prop} {lo hi:Int} {t u v:Tok} {tk:Nat} (I:Inv X pins σ H s) (h1:-(2 ^ 62)≤lo) (h2:lo < 2 ^ 62) (h3:-(2 ^ 62)≤hi) (h4:hi < 2 ^ 62)
    (q:R (Itr lo (hi - lo).toNat) H):wpAny (model X.prog X.w) X.A (pyIter (.ref s.heap.objs.size)) (PIE X pins σ tg R) E { s with heap:=s.heap.push { cls:=.type "range",data:=.fields #[.int lo t,.int hi u,.int 1 v] },toks:=tk }:=by
  refine wpAny_pyIter_range (IsRange.new ..) (small_one h1 h2 h3 h4) ?_
  have I1:Inv X pins σ H { s with heap:=s.heap.push { cls:=.type "range",data:=.fields #[.int lo t,.int hi u,.int 1 v] },toks:=tk }:=I.kept fun b o e=>Heap.get?_push_of_some _ e
  refine ⟨(s.heap.push { cls:=.type "range",data:=.fields #[.int lo t,.int hi u,.int 1 v] }).objs.size,[(s.heap.push { cls:=.type "range",data:=.fields #[.int lo t,.int hi u,.int 1 v] }).objs.size],_,_,H,rfl,
    I1.kept (t':=tk) fun b o e=>Heap.get?_push_of_some _ e,turn_range _ lo (hi - lo).toNat,?_,fun b hb=>?_,q⟩
  · have e1:lo+((0:Nat):Int) * 1=lo:=by simp
    have e2:(((hi - lo).toNat:Nat):Int) - ((0:Nat):Int)=Builtin.Range.rangeSize lo hi 1:=by rw [rangeSize_one]; split <;> omega
    show IsRangeIter _ _ (lo+((0:Nat):Int) * 1) ((((hi - lo).toNat:Nat):Int) - ((0:Nat):Int)) 1
    rw [e1,e2]
    exact Heap.get?_push_size _ rfl
  · have e:b=(s.heap.push { cls:=.type "range",data:=.fields #[.int lo t,.int hi u,.int 1 v] }).objs.size:=by simpa using hb
    subst e
    exact I1.fpOk (Nat.le_refl _) (I1.hok.fresh (Nat.le_refl _))
def iRng1 (ta:TA):TI:=fun σ H R=>ta σ H fun vs H1=>∃ j:Int,vs=[.int j]∧-(2 ^ 62)≤j∧j < 2 ^ 62∧R (Itr 0 j.toNat) H1
theorem pi_range1 {a:Expr} {ta:TA} {p pos:Pos} (hg:Gl X "range") (hm:X.mg "range" = none) (ha:PA X [a] ta) (hs:starEach [a] X.env=[(false,eval a X.env)]:=by rfl):PI X tg (.Call (.Name "range" p) [a] [] pos) (iRng1 ta):=by
  intro pins s σ H R I h
  refine Call_ (ld_blt I hg hm boot_range (PyProof.Rows.callWith_type1 (thn (ha pos pins s σ H _ I h) fun us s1 ⟨vs,H1,I1,r1,q1⟩=>?_) hs rfl))
  obtain ⟨j,e,q1,q2,q⟩:=q1
  subst e
  cases r1 with
  | cons r rr =>
    cases rr
    obtain ⟨t,rfl⟩:=r
    exact call_range_1 (range_it I1 (by omega) (by omega) q1 q2 (by simpa using q))
def tFor (wi:TI) (g:TG) (tb:TS):TS:=fun D σ H=>wi σ H fun J H1=>∃ W:Nat→Nat→St→Hp→Prop,(∃ m,W 0 m σ H1)∧∀ i m σ H,W i m σ H →
  (J.stop i H∧D.nx σ H)∨(J.go i H∧∃ N:St→Hp→Prop,(∀ σ' H',N σ' H'→∃ m',m' < m∧W (i+1) m' σ' H')∧∀ x H',J.yld i H x H'→g x σ H' fun σ2 H2=>tb { D with nx:=N,ct:=N,bk:=D.nx } σ2 H2)
def pinsAt (fp:List Addr) (h:Heap):List (Addr × Obj):=fp.filterMap fun b=>(h.get? b).map fun o=>(b,o)
theorem mem_pinsAt {fp:List Addr} {h:Heap} {b:Addr} {o:Obj} (hb:b∈fp) (e:h.get? b=some o):(b,o)∈pinsAt fp h:=List.mem_filterMap.mpr ⟨b,hb,by rw [e]; rfl⟩
theorem of_pinsAt {fp:List Addr} {h:Heap} {p:Addr × Obj} (hp:p∈pinsAt fp h):p.1∈fp∧h.get? p.1=some p.2:=by
  obtain ⟨b,hb,e⟩:=List.mem_filterMap.mp hp
  cases q:h.get? b with
  | none=>rw [q] at e; cases e
  | some o =>
    rw [q] at e
    have e':(b,o)=p:=Option.some.inj e
    subst e'
    exact ⟨hb,q⟩
theorem Inv.pinned {pins:List (Addr × Obj)} {σ:St} {H:Hp} {s:Shared} {fp:List Addr} (I:Inv X pins σ H s) (hf:∀ b∈fp,FpOk X pins H b) (ho:∀ b∈fp,∃ o,s.heap.get? b=some o∧∀ v,o.data≠.cell v):Inv X (pins++pinsAt fp s.heap) σ H s :=
  I.pins_of fun p hp=>(List.mem_append.mp hp).elim (fun z=>I.pin p (List.mem_append_right _ z)) fun z=>by
    obtain ⟨hb,e⟩:=of_pinsAt z
    obtain ⟨f0,f1,f2,_⟩:=hf p.1 hb
    obtain ⟨o,e',d⟩:=ho p.1 hb
    rw [e] at e'; cases e'
    exact ⟨e,f0,f1,f2,d⟩
theorem Inv.unpinned {pins pl:List (Addr × Obj)} {σ:St} {H:Hp} {s:Shared} (I:Inv X (pins++pl) σ H s):Inv X pins σ H s:=I.pins_of fun p hp=>I.pin p (List.mem_append_right _ (List.mem_append_left _ hp))
theorem ps_for {iter:Expr} {body:List Stmt} {wi:TI} {g:TG} {tb:TS} {pos:Pos} (hp:PassesOwn (model X.prog X.w) X.A X.env X.xe) (hc:X.calm=true) (hi:PI X tg iter wi) (hg:PG X tg g) (hb:PSs X body tb)
    (hs:∀ x,foldedSetIterable iter X.env x=pure x:=by intro _; rfl):PS X (.For tg iter body [] pos) (tFor wi g tb):=by
  intro pins s σ H D I h
  refine wpAny_For (thn (hi pins s σ H _ I h) fun v s1 h1=>thn h1 fun itv s2 h2=>?_) hs
  obtain ⟨it,fp,tn,J,H2,e,I2,T,st2,f2,W,⟨m0,w0⟩,turn⟩:=h2
  subst e
  have stat:∀ {H':Hp},(∀ b∈fp,H' b=none)→∀ b∈fp,FpOk X pins H' b:=fun hn b hb=>⟨hn b hb,(f2 b hb).2⟩
  refine codeAny_forLoop_any (fun n s'=>∃ i σ' H',Inv X pins σ' H' s'∧tn i s'.heap∧(∀ b∈fp,H' b=none)∧W i n σ' H') ?_ m0 ⟨0,σ,H2,I2,st2,fun b hb=>(f2 b hb).1,w0⟩
  rintro n s3 ⟨i,σ3,H3,I3,st3,fr3,w3⟩
  rcases turn i n σ3 H3 w3 with ⟨stop,qn⟩ | ⟨go,N,hN,step⟩
  · refine wpAny_passesOwn hp (thn (T.done X rfl rfl rfl hc i pins s3 σ3 H3 X.xe I3 (stat fr3) st3 stop) fun r s4 ⟨hr,I4⟩=>?_)
    subst hr
    exact wpAny_execs_nil ⟨σ3,H3,I4,qn⟩
  · refine wpAny_passesOwn hp (thn (T.item X rfl rfl rfl hc i pins s3 σ3 H3 X.xe I3 (stat fr3) st3 go) fun r s4 ⟨u,hr,h4⟩=>?_)
    subst hr
    refine wpAny_passesOwn hp (thn h4 fun _ s5 ⟨x,H5,I5,r5,y5,st5,fr5⟩=>?_)
    have I5':=I5.pinned (stat fr5) (T.obj _ _ st5)
    refine wpAny_passesOwn hp (thn (hg _ s5 σ3 H5 x u _ I5' r5 (step x H5 y5)) fun _ s6 ⟨σ6,H6,I6,q6⟩=>?_)
    refine wpAny_passesOwn hp (thn (hb _ s6 σ6 H6 _ I6 q6) fun f s7 q7=>?_)
    have again:∀ {σ7:St} {H7:Hp},Inv X (pins++pinsAt fp s5.heap) σ7 H7 s7→N σ7 H7→∃ m,m < n∧∃ i σ' H',Inv X pins σ' H' s7∧tn i s7.heap∧(∀ b∈fp,H' b=none)∧W i m σ' H':=fun {σ7 H7} I7 n7=>by
      obtain ⟨m',hm,w7⟩:=hN σ7 H7 n7
      refine ⟨m',hm,i+1,σ7,H7,I7.unpinned,T.keep _ _ _ st5 fun b hb o e=>(I7.pin (b,o) (List.mem_append_right _ (List.mem_append_right _ (mem_pinsAt hb e)))).1,fun b hb=>?_,w7⟩
      obtain ⟨o,e,d⟩:=T.obj _ _ st5 b hb
      exact (I7.pin (b,o) (List.mem_append_right _ (List.mem_append_right _ (mem_pinsAt hb e)))).2.1
    cases f with
    | next=>obtain ⟨σ7,H7,I7,n7⟩:=q7; exact again I7 n7
    | cont=>obtain ⟨σ7,H7,I7,n7⟩:=q7; exact again I7 n7
    | brk=>obtain ⟨σ7,H7,I7,q7⟩:=q7; exact ⟨σ7,H7,I7.unpinned,q7⟩
    | ret v=>obtain ⟨x7,σ7,H7,I7,r7,q7⟩:=q7; exact ⟨x7,σ7,H7,I7.unpinned,r7,q7⟩
end
theorem for_list {K:PySem.W.Frag} {a:Addr} {xs:List V} {g:TG} {tb:TS} {D:Ends} {σ:St} {H:Hp} (Pv:Nat→St→Hp→Prop) (h0:Pv 0 σ H) (hl:∀ i σ H,i≤xs.length→Pv i σ H→SqL K H a xs)
    (hs:∀ i x σ H,xs[i]?=some x→Pv i σ H→g x σ H fun σ2 H2=>tb { D with nx:=Pv (i+1),ct:=Pv (i+1),bk:=D.nx } σ2 H2) (hd:∀ σ H,Pv xs.length σ H→D.nx σ H) :
    ∃ W:Nat→Nat→St→Hp→Prop,(∃ m,W 0 m σ H)∧∀ i m σ H,W i m σ H →
      ((Itl K a).stop i H∧D.nx σ H)∨((Itl K a).go i H∧∃ N:St→Hp→Prop,(∀ σ' H',N σ' H'→∃ m',m' < m∧W (i+1) m' σ' H')∧∀ x H',(Itl K a).yld i H x H'→g x σ H' fun σ2 H2=>tb { D with nx:=N,ct:=N,bk:=D.nx } σ2 H2):=by
  refine ⟨fun i m σ H=>m=xs.length - i∧i≤xs.length∧Pv i σ H,⟨xs.length,by simp,Nat.zero_le _,h0⟩,?_⟩
  rintro i m σ H ⟨rfl,hi,p⟩
  have q:=hl i σ H hi p
  by_cases hlt:i < xs.length
  · refine .inr ⟨⟨xs,xs[i],q,by simp [hlt]⟩,Pv (i+1),fun σ' H' p'=>⟨xs.length - (i+1),by omega,rfl,hlt,p'⟩,fun x H' y=>?_⟩
    obtain ⟨e,y⟩:=y
    subst e
    exact hs i x σ _ (y xs q) p
  · have e:i=xs.length:=by omega
    subst e
    exact .inl ⟨⟨xs,q,Nat.le_refl _⟩,hd σ H p⟩
theorem for_tup {K:PySem.W.Frag} {a:Addr} {xs:List V} {g:TG} {tb:TS} {D:Ends} {σ:St} {H:Hp} (Pv:Nat→St→Hp→Prop) (h0:Pv 0 σ H) (hl:∀ i σ H,i≤xs.length→Pv i σ H→SqT K H a xs)
    (hs:∀ i x σ H,xs[i]?=some x→Pv i σ H→g x σ H fun σ2 H2=>tb { D with nx:=Pv (i+1),ct:=Pv (i+1),bk:=D.nx } σ2 H2) (hd:∀ σ H,Pv xs.length σ H→D.nx σ H) :
    ∃ W:Nat→Nat→St→Hp→Prop,(∃ m,W 0 m σ H)∧∀ i m σ H,W i m σ H →
      ((Itt K a).stop i H∧D.nx σ H)∨((Itt K a).go i H∧∃ N:St→Hp→Prop,(∀ σ' H',N σ' H'→∃ m',m' < m∧W (i+1) m' σ' H')∧∀ x H',(Itt K a).yld i H x H'→g x σ H' fun σ2 H2=>tb { D with nx:=N,ct:=N,bk:=D.nx } σ2 H2):=by
  refine ⟨fun i m σ H=>m=xs.length - i∧i≤xs.length∧Pv i σ H,⟨xs.length,by simp,Nat.zero_le _,h0⟩,?_⟩
  rintro i m σ H ⟨rfl,hi,p⟩
  have q:=hl i σ H hi p
  by_cases hlt:i < xs.length
  · refine .inr ⟨⟨xs,xs[i],q,by simp [hlt]⟩,Pv (i+1),fun σ' H' p'=>⟨xs.length - (i+1),by omega,rfl,hlt,p'⟩,fun x H' y=>?_⟩
    obtain ⟨e,y⟩:=y
    subst e
    exact hs i x σ _ (y xs q) p
  · have e:i=xs.length:=by omega
    subst e
    exact .inl ⟨⟨xs,q,Nat.le_refl _⟩,hd σ H p⟩
theorem for_range {lo:Int} {n:Nat} {g:TG} {tb:TS} {D:Ends} {σ:St} {H:Hp} (Pv:Nat→St→Hp→Prop) (h0:Pv 0 σ H)
    (hs:∀ i σ H,i < n→Pv i σ H→g (.int (lo+i)) σ H fun σ2 H2=>tb { D with nx:=Pv (i+1),ct:=Pv (i+1),bk:=D.nx } σ2 H2) (hd:∀ σ H,Pv n σ H→D.nx σ H) :
    ∃ W:Nat→Nat→St→Hp→Prop,(∃ m,W 0 m σ H)∧∀ i m σ H,W i m σ H →
      ((Itr lo n).stop i H∧D.nx σ H)∨((Itr lo n).go i H∧∃ N:St→Hp→Prop,(∀ σ' H',N σ' H'→∃ m',m' < m∧W (i+1) m' σ' H')∧∀ x H',(Itr lo n).yld i H x H'→g x σ H' fun σ2 H2=>tb { D with nx:=N,ct:=N,bk:=D.nx } σ2 H2):=by
  refine ⟨fun i m σ H=>m=n - i∧i≤n∧Pv i σ H,⟨n,by simp,Nat.zero_le _,h0⟩,?_⟩
  rintro i m σ H ⟨rfl,hi,p⟩
  by_cases hlt:i < n
  · refine .inr ⟨hlt,Pv (i+1),fun σ' H' p'=>⟨n - (i+1),by omega,rfl,hlt,p'⟩,fun x H' y=>?_⟩
    obtain ⟨e,y⟩:=y
    subst e y
    exact hs i σ _ hlt p
  · have e:i=n:=by omega
    subst e
    exact .inl ⟨Nat.le_refl _,hd σ H p⟩
end L2
namespace L2
open PySem PySem.Spec PyProof.Rows
abbrev R2:=V→V→Hp→VK→Prop
def OpR (X:Cx) (f:Value→Value→Sem Value) (r:R2):Prop :=
  ∀ (pins:List (Addr × Obj)) (s:Shared) (σ:St) (H:Hp) (x y:V) (v u:Value) (Q:VK),Inv X pins σ H s→RelV x v→RelV y u→r x y H Q →
    wpAny (model X.prog X.w) X.A (f v u) (EP X pins σ Q) X.xe s
def UnR (X:Cx) (f:Value→Sem Value) (r:V→Hp→VK→Prop):Prop :=
  ∀ (pins:List (Addr × Obj)) (s:Shared) (σ:St) (H:Hp) (x:V) (v:Value) (Q:VK),Inv X pins σ H s→RelV x v→r x H Q →
    wpAny (model X.prog X.w) X.A (f v) (EP X pins σ Q) X.xe s
def CallR (X:Cx) (f:Value) (r:List V→Hp→VK→Prop):Prop :=
  ∀ (pins:List (Addr × Obj)) (s:Shared) (σ:St) (H:Hp) (xs:List V) (us:List Value) (Q:VK),Inv X pins σ H s→Vals xs us→r xs H Q →
    wpAny (model X.prog X.w) X.A (call f us) (EP X pins σ Q) X.xe s
def tOp (r:R2) (ta tb:TE):TE:=fun σ H Q=>ta σ H fun x H1=>tb σ H1 fun y H2=>r x y H2 Q
def tUn (r:V→Hp→VK→Prop) (ta:TE):TE:=fun σ H Q=>ta σ H fun x H1=>r x H1 Q
def rI (C:Int→Int→Prop) (g:Int→Int→V):R2:=fun x y H Q=>∃ i j,x=.int i∧y=.int j∧C i j∧Q (g i j) H
def rI0 (g:Int→Int→V):R2:=fun x y H Q=>∃ i j,x=.int i∧y=.int j∧Q (g i j) H
def rU (g:Int→V):V→Hp→VK→Prop:=fun x H Q=>∃ i,x=.int i∧Q (g i) H
section
variable {X:Cx} {a b c:Expr} {ta tb tc:TE} {pos:Pos}
theorem binT (ha:PE X a ta) (hb:PE X b tb) {pins:List (Addr × Obj)} {s:Shared} {σ:St} {H:Hp} {R:V→V→Hp→Prop} (I:Inv X pins σ H s)
    (h:ta σ H fun x H1=>tb σ H1 fun y H2=>R x y H2) {Q:Value→Shared→Prop} {f:Value→Value→Sem Value}
    (hf:∀ v u s2 x y H2,Inv X pins σ H2 s2→RelV x v→RelV y u→R x y H2→wpAny (model X.prog X.w) X.A (f v u) Q X.xe s2) :
    wpAny (model X.prog X.w) X.A (eval a X.env) (fun v s₁=>wpAny (model X.prog X.w) X.A (eval b X.env) (fun u s₂=>wpAny (model X.prog X.w) X.A (f v u) Q X.xe s₂) X.xe s₁) X.xe s:=by
  refine thn (ha pins s σ H _ I h) fun v s1 ⟨x,H1,I1,r1,q1⟩=>?_
  refine thn (hb pins s1 σ H1 _ I1 q1) fun u s2 ⟨y,H2,I2,r2,q2⟩=>?_
  exact hf v u s2 x y H2 I2 r1 r2 q2
theorem pe_op {op:Operator} {r:R2} (ho:OpR X (binaryOp op) r) (ha:PE X a ta) (hb:PE X b tb):PE X (.BinOp a op b pos) (tOp r ta tb):=by
  intro pins s σ H Q I h
  exact wpAny_BinOp (binT ha hb I h fun v u s2 x y H2 I2 rx ry q=>ho pins s2 σ H2 x y v u Q I2 rx ry q)
theorem pe_un {op:UnaryOp} {r:V→Hp→VK→Prop} (ho:UnR X (unaryOp op) r) (ha:PE X a ta):PE X (.UnaryOp op a pos) (tUn r ta):=by
  intro pins s σ H Q I h
  exact UnaryOp_ (thn (ha pins s σ H _ I h) fun v s1 ⟨x,H1,I1,r1,q1⟩=>ho pins s1 σ H1 x v Q I1 r1 q1)
theorem opI {f:Value→Value→Sem Value} {C:Int→Int→Prop} {g:Int→Int→Int}
    (rule:∀ (i j:Int) (t u:Tok) (s:Shared) (Q:Value→Shared→Prop) (E:Value→Shared→Prop),C i j→Q (.int (g i j) s.toks) { s with toks:=s.toks+1 }→wpAny (model X.prog X.w) X.A (f (.int i t) (.int j u)) Q E s) :
    OpR X f (rI C fun i j=>.int (g i j)):=by
  intro pins s σ H x y v u Q I rx ry h
  obtain ⟨i,j,rfl,rfl,hc,q⟩:=h
  obtain ⟨t,rfl⟩:=rx
  obtain ⟨t',rfl⟩:=ry
  exact rule i j t t' s _ _ hc ⟨.int (g i j),H,I.tok _,⟨_,rfl⟩,q⟩
theorem opI0 {f:Value→Value→Sem Value} {g:Int→Int→Int}
    (rule:∀ (i j:Int) (t u:Tok) (s:Shared) (Q:Value→Shared→Prop) (E:Value→Shared→Prop),Q (.int (g i j) s.toks) { s with toks:=s.toks+1 }→wpAny (model X.prog X.w) X.A (f (.int i t) (.int j u)) Q E s) :
    OpR X f (rI0 fun i j=>.int (g i j)):=by
  intro pins s σ H x y v u Q I rx ry h
  obtain ⟨i,j,rfl,rfl,q⟩:=h
  obtain ⟨t,rfl⟩:=rx
  obtain ⟨t',rfl⟩:=ry
  exact rule i j t t' s _ _ ⟨.int (g i j),H,I.tok _,⟨_,rfl⟩,q⟩
theorem opB0 {f:Value→Value→Sem Value} {g:Int→Int→Bool}
    (rule:∀ (i j:Int) (t u:Tok) (s:Shared) (Q:Value→Shared→Prop) (E:Value→Shared→Prop),Q (.bool (g i j)) s→wpAny (model X.prog X.w) X.A (f (.int i t) (.int j u)) Q E s) :
    OpR X f (rI0 fun i j=>.bl (g i j)):=by
  intro pins s σ H x y v u Q I rx ry h
  obtain ⟨i,j,rfl,rfl,q⟩:=h
  obtain ⟨t,rfl⟩:=rx
  obtain ⟨t',rfl⟩:=ry
  exact rule i j t t' s _ _ ⟨.bl (g i j),H,I,rfl,q⟩
def CPow (i j:Int):Prop:=0≤j∧j≤1000000∧i.natAbs < 2 ^ 64
def CMul (i j:Int):Prop:=(-(2 ^ 64) < i∧i < 2 ^ 64)∨(-(2 ^ 64) < j∧j < 2 ^ 64)
theorem CMul.ok {i j:Int} (h:CMul i j):IntMulOk i j:=by
  rcases h with ⟨h1,h2⟩ | ⟨h1,h2⟩
  · exact .of_left (intBits_le_64 h1 h2)
  · exact .of_right (intBits_le_64 h1 h2)
theorem op_add:OpR X (binaryOp .Add) (rI0 fun i j=>.int (i+j)):=opI0 fun _ _ _ _ _ _ _ q=>add_int q
theorem op_sub:OpR X (binaryOp .Sub) (rI0 fun i j=>.int (i - j)):=opI0 fun _ _ _ _ _ _ _ q=>sub_int q
theorem op_mul:OpR X (binaryOp .Mult) (rI CMul fun i j=>.int (i * j)):=opI fun _ _ _ _ _ _ _ hc q=>mul_int q hc.ok
theorem op_mod:OpR X (binaryOp .Mod) (rI (fun _ j=>0 < j) fun i j=>.int (i % j)):=opI fun i j _ _ _ _ _ hc q=>by
  have h1:(0:Int) < j:=hc
  exact mod_int' (by omega) (by rw [Int.fmod_eq_emod_of_nonneg i (by omega)]; exact q)
theorem op_pow:OpR X (binaryOp .Pow) (rI CPow fun i j=>.int (i ^ j.toNat)):=opI fun _ _ _ _ _ _ _ hc q=>pow_int_small hc.1 hc.2.1 hc.2.2 q
theorem unI {f:Value→Sem Value} {g:Int→Int}
    (rule:∀ (i:Int) (t:Tok) (s:Shared) (Q:Value→Shared→Prop) (E:Value→Shared→Prop),Q (.int (g i) s.toks) { s with toks:=s.toks+1 }→wpAny (model X.prog X.w) X.A (f (.int i t)) Q E s) :
    UnR X f (rU fun i=>.int (g i)):=by
  intro pins s σ H x v Q I rx h
  obtain ⟨i,rfl,q⟩:=h
  obtain ⟨t,rfl⟩:=rx
  exact rule i t s _ _ ⟨.int (g i),H,I.tok _,⟨_,rfl⟩,q⟩
theorem un_neg:UnR X (unaryOp .USub) (rU fun i=>.int (-i)):=unI fun _ _ _ _ _ q=>neg_int q
end
def scal:V→V→Bool
  | .non,.non=>true | .non,.int _=>true | .int _,.non=>true | .non,.bl _=>true | .bl _,.non=>true | .non,.str _=>true | .str _,.non=>true
  | .int _,.int _=>true | .bl _,.bl _=>true | .str _,.str _=>true | .byt _,.byt _=>true
  | .int _,.str _=>true | .str _,.int _=>true | .bl _,.str _=>true | .str _,.bl _=>true
  | _,_=>false
def rEq:R2:=fun x y H Q=>scal x y=true∧Q (.bl (decide (x=y))) H
theorem dec_int {i j:Int}:decide (V.int i=V.int j)=(i == j):=by
  rw [Bool.eq_iff_iff]
  simp
theorem dec_bl {i j:Bool}:decide (V.bl i=V.bl j)=(i == j):=by
  rw [Bool.eq_iff_iff]
  simp
theorem dec_str {i j:Str}:decide (V.str i=V.str j)=(i == j):=by
  rw [Bool.eq_iff_iff]
  simp
theorem dec_byt {i j:Array UInt8}:decide (V.byt i=V.byt j)=(i.toList == j.toList):=by
  rw [Bool.eq_iff_iff]
  cases i
  cases j
  simp
section
variable {X:Cx} {a b c:Expr} {ta tb tc:TE} {pos:Pos}
theorem fin_bl {pins:List (Addr × Obj)} {σ:St} {H:Hp} {s:Shared} {Q:VK} {k k':Bool} (I:Inv X pins σ H s) (q:Q (.bl k) H) (e:k=k'):EP X pins σ Q (.bool k') s:=by
  subst e
  exact ⟨.bl k,H,I,rfl,q⟩
theorem op_eq:OpR X (compareOp .Eq) rEq:=by
  intro pins s σ H x y v u Q I rx ry h
  obtain ⟨hs,q⟩:=h
  cases x with
  | non =>
    cases rx
    cases y with
    | non=>cases ry; exact PySem.EqNone.eq_none_none (fin_bl I q (by simp))
    | bl j=>cases ry; exact PySem.EqNone.eq_none_bool (fin_bl I q (by simp))
    | int j=>obtain ⟨t',rfl⟩:=ry; exact PySem.EqNone.eq_none_int (fin_bl I q (by simp))
    | str j=>obtain ⟨t',rfl⟩:=ry; exact PySem.EqNone.eq_none_str (fin_bl I q (by simp))
    | _=>exact absurd (show false=true from hs) Bool.false_ne_true
  | bl i =>
    cases rx
    cases y with
    | non=>cases ry; exact PySem.EqNone.eq_bool_none (fin_bl I q (by simp))
    | bl j=>cases ry; exact eq_bool (fin_bl I q dec_bl)
    | str j=>obtain ⟨t',rfl⟩:=ry; exact PySem.EqMixed.eq_bool_str (fin_bl I q (by simp))
    | _=>exact absurd (show false=true from hs) Bool.false_ne_true
  | int i =>
    obtain ⟨t,rfl⟩:=rx
    cases y with
    | non=>cases ry; exact PySem.EqNone.eq_int_none (fin_bl I q (by simp))
    | int j=>obtain ⟨t',rfl⟩:=ry; exact eq_int (fin_bl I q dec_int)
    | str j=>obtain ⟨t',rfl⟩:=ry; exact PySem.EqMixed.eq_int_str (fin_bl I q (by simp))
    | _=>exact absurd (show false=true from hs) Bool.false_ne_true
  | str i =>
    obtain ⟨t,rfl⟩:=rx
    cases y with
    | non=>cases ry; exact PySem.EqNone.eq_str_none (fin_bl I q (by simp))
    | bl j=>cases ry; exact PySem.EqMixed.eq_str_bool (fin_bl I q (by simp))
    | int j=>obtain ⟨t',rfl⟩:=ry; exact PySem.EqMixed.eq_str_int (fin_bl I q (by simp))
    | str j=>obtain ⟨t',rfl⟩:=ry; exact eq_str (fin_bl I q dec_str)
    | _=>exact absurd (show false=true from hs) Bool.false_ne_true
  | byt i =>
    obtain ⟨t,rfl⟩:=rx
    cases y with
    | byt j=>obtain ⟨t',rfl⟩:=ry; exact PySem.W.eq_bytes (fin_bl I q dec_byt)
    | _=>exact absurd (show false=true from hs) Bool.false_ne_true
  | _=>cases y <;> exact absurd (show false=true from hs) Bool.false_ne_true
theorem op_gt:OpR X (compareOp .Gt) (rI0 fun i j=>.bl (decide (j < i))):=opB0 fun _ _ _ _ _ _ _ q=>gt_int q
theorem op_ge:OpR X (compareOp .GtE) (rI0 fun i j=>.bl (decide (j≤i))):=opB0 fun _ _ _ _ _ _ _ q=>ge_int q
theorem op_isN:OpR X (compareOp .Is) (fun x y H Q=>y=.non∧Q (.bl (decide (x=.non))) H):=by
  intro pins s σ H x y v u Q I rx ry h
  obtain ⟨rfl,q⟩:=h
  cases ry
  refine is_none_gen (fin_bl I q ?_)
  cases x <;> first
    | (cases rx; rfl)
    | (obtain ⟨t,rfl⟩:=rx; rfl)
theorem OpR.or {f:Value→Value→Sem Value} {r r':R2} (h:OpR X f r) (h':OpR X f r'):OpR X f (fun x y H Q=>r x y H Q∨r' x y H Q):=by
  intro pins s σ H x y v u Q I rx ry q
  rcases q with q | q
  · exact h pins s σ H x y v u Q I rx ry q
  · exact h' pins s σ H x y v u Q I rx ry q
theorem nomark (b:Expr) {op:CmpOp} (h:op≠.In:=by decide) (h2:op≠.NotIn:=by decide):behindInMarks op b=false:=by
  have e1:(op == CmpOp.In)=false:=by cases op <;> first | rfl | exact absurd rfl h
  have e2:(op == CmpOp.NotIn)=false:=by cases op <;> first | rfl | exact absurd rfl h2
  cases b <;> simp [behindInMarks,e1,e2]
theorem pe_cmpR {op:CmpOp} {r:R2} (ho:OpR X (compareOp op) r) (ha:PE X a ta) (hb:PE X b tb) (hm:behindInMarks op b=false):PE X (.Compare a [op] [b] pos) (tOp r ta tb):=by
  intro pins s σ H Q I h
  exact wpAny_Compare1 (binT ha hb I h fun v u s2 x y H2 I2 rx ry q=>ho pins s2 σ H2 x y v u Q I2 rx ry q) hm
def tTest (t:TE):TT:=fun σ H Q=>t σ H fun x H'=>∃ k,x=.bl k∧Q k H'
theorem pt_cmpR {op:CmpOp} {r:R2} (ho:OpR X (compareOp op) r) (ha:PE X a ta) (hb:PE X b tb) (hm:behindInMarks op b=false):PT X (.Compare a [op] [b] pos) (tTest (tOp r ta tb)):=by
  intro pins s σ H Q I h
  refine wpAny_isTrue_Compare1 (thn (ha pins s σ H _ I h) fun v s1 ⟨x,H1,I1,r1,q1⟩=>thn (hb pins s1 σ H1 _ I1 q1) fun u s2 ⟨y,H2,I2,r2,q2⟩ =>
    thn (ho pins s2 σ H2 x y v u _ I2 r1 r2 q2) fun c s3 ⟨z,H3,I3,r3,k,e,q3⟩=>?_) hm
  subst e
  cases r3
  exact wpAny_truthy_bool ⟨H3,I3,q3⟩
def tChain (r r':R2) (ta tb tc:TE):TE:=fun σ H Q=>ta σ H fun x H1=>tb σ H1 fun y H2=>r x y H2 fun z H3=>∃ k,z=.bl k ∧
  (if k=true then tc σ H3 fun w' H4=>r' y w' H4 Q else Q (.bl false) H3)
theorem pe_chain {op op':CmpOp} {r r':R2} (ho:OpR X (compareOp op) r) (ho':OpR X (compareOp op') r') (ha:PE X a ta) (hb:PE X b tb) (hc:PE X c tc)
    (hm:lastMarks [op,op'] [b,c]=false:=by with_unfolding_all rfl):PE X (.Compare a [op,op'] [b,c] pos) (tChain r r' ta tb tc):=by
  intro pins s σ H Q I h
  refine Compare_chain (thn (ha pins s σ H _ I h) fun v s1 ⟨x,H1,I1,r1,q1⟩=>chain_link (thn (hb pins s1 σ H1 _ I1 q1) fun u s2 ⟨y,H2,I2,r2,q2⟩ =>
    thn (ho pins s2 σ H2 x y v u _ I2 r1 r2 q2) fun d s3 ⟨z,H3,I3,r3,k,e,q3⟩=>?_)) hm
  subst e
  cases r3
  refine wpAny_truthy_bool ?_
  cases k with
  | false=>exact ite_ff ⟨.bl false,H3,I3,rfl,q3⟩
  | true=>exact ite_tt (chain_last (thn (hc pins s3 σ H3 _ I3 q3) fun w' s4 ⟨z',H4,I4,r4,q4⟩=>ho' pins s4 σ H4 y z' u w' Q I4 r2 r4 q4))
theorem line63:(sizeLine:Nat) < 2 ^ 63:=by rw [sizeLine_eq]; decide
theorem op_add_str:OpR X (binaryOp .Add) (fun x y H Q=>∃ i j,x=.str i∧y=.str j∧i.length+j.length≤sizeLine∧Q (.str (i++j)) H):=by
  intro pins s σ H x y v u Q I rx ry h
  obtain ⟨i,j,rfl,rfl,hz,q⟩:=h
  obtain ⟨t,rfl⟩:=rx
  obtain ⟨t',rfl⟩:=ry
  exact add_str (fun t' tk=>⟨.str (i++j),H,I.tok _,⟨_,rfl⟩,q⟩) hz
theorem vals1 {x:V} {us:List Value} (r:Vals [x] us):∃ u,us=[u]∧RelV x u:=by
  cases r with
  | cons r1 r2=>cases r2; exact ⟨_,rfl,r1⟩
theorem vals2 {x y:V} {us:List Value} (r:Vals [x,y] us):∃ u w',us=[u,w']∧RelV x u∧RelV y w':=by
  cases r with
  | cons r1 r2 =>
    cases r2 with
    | cons r3 r4=>cases r4; exact ⟨_,_,rfl,r1,r3⟩
theorem call_abs:CallR X (.builtin "abs") (fun xs H Q=>∃ i,xs=[.int i]∧Q (.int (if i < 0 then -i else i)) H):=by
  intro pins s σ H xs us Q I r h
  obtain ⟨i,rfl,q⟩:=h
  obtain ⟨u,rfl,t,rfl⟩:=vals1 r
  exact call_abs_int fun u tk=>⟨.int (if i < 0 then -i else i),H,I.tok _,⟨_,rfl⟩,q⟩
theorem call_int1:CallR X (.type "int") (fun xs H Q=>(∃ i,xs=[.int i]∧Q (.int i) H)∨∃ k,xs=[.bl k]∧Q (.int (if k then 1 else 0)) H):=by
  intro pins s σ H xs us Q I r h
  rcases h with ⟨i,rfl,q⟩ | ⟨k,rfl,q⟩
  · obtain ⟨u,rfl,t,rfl⟩:=vals1 r
    exact call_int_int ⟨.int i,H,I,⟨_,rfl⟩,q⟩
  · obtain ⟨u,rfl,r1⟩:=vals1 r
    cases r1
    exact call_int_bool ⟨.int (if k then 1 else 0),H,I.tok _,⟨_,rfl⟩,q⟩
end
end L2
namespace L2
open PySem PySem.Spec PyProof.Rows
structure ObjM (h:Heap) (x dx C:Addr) (mA:Str→Option Value):Prop where
  obj:h.get? x=some (PySem.W.instObj C dx)
  ns:h.Ns1 dx mA
  ne:dx≠x
theorem lookIn_ns {h:Heap} {dx:Addr} {mA:Str→Option Value} (n:h.Ns1 dx mA):∃ od,h.get? dx=some od∧∀ name,PySem.W.lookIn name od=some (mA name):=by
  obtain ⟨o,es,ep,ho,hd,hk,_,hm⟩:=n
  refine ⟨o,ho,fun name=>?_⟩
  have e:=hm name
  unfold nsFind findBy at e
  rw [← Array.find?_toList] at e
  unfold PySem.W.lookIn
  rw [hd]
  dsimp only
  split
  · rename_i y q
    rw [q] at e
    exact congrArg some e
  · rename_i q
    rw [q] at e
    have a:es.toList.any (·.refKey)=false:=by
      rw [List.any_eq_false]
      intro y hy
      obtain ⟨z,t,hkey⟩:=hk y (Array.mem_toList_iff.mp hy)
      simp [DictEntry.refKey,hkey]
    have a':¬ es.toList.any (·.refKey)=true:=by rw [a]; exact Bool.false_ne_true
    rw [if_neg a']
    exact congrArg some e
theorem ObjM.look {h:Heap} {x dx C:Addr} {mA:Str→Option Value} (I:ObjM h x dx C mA):∃ od,PySem.W.InstAt h x (PySem.W.instObj C dx) C (some od)∧∀ name,PySem.W.lookIn name od=some (mA name) :=
  let ⟨od,ho,hl⟩:=lookIn_ns I.ns
  ⟨od,⟨I.obj,rfl,rfl,ho⟩,hl⟩
section
variable {prog:Program} {w:World} {A:Around} {E:Value→Shared→Prop} {s:Shared} {K:PySem.W.Frag} {x dx C f:Addr} {mA:Str→Option Value} {name:Str} {v:Value}
end
theorem RelO.some_of {v:V} {o:Option Value} (r:RelO (some v) o):∃ u,o=some u∧RelV v u:=by
  cases o with
  | none=>exact (show False from r).elim
  | some u=>exact ⟨u,rfl,r⟩
section
variable {P:Program} {w:World} {H H':Hp} {h h':Heap} {a C dx:Addr} {fs fs':List (Str × V)}
end
structure Cls (K:PySem.W.Frag) (C:Addr):Prop where
  pg:PySem.W.plainGet K C Str.empty=true
  hd:PySem.W.hasDictIn K C=true
  po:PySem.W.plainOver K C=true
  sa:PySem.W.findIn K (.ref C) "__setattr__" = some (some (.builtin "object.__setattr__"))
theorem Cls.get {K:PySem.W.Frag} {C:Addr} (c:Cls K C) (f:Str):PySem.W.plainGet K C f=true:=c.pg
structure Con (K:PySem.W.Frag) (C:Addr) (f:Str) (v:V) (u:Value):Prop where
  at_:PySem.W.findIn K (.ref C) f=some (some u)
  rel:RelV v u
  get:PySem.W.specialIn K u "__get__" = some none
  cp:PySem.W.copiedNames.contains f=false
structure Meth (K:PySem.W.Frag) (C:Addr) (m:Str) (f:Addr):Prop where
  at_:PySem.W.findIn K (.ref C) m=some (some (.ref f))
  fn:PySem.W.isFn K (.ref f)=true
  kp:PySem.W.keepIn K (.ref f)=true
section
variable {X:Cx} {pins:List (Addr × Obj)} {σ:St} {H:Hp} {s:Shared} {a C dx:Addr} {fs:List (Str × V)} {f:Str} {v:V} {A:Around} {E:Value→Shared→Prop}
theorem Inv.made (I:Inv X pins σ H s):Inv X pins σ (upd (upd H s.heap.objs.size (.own (s.heap.objs.size+1))) (s.heap.objs.size+1) (.ins C s.heap.objs.size []))
    { s with heap:=(s.heap.push PySem.W.emptyDict).push (PySem.W.instObj C s.heap.objs.size) }:=by
  have e1:(s.heap.push PySem.W.emptyDict).get? s.heap.objs.size=some PySem.W.emptyDict:=Heap.get?_push_size s.heap rfl
  have e2:((s.heap.push PySem.W.emptyDict).push (PySem.W.instObj C s.heap.objs.size)).get? (s.heap.objs.size+1)=some (PySem.W.instObj C s.heap.objs.size):=by
    have:=Heap.get?_push_size (s.heap.push PySem.W.emptyDict) (o:=PySem.W.instObj C s.heap.objs.size) rfl
    rwa [Heap.size_push] at this
  have e3:(s.heap.push PySem.W.emptyDict).Ns s.heap.objs.size (fun _=>none):=⟨PySem.W.emptyDict,#[],_,e1,rfl,(fun e he=>absurd he (by simp)),fun _=>rfl⟩
  have I1:=I.laid (a:=s.heap.objs.size) (o:=.own (s.heap.objs.size+1)) (h':=s.heap.push PySem.W.emptyDict) (t':=s.toks) (fun b u q=>Heap.get?_push_of_some _ q) (Nat.le_refl _) ⟨_,e1⟩
  refine I1.laid (a:=s.heap.objs.size+1) (o:=.ins C s.heap.objs.size []) (t':=s.toks) (fun b u q=>Heap.get?_push_of_some _ q) (Nat.le_of_eq (Heap.size_push _ _)) ?_
  have ne:s.heap.objs.size≠s.heap.objs.size+1:=Nat.ne_of_lt (Nat.lt_succ_self _)
  refine ⟨by rw [upd_ne ne,upd_same],Nat.zero_le _,ne,e2,fun _=>none,(Heap.Ns1.of_empty e3).at fun o q=>Heap.get?_push_of_some _ q,fun _=>True.intro,fun y hy=>absurd rfl hy⟩
end
section
variable {X:Cx} {o e value:Expr} {f:Str} {pos pos' tpos:Pos} {ta tv:TE}
end
section
variable {X:Cx} {pins:List (Addr × Obj)} {σ:St} {H:Hp} {s:Shared} {A:Around} {E:Value→Shared→Prop} {Q:Value→Shared→Prop} {c:Value} {b:Bool}
inductive TyOf (K:PySem.W.Frag) (H:Hp):V→Value→Prop where
  | non:TyOf K H .non (.type "NoneType")
  | bl (x:Bool):TyOf K H (.bl x) (.type "bool")
  | int (i:Int):TyOf K H (.int i) (.type "int")
  | str (x:Str):TyOf K H (.str x) (.type "str")
  | flt (x:UInt64):TyOf K H (.flt x) (.type "float")
  | lst {a:Addr} {xs:List V} (e:H a=some (.lst xs)):TyOf K H (.ref a) (.type "list")
  | frz {a:Addr} {o:Obj} {xs:List V} (e:H a=some (.frz o (.lst xs))):TyOf K H (.ref a) (.type "list")
  | tup {a:Addr} {xs:List V} (e:H a=some (.tup xs)):TyOf K H (.ref a) (.type "tuple")
  | dK {a:Addr} {kvs:List (Key × V)} (e:H a=some (.dK kvs)):TyOf K H (.ref a) (.type "dict")
  | dT {a:Addr} {kvs:List (List Key × V)} (e:H a=some (.dT kvs)):TyOf K H (.ref a) (.type "dict")
  | ins {a C dx:Addr} {fs:List (Str × V)} (e:H a=some (.ins C dx fs)) (cl:Cls K C) (ha:PySem.W.findIn K (.ref C) "__class__" = some (some (.builtin "object.__class__")))
      (hn:PySem.W.specialIn K (.builtin "object.__class__") "__get__" = some (some (.builtin "getset_descriptor.__get__"))) (htk:PySem.W.takesIn K (.builtin "object.__class__")=some true)
      (hm:PySem.W.mroIn K C (.type "object")=some true):TyOf K H (.ref a) (.ref C)
end
end L2
namespace L2
open PySem PySem.Spec PyProof.Rows
structure Room (k:Nat) (A:Around):Prop where
  hd:A.handled=none
  dp:A.depth+3 * k+5 < recursionLimit
  un:A.units+16 * k+200 < cLine
theorem Room.mono {j k:Nat} {A:Around} (r:Room k A) (h:j≤k):Room j A:=⟨r.hd,by have:=r.dp; omega,by have:=r.un; omega⟩
theorem Room.deeper {k:Nat} {A:Around} (r:Room (k+1) A) (env:Env):Room k (A.deeper env) :=
  ⟨r.hd,by have:=r.dp; show A.depth+1+3 * k+5 < _; omega,by have:=r.un; show A.units+3+16 * k+200 < _; omega⟩
theorem Room.in1 {k:Nat} {A:Around} (r:Room (k+1) A):Room k A.in1 :=
  ⟨r.hd,by have:=r.dp; show A.depth+3 * k+5 < _; omega,by have:=r.un; show A.units+1+16 * k+200 < _; omega⟩
theorem Room.depth {k:Nat} {A:Around} (r:Room k A):A.depth < recursionLimit:=by have:=r.dp; omega
theorem Room.units {k:Nat} {A:Around} (r:Room k A):A.units+64 < cLine:=by have:=r.un; omega
def tNil:TA:=fun _ H Q=>Q [] H
def tCons (ta:TE) (tr:TA):TA:=fun σ H Q=>ta σ H fun x H1=>tr σ H1 fun xs H2=>Q (x :: xs) H2
section
variable {X:Cx} {e:Expr} {es:List Expr} {te:TE} {t:TA} {pos:Pos}
theorem pa_nil:PA X [] tNil:=fun _ _ _ _ H Q I h=>Calls.spliced_nil ⟨[],H,I,.nil,h⟩
theorem pa_cons (ha:PE X e te) (hr:PA X es t) (hs:starEach (e :: es) X.env=(false,eval e X.env) :: starEach es X.env:=by rfl):PA X (e :: es) (tCons te t):=by
  intro pos pins s σ H Q I h
  rw [hs]
  show wpAny _ _ (spliced ((false,eval e X.env) :: backTo pos (starEach es X.env))) _ _ s
  refine Calls.spliced_cons (thn (ha pins s σ H _ I h) fun u s1 ⟨x,H1,I1,r1,q1⟩=>?_)
  exact thn (hr pos pins s1 σ H1 _ I1 q1) fun us s2 ⟨xs,H2,I2,r2,q2⟩=>⟨x :: xs,H2,I2,.cons r1 r2,q2⟩
def tTup (t:TA):TE:=fun σ H Q=>t σ H fun xs H1=>xs.length≤sizeLine∧∀ p,H1 p=none→Q (.ref p) (upd H1 p (.tup xs))
def tLst (t:TA):TE:=fun σ H Q=>t σ H fun xs H1=>xs.length≤sizeLine∧∀ p,H1 p=none→Q (.ref p) (upd H1 p (.lst xs))
theorem pe_tup {x1} (h:PA X es t):PE X (.Tuple es x1 pos) (tTup t):=by
  intro pins s σ H Q I hq
  refine wpAny_Tuple_spliced (thn (h pos pins s σ H _ I hq) fun us s1 ⟨xs,H1,I1,r,z,q⟩=>⟨by rw [← r.length]; exact z,?_⟩)
  have hf:H1 s1.heap.objs.size=none:=I1.hok.fresh (Nat.le_refl _)
  refine ⟨.ref s1.heap.objs.size,upd H1 s1.heap.objs.size (.tup xs),I1.laid (t':=s1.toks) (fun b u e=>Heap.get?_push_of_some _ e) (Nat.le_refl _) ?_,rfl,q _ hf⟩
  exact ⟨z,us,r,⟨_,Heap.get?_push_size _ rfl,rfl,_,rfl⟩⟩
theorem pe_lst (h:PA X es t):PE X (.List es pos) (tLst t):=by
  intro pins s σ H Q I hq
  refine wpAny_List_spliced (thn (h pos pins s σ H _ I hq) fun us s1 ⟨xs,H1,I1,r,z,q⟩=>⟨by rw [← r.length]; exact z,?_⟩)
  have hf:H1 s1.heap.objs.size=none:=I1.hok.fresh (Nat.le_refl _)
  refine ⟨.ref s1.heap.objs.size,upd H1 s1.heap.objs.size (.lst xs),I1.laid (t':=s1.toks) (fun b u e=>Heap.get?_push_of_some _ e) (Nat.le_refl _) ?_,rfl,q _ hf⟩
  exact ⟨z,us,0,r,Heap.get?_push_size _ rfl⟩
end
abbrev Sp:=List V→Hp→VK→XK→Prop
abbrev CXT:=List Env→Hp→Shared→XK→Value→Shared→Prop
structure Env0 (P:Program) (w:World) (K:PySem.W.Frag) (mg:Str→Option Value) (base:Heap) (A:Around) (outer:List Env) (s:Shared) (H:Hp):Prop where
  frames:A.frames=some outer
  mod:Mod K mg base
  bs:∀ b o,base.get? b=some o→s.heap.get? b=some o∧H b=none
  bsz:base.objs.size≤s.heap.objs.size
  funs:s.heap.FunFrames base outer
  frf:∀ b∈frs outer,H b=none
  hok:HOk P w H s.heap
  bare:AllBare s.gens
def CE (outer:List Env) (P:Program) (w:World) (H:Hp) (s:Shared) (Q:VK) (u:Value) (s':Shared):Prop :=
  ∃ v H',s'.os=s.os∧AllBare s'.gens∧Un (frs outer) [] H H' s.heap s'.heap∧HOk P w H' s'.heap∧RelV v u∧Q v H'
def CR (CX:CXT) (outer:List Env) (P:Program) (w:World) (H:Hp) (s:Shared) (Q:VK) (E:XK) (r:Result) (s':Shared):Prop :=
  match r with
  | .ok (.ret u)=>CE outer P w H s Q u s'
  | .ok _=>False
  | .error e=>CX outer H s E e s'
structure FnOk (P:Program) (w:World) (K:PySem.W.Frag) (mg:Str→Option Value) (base:Heap) (CX:CXT) (k:Nat) (f:Addr) (fd:FuncData) (ps:List Str) (sp:Sp):Prop where
  len:∀ vs H Q E,sp vs H Q E→vs.length=ps.length
  run:∀ (A:Around) (outer:List Env) (s:Shared) (H:Hp) (args:Args) (us:List Value) (vs:List V) (Q:VK) (E:XK),Room k A→Env0 P w K mg base A outer s H→BindsTo s fd args (ps.zip us)→Vals vs us→sp vs H Q E →
    codeAny (model P w) A (.call (.ref f) args) (CR CX outer P w H s Q E) s
theorem FnOk.mono {P:Program} {w:World} {K:PySem.W.Frag} {mg:Str→Option Value} {base:Heap} {CX:CXT} {j k:Nat} {f:Addr} {fd:FuncData} {ps:List Str} {sp:Sp} (F:FnOk P w K mg base CX j f fd ps sp) (h:j≤k) :
    FnOk P w K mg base CX k f fd ps sp:=⟨F.len,fun A outer s H args us vs Q E hr=>F.run A outer s H args us vs Q E (hr.mono h)⟩
theorem FnOk.imp {P:Program} {w:World} {K:PySem.W.Frag} {mg:Str→Option Value} {base:Heap} {CX:CXT} {k:Nat} {f:Addr} {fd:FuncData} {ps:List Str} {sp sp':Sp} (F:FnOk P w K mg base CX k f fd ps sp)
    (h:∀ vs H Q E,sp' vs H Q E→sp vs H Q E):FnOk P w K mg base CX k f fd ps sp' :=
  ⟨fun vs H Q E q=>F.len vs H Q E (h _ _ _ _ q),fun A outer s H args us vs Q E hr he hb hv hs=>F.run A outer s H args us vs Q E hr he hb hv (h _ _ _ _ hs)⟩
theorem Env0.in1 {P:Program} {w:World} {K:PySem.W.Frag} {mg:Str→Option Value} {base:Heap} {A:Around} {outer:List Env} {s:Shared} {H:Hp} (e:Env0 P w K mg base A outer s H) :
    Env0 P w K mg base A.in1 outer s H:=⟨e.frames,e.mod,e.bs,e.bsz,e.funs,e.frf,e.hok,e.bare⟩
section
variable {X:Cx} {pins:List (Addr × Obj)} {σ:St} {H:Hp} {s s':Shared}
theorem Inv.env0 (I:Inv X pins σ H s):Env0 X.prog X.w X.K X.mg X.base X.A X.stack s H :=
  ⟨I.ok.frames,I.ok.mod,I.bs,Nat.le_trans I.ok.bsz I.sz,I.stack,I.stkFree,I.hok,I.bare⟩
theorem Inv.after {Q:VK} {u:Value} (I:Inv X pins σ H s) (h:CE X.stack X.prog X.w H s Q u s'):EP X pins σ Q u s':=by
  obtain ⟨v,H',os,bare,un,hok,r,q⟩:=h
  obtain ⟨hh,g,d,t,os'⟩:=s'
  obtain rfl:os'=s.os:=os
  exact ⟨v,H',I.call (h':=hh) (g':=g) (d':=d) (t':=t) (ch:=[]) un hok bare (fun b z=>absurd z (by simp)),r,q⟩
end
def tCall (sp:Sp) (dvs:List V) (E:XK) (t:TA):TE:=fun σ H Q=>t σ H fun vs H1=>sp (vs++dvs) H1 Q E
def Binds (K:PySem.W.Frag) (fd:FuncData) (ps:List Str) (ds:List Value):Prop :=
  ∀ (s:Shared) (us:List Value),K.In s.heap→(us++ds).length=ps.length→BindsTo s fd ⟨us,[]⟩ (ps.zip (us++ds))
theorem Binds.all {K:PySem.W.Frag} {fd:FuncData} {ps:List Str} (h:∀ us:List Value,us.length=ps.length→bindArgs fd ⟨us,[]⟩=pure (ps.zip us)):Binds K fd ps []:=fun s us _ hl=>by
  rw [List.append_nil] at hl ⊢
  exact .of_eq (h us hl)
def Passes (CX:CXT) (X:Cx) (E:XK):Prop:=∀ (pins:List (Addr × Obj)) (σ:St) (H:Hp) (s:Shared) (e:Value) (s':Shared),Inv X pins σ H s→CX X.stack H s E e s'→X.xe e s'
section
variable {X:Cx} {CX:CXT} {k:Nat} {f C:Addr} {fd:FuncData} {ps:List Str} {sp:Sp} {dvs:List V} {ds:List Value} {E:XK} {x m:Str} {p pos apos:Pos} {e o:Expr} {es:List Expr} {ta:TE} {t:TA}
theorem run_fn {pins:List (Addr × Obj)} {σ:St} {H:Hp} {s:Shared} {Q:VK} {us:List Value} {vs:List V} (F:FnOk X.prog X.w X.K X.mg X.base CX k f fd ps sp) (hr:Room k X.A) (hb:Binds X.K fd ps ds) (hd:Vals dvs ds) (hx:Passes CX X E)
    (I:Inv X pins σ H s) (r:Vals vs us) (h:sp (vs++dvs) H Q E):wpAny (model X.prog X.w) X.A (call (.ref f) us) (EP X pins σ Q) X.xe s:=by
  have r2:Vals (vs++dvs) (us++ds):=r.append hd
  have hl:(us++ds).length=ps.length:=by rw [← r2.length]; exact F.len _ _ _ _ h
  refine wpAny_call (codeAny_mono (F.run X.A X.stack s H ⟨us,[]⟩ (us++ds) (vs++dvs) Q E hr I.env0 (hb s us I.kIn hl) r2 h) fun r s' hq=>?_)
  cases r with
  | error e=>exact hx pins σ H s e s' I hq
  | ok fl =>
    cases fl with
    | ret u=>exact I.after hq
    | next=>exact False.elim hq
    | brk=>exact False.elim hq
    | cont=>exact False.elim hq
theorem pe_call (F:FnOk X.prog X.w X.K X.mg X.base CX k f fd ps sp) (hr:Room k X.A) (hg:Gl X x) (hm:X.mg x=some (.ref f)) (hk:PySem.W.keepIn X.K (.ref f)=true) (hb:Binds X.K fd ps ds) (hd:Vals dvs ds) (hx:Passes CX X E)
    (ha:PA X (e :: es) t) (hdb:(x == ("__debug__" : Str))=false:=by decide) (he:starEach (e :: es) X.env=(false,eval e X.env) :: starEach es X.env:=by rfl) (hpl:(backTo pos (starEach es X.env)).any (·.1)=false:=by rfl) :
    PE X (.Call (.Name x p) (e :: es) [] pos) (tCall sp dvs E t):=by
  intro pins s σ H Q I h
  refine wpAny_Call_Name_kw (ld_glob I hg hm ?_ hdb)
  refine PySem.W.callWith_K (h₀:=X.base) I.ok.mod.kin hk (thn (ha pos pins s σ H _ I h) fun us s1 ⟨vs,H1,I1,r,q⟩=>⟨I1.kIn,?_⟩) he hpl
  exact run_fn F hr hb hd hx I1 r q
structure Mk (K:PySem.W.Frag) (C f:Addr):Prop where
  makes:PySem.W.makesIn K C=true
  init:PySem.W.findIn K (.ref C) "__init__" = some (some (.ref f))
  fn:PySem.W.isFn K (.ref f)=true
  kp:PySem.W.keepIn K (.ref C)=true
end
def PK (X:Cx) (kws:List Keyword) (t:TA):Prop :=
  ∀ (pos:Pos) (pins:List (Addr × Obj)) (s:Shared) (σ:St) (H:Hp) (Q:List V→Hp→Prop),Inv X pins σ H s→t σ H Q→wpAny (model X.prog X.w) X.A (evalAll ((backToKw pos (keywordEach kws X.env)).map (·.2))) (AP X pins σ Q) X.xe s
section
variable {X:Cx} {CX:CXT} {k:Nat} {f C:Addr} {fd:FuncData} {ps ks:List Str} {sp:Sp} {E:XK} {x m:Str} {p pos apos kpos:Pos} {e o:Expr} {es:List Expr} {kws:List Keyword} {te ta:TE} {t tk:TA} {nm:Option Str}
theorem pk_nil:PK X [] tNil:=fun _ _ _ _ H Q I h=>wpAny_evalAll_nil ⟨[],H,I,.nil,h⟩
theorem pk_cons (ha:PE X e te) (hr:PK X kws t):PK X (⟨nm,e,kpos⟩ :: kws) (tCons te t):=by
  intro pos pins s σ H Q I h
  show wpAny _ _ (evalAll ((do let v ← eval e X.env; standAt pos; pure v) :: (backToKw pos (keywordEach kws X.env)).map (·.2))) _ _ s
  refine wpAny_evalAll_cons (wpAny_bind (thn (ha pins s σ H _ I h) fun u s1 ⟨x,H1,I1,r1,q1⟩=>wpAny_bind (wpAny_standAt (wpAny_pure ?_))))
  exact thn (hr pos pins s1 σ H1 _ I1 q1) fun us s2 ⟨xs,H2,I2,r2,q2⟩=>⟨x :: xs,H2,I2,.cons r1 r2,q2⟩
structure KBinds (K:PySem.W.Frag) (fd:FuncData) (ps ks:List Str) (g:List Value→List Value→List Value) (gV:List V→List V→List V):Prop where
  to:∀ (s:Shared) (us ws:List Value),K.In s.heap→(g us ws).length=ps.length→BindsTo s fd ⟨us,ks.zip ws⟩ (ps.zip (g us ws))
  rel:∀ {vs:List V} {us:List Value} {zs:List V} {ws:List Value},Vals vs us→Vals zs ws→Vals (gV vs zs) (g us ws)
variable {g:List Value→List Value→List Value} {gV:List V→List V→List V}
end
structure FnScope (N P:List Str) (sc:Scope):Prop where
  kind:sc.kind=.function
  co:sc.isCoroutine=false
  gen:sc.isGenerator=false
  nd:N.Nodup
  pre:N.take P.length=P
  par:∀ x∈P,sc.names.lookup x=some .local∨sc.names.lookup x=some .cell
  nofree:∀ y∈sc.names,y.2≠.free
theorem bindL_out {kindOf:Str→Option NameKind} {x:Str}:∀ {binds:List (Str × Value)} {m:Str→Option Value},(∀ v,(x,v) ∉ binds)→bindL kindOf binds m x=m x
  | [],_,_=>rfl
  | (n,v) :: r,m,h=>by
    unfold bindL
    rw [bindL_out fun w hw=>h w (List.mem_cons_of_mem _ hw)]
    split
    · have:x≠n:=by rintro rfl; exact h v List.mem_cons_self
      simp [this]
    · rfl
theorem bindC_out {kindOf:Str→Option NameKind} {x:Str}:∀ {binds:List (Str × Value)} {m:Str→Option Value},(∀ v,(x,v) ∉ binds)→bindC kindOf binds m x=m x
  | [],_,_=>rfl
  | (n,v) :: r,m,h=>by
    unfold bindC
    rw [bindC_out fun w hw=>h w (List.mem_cons_of_mem _ hw)]
    split
    · rfl
    · have:x≠n:=by rintro rfl; exact h v List.mem_cons_self
      simp [this]
theorem bindL_get {kindOf:Str→Option NameKind} {x:Str} {v:Value}:∀ {P:List Str} {vs:List Value} {i:Nat} {m:Str→Option Value},P.Nodup→P[i]?=some x→vs[i]?=some v→kindOf x=some .local →
    bindL kindOf (P.zip vs) m x=some v
  | [],_,_,_,_,h,_,_=>by simp at h
  | _ :: _,[],_,_,_,_,h,_=>by simp at h
  | p :: P,w :: vs,0,m,nd,h1,h2,hk=>by
    simp at h1 h2; subst h1; subst h2
    show bindL kindOf ((p,w) :: P.zip vs) m p=_
    unfold bindL
    rw [bindL_out fun v hv=>(List.nodup_cons.mp nd).1 (List.of_mem_zip hv).1,if_pos hk]
    simp
  | p :: P,w :: vs,i+1,m,nd,h1,h2,hk=>by
    show bindL kindOf ((p,w) :: P.zip vs) m x=_
    unfold bindL
    exact bindL_get (i:=i) (List.nodup_cons.mp nd).2 (by simpa using h1) (by simpa using h2) hk
theorem bindC_get {kindOf:Str→Option NameKind} {x:Str} {v:Value}:∀ {P:List Str} {vs:List Value} {i:Nat} {m:Str→Option Value},P.Nodup→P[i]?=some x→vs[i]?=some v→kindOf x≠some .local →
    bindC kindOf (P.zip vs) m x=some v
  | [],_,_,_,_,h,_,_=>by simp at h
  | _ :: _,[],_,_,_,_,h,_=>by simp at h
  | p :: P,w :: vs,0,m,nd,h1,h2,hk=>by
    simp at h1 h2; subst h1; subst h2
    show bindC kindOf ((p,w) :: P.zip vs) m p=_
    unfold bindC
    rw [bindC_out fun v hv=>(List.nodup_cons.mp nd).1 (List.of_mem_zip hv).1,if_neg hk]
    simp
  | p :: P,w :: vs,i+1,m,nd,h1,h2,hk=>by
    show bindC kindOf ((p,w) :: P.zip vs) m x=_
    unfold bindC
    exact bindC_get (i:=i) (List.nodup_cons.mp nd).2 (by simpa using h1) (by simpa using h2) hk
def start (N:List Str) (vs:List V):St:=vs.map some++List.replicate (N.length - vs.length) none
def cxOf (CX:CXT) (P:Program) (w:World) (K:PySem.W.Frag) (mg:Str→Option Value) (base:Heap) (N:List Str) (qual:Str) (scope:Scope) (f:Addr) (cd:Value) (A:Around) (outer:List Env) (s:Shared) (H:Hp) (E:XK):Cx where
  prog:=P
  w:=w
  K:=K
  mg:=mg
  base:=base
  A:=A.deeper (envOfC qual scope s.heap.objs.size f cd)
  N:=N
  s₀:=s
  H₀:=H
  env:=envOfC qual scope s.heap.objs.size f cd
  outer:=outer
  stack:=envOfC qual scope s.heap.objs.size f cd :: outer
  ex:=[]
  calm:=true
  fn:=fun _=>true
  pn:=[]
  xe:=fun e s'=>wpAny (model P w) (A.deeper (envOfC qual scope s.heap.objs.size f cd)) (leaving (envOfC qual scope s.heap.objs.size f cd) e) (fun _ s''=>CX outer H s E e s'') (fun e' s''=>CX outer H s E e' s'') s'
theorem cell_has {sc:Scope} {n:Nat} {x:Str} (h:sc.names.lookup x=some .cell):∃ c,(cellsFrom n sc.names []).lookup x=some c:=by
  have q:=PySem.W.cellsFrom_some sc.names n [] (.inl h)
  exact Option.isSome_iff_exists.mp q
theorem inv_start {CX:CXT} {P:Program} {w:World} {K:PySem.W.Frag} {mg:Str→Option Value} {base:Heap} {N ps:List Str} {qual:Str} {scope:Scope} {f:Addr} {cd:Value} {A:Around} {outer:List Env} {s s1:Shared} {H:Hp} {E:XK} {us:List Value} {vs:List V}
    (S:FnScope N ps scope) (hd:A.handled=none) (e0:Env0 P w K mg base A outer s H) (hl:vs.length=ps.length) (r:Vals vs us)
    (x:InCallC s s.heap.objs.size (bindL (envOfC qual scope s.heap.objs.size f cd).kindOf (ps.zip us) fun _=>none) (cellsFrom (s.heap.objs.size+1) scope.names []) (bindC (envOfC qual scope s.heap.objs.size f cd).kindOf (ps.zip us) fun _=>none) s1) :
    Inv (cxOf CX P w K mg base N qual scope f cd A outer s H E) [] (start N vs) H s1:=by
  have hpl:ps.length≤N.length:=by have:=congrArg List.length S.pre; rw [List.length_take] at this; omega
  obtain ⟨h1,tk,rfl,hk⟩:=x.done
  have noA:∀ b:Addr,b ∉ (cxOf CX P w K mg base N qual scope f cd A outer s H E).ex:=fun b z=>absurd (show b∈([]:List Addr) from z) (by simp)
  refine ⟨⟨e0.mod,S.kind,rfl,rfl,Nat.le_refl _,fun y z c h1 h2=>?_,fun y hy=>?_,fun y c _ h=>?_,fun _=>hd,Around.frames_deeper e0.frames,.inr ⟨rfl,rfl⟩,fun b z=>absurd z (noA b),e0.bs,e0.bsz,fun b _ _=>noA b,fun b z=>absurd z (noA b),e0.funs,e0.frf⟩,
    rfl,e0.bare,Un.kept hk,⟨_,x.toInCall.ns,fun i y v h1 h2 h3=>?_⟩,fun y c h=>⟨_,x.cell y c h⟩,e0.hok.fresh (Nat.le_refl _),fun y c h=>?_,fun p hp=>absurd (show p∈([]:List (Addr × Obj)) from hp) (by simp),e0.hok.kept hk,?_⟩
  · exact name_of_addr x.apart (PySem.mem_of_lookup h1) (PySem.mem_of_lookup h2)
  · have hy:scope.names.lookup y=some .cell∨scope.names.lookup y=some .free:=hy
    rcases hy with hy | hy
    · exact cell_has hy
    · exact absurd rfl (S.nofree _ (PySem.mem_of_lookup hy))
  · exact Nat.le_of_lt (x.above y c (PySem.mem_of_lookup h))
  · have hi:i < vs.length:=by
      unfold start at h2
      by_cases hi:i < vs.length
      · exact hi
      · rw [List.getElem?_append_right (by simpa using hi)] at h2
        rw [List.getElem?_replicate] at h2
        split at h2 <;> cases h2
    have ha:vs[i]?=some v:=by
      unfold start at h2
      rw [List.getElem?_append_left (by simpa using hi),List.getElem?_map] at h2
      cases e:vs[i]? with
      | none=>rw [e] at h2; cases h2
      | some a=>rw [e] at h2; cases h2; rfl
    obtain ⟨u,hu,rv⟩:=r.get ha
    have hp:ps[i]?=some y:=by
      rw [← S.pre,List.getElem?_take_of_lt (by omega)]; exact h1
    have ndP:ps.Nodup:=by rw [← S.pre]; exact S.nd.sublist (List.take_sublist _ _)
    refine ⟨u,rv,?_⟩
    rcases S.par y (List.mem_of_getElem? hp) with k | k
    · exact .inl ⟨k,bindL_get ndP hp hu k⟩
    · obtain ⟨c,e⟩:=cell_has (n:=s.heap.objs.size+1) k
      refine .inr ⟨.inl k,c,e,?_⟩
      have q:=x.cell y c e
      rw [bindC_get ndP hp hu (by show scope.names.lookup y≠_; rw [k]; decide)] at q
      exact q
  · exact e0.hok.fresh (Nat.le_of_lt (x.above y c (PySem.mem_of_lookup h)))
  · unfold start
    show _=N.length
    rw [List.length_append,List.length_map,List.length_replicate]
    omega
theorem fn_of {CX:CXT} {P:Program} {w:World} {K:PySem.W.Frag} {mg:Str→Option Value} {base:Heap} {k:Nat} {f:Addr} {name qual:Str} {params:Arguments} {body:List Stmt} {scope:Scope} {dV kV doc pm cdv ct oc:Value} {an od:Option Addr}
    {osl:Array (Option Value)} {N ps:List Str} {sp:Sp} (lk:K.lookup f=some ⟨oc,od,.func (PySem.W.fnOf name qual params body scope dV kV doc pm an cdv ct),osl⟩) (hcd:PySem.W.codeIn K cdv qual=true) (S:FnScope N ps scope)
    (len:∀ vs H Q E,sp vs H Q E→vs.length=ps.length)
    (hbody:∀ (A:Around) (outer:List Env) (s:Shared) (H:Hp) (vs:List V) (Q:VK) (E:XK),Room k (A.deeper (envOfC qual scope s.heap.objs.size f cdv))→sp vs H Q E →
      ∃ t,PSs (cxOf CX P w K mg base N qual scope f cdv A outer s H E) body t∧t { nx:=fun _ H'=>Q .non H',rt:=Q } (start N vs) H) :
    FnOk P w K mg base CX (k+1) f (PySem.W.fnOf name qual params body scope dV kV doc pm an cdv ct) ps sp:=by
  refine ⟨len,fun A outer s H args us vs Q E hr e0 hb r hsp=>?_⟩
  have hl:=len _ _ _ _ hsp
  have KX:K.In s.heap:=e0.mod.kin.keeps fun b o e=>(e0.bs b o e).1
  have lim:s.heap.NoLimit:=e0.mod.nolimit.keeps fun b o e=>(e0.bs b o e).1
  have hkind:∀ y∈ps.zip us,scope.names.lookup y.1=some .local∨(scope.names.lookup y.1=some .cell∧((cellsFrom (s.heap.objs.size+1) scope.names []).lookup y.1).isSome=true):=fun ⟨n,v⟩ hy=>by
    rcases S.par n (List.of_mem_zip hy).1 with q | q
    · exact .inl q
    · exact .inr ⟨q,PySem.W.cellsFrom_some _ _ _ (.inl q)⟩
  refine codeAny_call_function hr.depth (KX _ _ lk) rfl S.co S.gen rfl (PySem.W.codeRec_of KX hcd) (hb _ _ _ _ ?_)
  refine wpAny_newFunctionEnv_cells S.kind hkind fun env he s1 x=>?_
  subst he
  refine ⟨lim.keeps x.toInCall.keep,codeAny_func ?_⟩
  obtain ⟨t,ht,hq⟩:=hbody A outer s H vs Q E (hr.deeper _) hsp
  have I:Inv (cxOf CX P w K mg base N qual scope f cdv A outer s H E) [] (start N vs) H s1:=inv_start S hr.hd e0 hl r x
  refine wpAny_mono (ht [] s1 (start N vs) H _ I hq) (fun fl s' hs=>?_) fun e s' hs=>hs
  have fin:∀ {σ':St} {H':Hp} {v:V} {u:Value},Inv (cxOf CX P w K mg base N qual scope f cdv A outer s H E) [] σ' H' s'→RelV v u→Q v H'→CE outer P w H s Q u s' :=
    fun {σ' H' v u} J rv q=>⟨v,H',J.os,J.bare,J.base,J.hok,rv,q⟩
  cases fl with
  | ret u =>
    obtain ⟨v,σ',H',J,rv,q⟩:=hs
    exact fin J rv q
  | next =>
    obtain ⟨σ',H',J,q⟩:=hs
    exact fin (v:=V.non) (u:=Value.none) J rfl q
  | brk =>
    obtain ⟨_,_,_,q⟩:=hs
    exact False.elim q
  | cont =>
    obtain ⟨_,_,_,q⟩:=hs
    exact False.elim q
end L2
namespace L2
open PySem PySem.Spec PyProof.Rows
section
variable {X:Cx} {x:Str} {p pos:Pos} {e:Expr} {es:List Expr} {t:TA} {id T:String} {r:List V→Hp→VK→Prop}
def tCB (r:List V→Hp→VK→Prop) (t:TA):TE:=fun σ H Q=>t σ H fun vs H1=>r vs H1 Q
theorem pe_callB (hc:CallR X (.builtin id) r) (hg:Gl X x) (hm:X.mg x=none) (hv:bootBuiltins x=some (.builtin id)) (ha:PA X (e :: es) t) (hn:x ≠ "__name__":=by decide) (hdb:(x == ("__debug__" : Str))=false:=by decide)
    (he:starEach (e :: es) X.env=(false,eval e X.env) :: starEach es X.env:=by rfl) (hpl:(backTo pos (starEach es X.env)).any (·.1)=false:=by rfl):PE X (.Call (.Name x p) (e :: es) [] pos) (tCB r t):=by
  intro pins s σ H Q I h
  refine wpAny_Call_Name_kw (ld_blt I hg hm hv ?_ hn hdb)
  exact PyProof.Rows.callWith_builtin1 (thn (ha pos pins s σ H _ I h) fun us s1 ⟨vs,H1,I1,r1,q1⟩=>hc pins s1 σ H1 vs us Q I1 r1 q1) he hpl
theorem pe_callTy (hc:CallR X (.type T) r) (hg:Gl X x) (hm:X.mg x=none) (hv:bootBuiltins x=some (.type T)) (ha:PA X (e :: es) t) (hn:x ≠ "__name__":=by decide) (hdb:(x == ("__debug__" : Str))=false:=by decide)
    (he:starEach (e :: es) X.env=(false,eval e X.env) :: starEach es X.env:=by rfl) (hpl:(backTo pos (starEach es X.env)).any (·.1)=false:=by rfl):PE X (.Call (.Name x p) (e :: es) [] pos) (tCB r t):=by
  intro pins s σ H Q I h
  refine wpAny_Call_Name_kw (ld_blt I hg hm hv ?_ hn hdb)
  exact PyProof.Rows.callWith_type1 (thn (ha pos pins s σ H _ I h) fun us s1 ⟨vs,H1,I1,r1,q1⟩=>hc pins s1 σ H1 vs us Q I1 r1 q1) he hpl
end
end L2
namespace HT
open PySem PyProof.Rows
section
open PySem.SeqAt
open PySem.AutoSeq1 (wpAny_loadPart')
open PySem.MeetsSeq PySem.MeetsSeq2 PySem.MeetsSeq3
end
section
variable {prog:Program} {w:World} {A:Around} {E:Value→Shared→Prop} {s:Shared}
theorem cat_tup {t b:Addr} {vs ws:List Value} {Q:Value→Shared→Prop} (ht:IsTup s.heap t vs.toArray) (hb:IsTup s.heap b ws.toArray) (hv:vs≠[])
    (h1:ws=[]→Q (.ref t) s) (h2:ws≠[]→Q (.ref s.heap.objs.size) { s with heap:=s.heap.push { cls:=.type "tuple",data:=.seq (vs++ws).toArray } })
    (hsz:vs.length+ws.length≤sizeLine):wpAny (model prog w) A (binaryOp .Add (.ref t) (.ref b)) Q E s:=by
  obtain ⟨⟨cls,dd,data,sl⟩,ho,hc,n,hd⟩:=id ht
  obtain ⟨⟨cls2,dd2,data2,sl2⟩,ho2,hc2,n2,hd2⟩:=id hb
  simp only at hc hd hc2 hd2
  subst hc hd hc2 hd2
  have e:vs.toArray++ws.toArray=(vs++ws).toArray:=by simp
  by_cases hw:ws=[]
  · exact concat_meets ⟨_,ho,rfl⟩ ⟨_,ho2,rfl⟩ noFill_tuple_add seq_tuple_add PySem.F.slot_tuple_add PySem.F.entry_tuple_add (PySem.F.args_tuple_add_2 _ _)
      (tuple_addW1 t b vs.toArray ws.toArray n n2 dd dd2 sl sl2 (by simpa using hv) (by simp [hw])) ⟨ho,ho2,h1 hw⟩
  · refine concat_meets ⟨_,ho,rfl⟩ ⟨_,ho2,rfl⟩ noFill_tuple_add seq_tuple_add PySem.F.slot_tuple_add PySem.F.entry_tuple_add (PySem.F.args_tuple_add_2 _ _)
      (tuple_addW2 t b vs.toArray ws.toArray n n2 dd dd2 sl sl2 (by simpa using hv) (by simpa using hw) (by rw [List.size_toArray,List.size_toArray]; exact hsz)) ⟨ho,ho2,?_⟩
    rw [e]
    exact h2 hw
def sIx (n d:Nat):Option Int→Nat
  | none=>d
  | some v=>if v < 0 then (v+(n:Int)).toNat else min v.toNat n
theorem sIx_none (n d:Nat):sIx n d none=d:=rfl
theorem sIx_nat (n d k:Nat):sIx n d (some (k:Int))=min k n:=by
  show (if (k:Int) < 0 then ((k:Int)+(n:Int)).toNat else min (k:Int).toNat n)=min k n
  rw [if_neg (by omega),Int.toNat_natCast]
theorem sIx_le (n d:Nat) (hd:d≤n) (o:Option Int):sIx n d o≤n:=by
  cases o with
  | none=>exact hd
  | some v =>
    show (if v < 0 then (v+(n:Int)).toNat else min v.toNat n)≤n
    by_cases hv:v < 0
    · rw [if_pos hv]; omega
    · rw [if_neg hv]; exact Nat.min_le_right _ _
theorem clip_eq (v:Int) (n d:Nat):(if v < 0 then max (v+(n:Int)) 0 else min v (n:Int))=((sIx n d (some v):Nat):Int):=by
  show (if v < 0 then max (v+(n:Int)) 0 else min v (n:Int))=(((if v < 0 then (v+(n:Int)).toNat else min v.toNat n):Nat):Int)
  by_cases hv:v < 0
  · simp only [if_pos hv]; omega
  · simp only [if_neg hv]; omega
theorem adjust_gen (lo hi:Option Int) (n:Nat):Builtin.Slice.sliceAdjust lo hi 1 (n:Int)=(((sIx n 0 lo:Nat):Int),((sIx n n hi:Nat):Int)):=by
  have h1:¬ ((1:Int) < 0):=by omega
  unfold Builtin.Slice.sliceAdjust
  simp only [h1,if_false]
  refine Prod.ext ?_ ?_
  · cases lo with
    | none=>rfl
    | some v=>exact clip_eq v n 0
  · cases hi with
    | none=>rfl
    | some v=>exact clip_eq v n n
theorem places_gen (i j:Nat):Builtin.Slice.slicePlaces (i:Int) (j:Int) 1=j - i:=by
  unfold Builtin.Slice.slicePlaces
  have h1:(1:Int) > 0:=by omega
  simp only [h1,if_true,Int.ediv_one]
  split <;> omega
theorem slicePart_ {v:Value} {o:Option Int} {Q:Option Int→Shared→Prop} (p:IsPart v o) (h:Q o s):wpAny (model prog w) A (Builtin.Slice.slicePartIndex v) Q E s:=by
  cases p with
  | none=>exact slicePart_none h
  | int i t=>exact slicePart_int h
theorem sliceApplied_gen {sl:Addr} {vl vu:Value} {lo hi:Option Int} {n:Nat} {Q:Int × Int × Nat→Shared→Prop} (hs:s.heap.IsSliceOf sl vl vu .none) (pl:IsPart vl lo) (pu:IsPart vu hi)
    (h:Q (((sIx n 0 lo:Nat):Int),1,sIx n n hi - sIx n 0 lo) s):wpAny (model prog w) A (Builtin.Slice.sliceApplied (.ref sl) (pure (n:Int))) Q E s:=by
  obtain ⟨os,hos,hcs,hds⟩:=id hs
  unfold Builtin.Slice.sliceApplied Builtin.Slice.sliceFields
  refine wpAny_bind (wpAny_bind (wpAny_field hos hds (x:=vl) rfl (wpAny_bind (wpAny_field hos hds (x:=vu) rfl (wpAny_bind (wpAny_field hos hds (x:=.none) rfl (wpAny_pure ?_)))))))
  refine wpAny_bind (slicePart_none ?_)
  show wpAny _ _ (if ((1:Int) == 0)=true then _ else _) _ _ s
  rw [if_neg (by decide)]
  refine wpAny_bind (slicePart_ pl (wpAny_bind (slicePart_ pu (wpAny_bind (wpAny_pure ?_)))))
  show wpAny _ _ (match Builtin.Slice.sliceAdjust lo hi 1 (n:Int) with | (lo,hi)=>pure (lo,(1:Int),Builtin.Slice.slicePlaces lo hi 1)) _ _ s
  rw [adjust_gen lo hi n]
  show wpAny _ _ (pure (((sIx n 0 lo:Nat):Int),(1:Int),Builtin.Slice.slicePlaces ((sIx n 0 lo:Nat):Int) ((sIx n n hi:Nat):Int) 1)) _ _ s
  rw [places_gen]
  exact wpAny_pure h
theorem pick_gen (xs:Array Value) (i k:Nat):((List.range k).filterMap fun (m:Nat)=>xs[((i:Int)+(m:Int) * 1).toNat]?).toArray=((xs.toList.drop i).take k).toArray:=by
  have e:(fun (m:Nat)=>xs[((i:Int)+(m:Int) * 1).toNat]?)=fun m=>xs[i+m]?:=by
    funext m
    have:((i:Int)+(m:Int) * 1).toNat=i+m:=by omega
    rw [this]
  rw [e]
  have:=pick_run xs i k
  rw [List.filterMap_map] at this
  have e2:((fun x=>xs[x]?) ∘ fun x=>i+x)=fun m=>xs[i+m]?:=rfl
  rw [e2] at this
  rw [this]
theorem getItem_tuple_cut {t sl:Addr} {items:Array Value} {vl vu:Value} {lo hi:Option Int} {Q:Value→Shared→Prop} (ht:IsTup s.heap t items) (hs:s.heap.IsSliceOf sl vl vu .none) (pl:IsPart vl lo) (pu:IsPart vu hi)
    (hw:¬ (sIx items.size 0 lo=0∧sIx items.size items.size hi=items.size))
    (h:Q (.ref s.heap.objs.size) { s with heap:=s.heap.push { cls:=.type "tuple",data:=.seq ((items.toList.drop (sIx items.size 0 lo)).take (sIx items.size items.size hi - sIx items.size 0 lo)).toArray } })
    (hsz:items.size≤sizeLine):wpAny (model prog w) A (getItem (.ref t) (.ref sl)) Q E s:=by
  have htake:sizeOk (.seq ((items.toList.drop (sIx items.size 0 lo)).take (sIx items.size items.size hi - sIx items.size 0 lo)).toArray):=by
    show ((items.toList.drop (sIx items.size 0 lo)).take (sIx items.size items.size hi - sIx items.size 0 lo)).toArray.size≤sizeLine
    rw [List.size_toArray,List.length_take,List.length_drop,Array.length_toList]
    omega
  have hj:sIx items.size items.size hi≤items.size:=sIx_le _ _ (Nat.le_refl _) hi
  obtain ⟨os,hos,hcs,hds⟩:=id hs
  have hTs:s.TypeIs (.ref sl) "slice":=⟨os,hos,hcs⟩
  unfold getItem
  try with_reducible refine wpAny_holding ?_
  first | refine wpAny_bind (wpAny_pure ?_) | skip
  refine wpAny_bind (wpAny_sequenceKey ht.typeIs (by decide) ?_)
  refine wpAny_bind (wpAny_callSpecial?_slot (name:=Str.ofString "__getitem__") ht.typeIs PyProof.Rows.slot_tuple_getitem
    (wpAny_call_entry PyProof.Rows.slot_tuple_getitem ht.typeIs entry_tuple_getitem ?_ (args_tuple_getitem _ _)))
  show wpAny _ _ (Builtin.Tuple.tupleItemsOf (.ref t) >>= _) _ _ s
  refine wpAny_bind (tupleItemsOf_ ht ?_)
  refine wpAny_bind (wpAny_typeOf hTs ?_)
  rw [if_pos (by decide)]
  refine wpAny_bind (sliceApplied_gen hs pl pu ?_)
  have hno:¬ ((((sIx items.size 0 lo:Nat):Int) == 0 && (1:Int) == 1 && (sIx items.size items.size hi - sIx items.size 0 lo) == items.size)=true):=by
    intro q
    rw [Bool.and_eq_true,Bool.and_eq_true] at q
    have q1:((sIx items.size 0 lo:Nat):Int)=0:=eq_of_beq q.1.1
    have q2:sIx items.size items.size hi - sIx items.size 0 lo=items.size:=eq_of_beq q.2
    exact hw ⟨by omega,by omega⟩
  show wpAny _ _ (if (((sIx items.size 0 lo:Nat):Int) == 0 && (1:Int) == 1 && (sIx items.size items.size hi - sIx items.size 0 lo) == items.size)=true then _ else _) _ _ s
  rw [if_neg hno,pick_gen]
  first
    | exact wpAny_bind (m:=Builtin.Tuple.tupleExact _) (wpAny_newObj_type (wpAny_pure ⟨_,rfl,wpAny_pure h⟩) htake)
    | exact wpAny_bind (m:=Builtin.Tuple.tupleExact _) (wpAny_newObj_type (wpAny_bind (wpAny_pure (wpAny_pure ⟨_,rfl,wpAny_pure h⟩))) htake)
    | exact wpAny_bind (wpAny_bind (m:=Builtin.Tuple.tupleExact _) (wpAny_newObj_type (wpAny_pure (wpAny_pure ⟨_,rfl,wpAny_pure h⟩)) htake))
    | exact wpAny_bind (wpAny_bind (m:=Builtin.Tuple.tupleExact _) (wpAny_newObj_type (wpAny_pure ⟨_,rfl,wpAny_pure h⟩) htake))
end
end HT
namespace L2
open PySem PySem.Spec PyProof.Rows
abbrev TO:=St→Hp→(Option Int→Hp→Prop)→Prop
def PO (X:Cx) (e:Option Expr) (t:TO):Prop :=
  ∀ (pins:List (Addr × Obj)) (s:Shared) (σ:St) (H:Hp) (Q:Option Int→Hp→Prop),Inv X pins σ H s→t σ H Q →
    wpAny (model X.prog X.w) X.A (evalPart e X.env) (fun u s'=>∃ o H',Inv X pins σ H' s'∧IsPart u o∧Q o H') X.xe s
def tNoPart:TO:=fun _ H Q=>Q none H
def tPart (t:TE):TO:=fun σ H Q=>t σ H fun x H1=>∃ i,x=.int i∧Q (some i) H1
section
variable {X:Cx} {e:Expr} {te:TE} {lo hi:Option Expr} {tl th:TO} {pos p2:Pos}
theorem po_none:PO X none tNoPart:=by
  intro pins s σ H Q I h
  rw [evalPart_none]
  exact wpAny_pure ⟨none,H,I,.none,h⟩
theorem po_some (h:PE X e te):PO X (some e) (tPart te):=by
  intro pins s σ H Q I hw
  rw [evalPart_some]
  refine thn (h pins s σ H _ I hw) fun u s1 ⟨x,H1,I1,r1,q1⟩=>?_
  obtain ⟨i,rfl,q⟩:=q1
  obtain ⟨t,rfl⟩:=r1
  exact ⟨some i,H1,I1,.int i t,q⟩
def SlR (X:Cx) (r:V→Option Int→Option Int→Hp→VK→Prop):Prop :=
  ∀ (pins:List (Addr × Obj)) (s:Shared) (σ:St) (H:Hp) (x:V) (v vl vu:Value) (lo hi:Option Int) (sl:Addr) (Q:VK),Inv X pins σ H s→RelV x v→s.heap.IsSliceOf sl vl vu .none→IsPart vl lo→IsPart vu hi→r x lo hi H Q →
    ∃ T id,typeLookup (.type T) "__getitem__" = pure (some (.builtin id))∧s.TypeIs v T∧wpAny (model X.prog X.w) X.A (getItem v (.ref sl)) (EP X pins σ Q) X.xe s
theorem SlR.or {r r':V→Option Int→Option Int→Hp→VK→Prop} (h:SlR X r) (h':SlR X r'):SlR X (fun x lo hi H Q=>r x lo hi H Q∨r' x lo hi H Q):=by
  intro pins s σ H x v vl vu lo hi sl Q I rx hs pl pu q
  rcases q with q | q
  · exact h pins s σ H x v vl vu lo hi sl Q I rx hs pl pu q
  · exact h' pins s σ H x v vl vu lo hi sl Q I rx hs pl pu q
def tSl (r:V→Option Int→Option Int→Hp→VK→Prop) (te:TE) (tl th:TO):TE:=fun σ H Q=>te σ H fun x H1=>tl σ H1 fun l H2=>th σ H2 fun u H3=>r x l u H3 Q
theorem pe_slice {r:V→Option Int→Option Int→Hp→VK→Prop} (hr:SlR X r) (he:PE X e te) (hl:PO X lo tl) (hu:PO X hi th):PE X (.Subscript e (.Slice lo hi none p2) pos) (tSl r te tl th):=by
  intro pins s σ H Q I h
  refine Subscript_ (thn (he pins s σ H _ I h) fun v s1 ⟨x,H1,I1,r1,q1⟩=>?_)
  refine wpAny_Slice (thn (hl pins s1 σ H1 _ I1 q1) fun vl s2 ⟨l,H2,I2,pl,q2⟩=>thn (hu pins s2 σ H2 _ I2 q2) fun vu s3 ⟨u,H3,I3,pu,q3⟩=>?_)
  rw [evalPart_none]
  refine wpAny_pure ?_
  have I4:Inv X pins σ H3 { s3 with heap:=s3.heap.push { cls:=.type "slice",data:=.fields #[vl,vu,.none] } }:=I3.kept (t':=s3.toks) fun b ob q=>Heap.get?_push_of_some _ q
  obtain ⟨T,id,hT,ht,hg⟩:=hr pins { s3 with heap:=s3.heap.push { cls:=.type "slice",data:=.fields #[vl,vu,.none] } } σ H3 x v vl vu l u s3.heap.objs.size Q I4 r1 (Heap.IsSliceOf.new ..) pl pu q3
  show wpAny (model X.prog X.w) X.A (subscriptTail e (.Slice lo hi none p2) v (.ref s3.heap.objs.size)) (EP X pins σ Q) X.xe { s3 with heap:=s3.heap.push { cls:=.type "slice",data:=.fields #[vl,vu,.none] } }
  exact tail_any (ops:=[.ref s3.heap.objs.size,v]) ht hT hg (by with_unfolding_all rfl)
def cutV (xs:List V) (lo hi:Option Int):List V:=(xs.drop (HT.sIx xs.length 0 lo)).take (HT.sIx xs.length xs.length hi - HT.sIx xs.length 0 lo)
theorem cutV_length (xs:List V) (lo hi:Option Int):(cutV xs lo hi).length≤xs.length:=by
  unfold cutV
  rw [List.length_take,List.length_drop]
  omega
def rSlT (K:PySem.W.Frag):V→Option Int→Option Int→Hp→VK→Prop:=fun x lo hi H Q=>∃ a xs,x=.ref a∧SqT K H a xs ∧
  ¬ (HT.sIx xs.length 0 lo=0∧HT.sIx xs.length xs.length hi=xs.length)∧∀ p,H p=none→Q (.ref p) (upd H p (.tup (cutV xs lo hi)))
theorem sl_tup:SlR X (rSlT X.K):=by
  intro pins s σ H x v vl vu lo hi sl Q I rx hs pl pu h
  obtain ⟨a,xs,rfl,hx,hw,q⟩:=h
  cases rx
  obtain ⟨its,r,ht,hz⟩:=I.tuple hx
  have hlen:its.toArray.size=xs.length:=by rw [List.size_toArray]; exact r.length.symm
  refine ⟨"tuple",_,PyProof.Rows.slot_tuple_getitem.lookup,ht.typeIs,?_⟩
  refine HT.getItem_tuple_cut ht hs pl pu (by rw [hlen]; exact hw) ?_ (by rw [hlen]; exact hz)
  rw [hlen]
  refine ⟨.ref s.heap.objs.size,_,I.laid (t':=s.toks) (o:=.tup (cutV xs lo hi)) (fun b ob q=>Heap.get?_push_of_some _ q) (Nat.le_refl _) ?_,rfl,q _ (I.hok.fresh (Nat.le_refl _))⟩
  exact ⟨Nat.le_trans (cutV_length xs lo hi) hz,_,(r.drop (HT.sIx xs.length 0 lo)).take (HT.sIx xs.length xs.length hi - HT.sIx xs.length 0 lo),IsTup.new _ _⟩
def rCatT (K:PySem.W.Frag):R2:=fun x y H Q=>∃ a b xs ys,x=.ref a∧y=.ref b∧SqT K H a xs∧SqT K H b ys∧xs≠[]∧xs.length+ys.length≤sizeLine ∧
  (ys=[]→Q (.ref a) H)∧(ys≠[]→∀ p,H p=none→Q (.ref p) (upd H p (.tup (xs++ys))))
theorem Vals.nil_iff {xs:List V} {us:List Value} (r:Vals xs us):us=[]↔xs=[]:=by
  cases r with
  | nil=>simp
  | cons _ _=>simp
theorem op_catT:OpR X (binaryOp .Add) (rCatT X.K):=by
  intro pins s σ H x y v u Q I rx ry h
  obtain ⟨a,b,xs,ys,rfl,rfl,ha,hb,hx,hz,q1,q2⟩:=h
  cases rx
  cases ry
  obtain ⟨its,r1,p1,_⟩:=I.tuple ha
  obtain ⟨its2,r2,p2,_⟩:=I.tuple hb
  refine HT.cat_tup p1 p2 (fun z=>hx (r1.nil_iff.mp z)) (fun z=>⟨.ref a,H,I,rfl,q1 (r2.nil_iff.mp z)⟩) (fun z=>?_) (by rw [← r1.length,← r2.length]; exact hz)
  refine ⟨.ref s.heap.objs.size,_,I.laid (t':=s.toks) (o:=.tup (xs++ys)) (fun b ob q=>Heap.get?_push_of_some _ q) (Nat.le_refl _) ?_,rfl,q2 (fun w=>z (r2.nil_iff.mpr w)) _ (I.hok.fresh (Nat.le_refl _))⟩
  exact ⟨by rw [List.length_append]; exact hz,_,r1.append r2,IsTup.new _ _⟩
end
end L2
namespace L2
open PySem PySem.Spec PyProof.Rows
def ixN (n:Nat) (i:Int):Option Nat:=if 0≤i then (if i < n then some i.toNat else none) else if -(n:Int)≤i then some (i+n).toNat else none
def atI {α:Type} (xs:List α) (i:Int):Option α:=(ixN xs.length i).bind fun j=>xs[j]?
theorem ixN_seq {n:Nat} {i:Int} {j:Nat} (h:ixN n i=some j):seqIndex? i n=some j∧j < n∧-(n:Int)≤i∧i < n:=by
  unfold ixN at h
  by_cases h0:0≤i
  · rw [if_pos h0] at h
    by_cases h1:i < n
    · rw [if_pos h1] at h
      have e:i.toNat=j:=Option.some.inj h
      exact ⟨by rw [seqIndex_of h0 h1,e],by omega,by omega,h1⟩
    · rw [if_neg h1] at h; cases h
  · rw [if_neg h0] at h
    by_cases h1:-(n:Int)≤i
    · rw [if_pos h1] at h
      have e:(i+n).toNat=j:=Option.some.inj h
      exact ⟨by rw [seqIndex_neg (by omega) h1,e],by omega,h1,by omega⟩
    · rw [if_neg h1] at h; cases h
theorem atI_get {α:Type} {xs:List α} {i:Int} {v:α} (h:atI xs i=some v):∃ j,seqIndex? i xs.length=some j∧xs[j]?=some v∧j < xs.length∧-(xs.length:Int)≤i∧i < xs.length:=by
  unfold atI at h
  cases e:ixN xs.length i with
  | none=>rw [e] at h; cases h
  | some j =>
    rw [e] at h
    obtain ⟨h1,h2,h3,h4⟩:=ixN_seq e
    exact ⟨j,h1,h,h2,h3,h4⟩
theorem atI_nat {α:Type} {xs:List α} {j:Nat} {v:α} (h:xs[j]?=some v):atI xs (j:Int)=some v:=by
  have hj:j < xs.length:=(List.getElem?_eq_some_iff.mp h).1
  have e:ixN xs.length (j:Int)=some j:=by
    unfold ixN
    rw [if_pos (by omega),if_pos (by omega)]; simp
  unfold atI; rw [e]; exact h
def PlainIx (b:Expr):Prop:=∀ o i,subscripted b false o i=operate [o,i] (getItem o i)
def IxR (X:Cx) (r:R2):Prop :=
  ∀ (value slice:Expr) (pins:List (Addr × Obj)) (s:Shared) (σ:St) (H:Hp) (x y:V) (v u:Value) (Q:VK),Inv X pins σ H s→RelV x v→RelV y u→r x y H Q →
    subscripted slice false v u=operate [v,u] (getItem v u)→wpAny (model X.prog X.w) X.A (subscriptTail value slice v u) (EP X pins σ Q) X.xe s
def MtR (X:Cx) (id:String) (r:V→List V→Hp→VK→Prop):Prop :=
  ∀ (pins:List (Addr × Obj)) (s:Shared) (σ:St) (H:Hp) (x:V) (xs:List V) (v:Value) (us:List Value) (Q:VK),Inv X pins σ H s→RelV x v→Vals xs us→r x xs H Q →
    wpAny (model X.prog X.w) X.A (call (.builtin id) (v :: us)) (EP X pins σ Q) X.xe s
section
variable {X:Cx} {a b:Expr} {ta tb:TE} {pos:Pos}
theorem IxR.or {r r':R2} (h:IxR X r) (h':IxR X r'):IxR X (fun x y H Q=>r x y H Q∨r' x y H Q):=by
  intro value slice pins s σ H x y v u Q I rx ry q hs
  rcases q with q | q
  · exact h value slice pins s σ H x y v u Q I rx ry q hs
  · exact h' value slice pins s σ H x y v u Q I rx ry q hs
theorem MtR.or {id:String} {r r':V→List V→Hp→VK→Prop} (h:MtR X id r) (h':MtR X id r'):MtR X id (fun x xs H Q=>r x xs H Q∨r' x xs H Q):=by
  intro pins s σ H x xs v us Q I rx rs q
  rcases q with q | q
  · exact h pins s σ H x xs v us Q I rx rs q
  · exact h' pins s σ H x xs v us Q I rx rs q
theorem pe_ix {r:R2} (hr:IxR X r) (ha:PE X a ta) (hb:PE X b tb) (hs:PlainIx b):PE X (.Subscript a b pos) (tOp r ta tb):=by
  intro pins s σ H Q I h
  exact Subscript_ (binT ha hb I h fun v u s2 x y H2 I2 rx ry q=>hr a b pins s2 σ H2 x y v u Q I2 rx ry q (hs _ _))
def rIxL (K:PySem.W.Frag):R2:=fun x y H Q=>∃ p xs i v,x=.ref p∧y=.int i∧SqL K H p xs∧atI xs i=some v∧Q v H
def rIxT (K:PySem.W.Frag):R2:=fun x y H Q=>∃ p xs i v,x=.ref p∧y=.int i∧SqT K H p xs∧atI xs i=some v∧Q v H
def rIxS:R2:=fun x y H Q=>∃ z i c,x=.str z∧y=.int i∧z.length≤sizeLine∧atI z.cps.toList i=some c∧Q (.str ⟨#[c]⟩) H
theorem ix_list:IxR X (rIxL X.K):=by
  intro value slice pins s σ H x y v u Q I rx ry h hs
  obtain ⟨p,xs,i,z,rfl,rfl,hq,he,q⟩:=h
  cases rx
  obtain ⟨t,rfl⟩:=ry
  obtain ⟨its,r,pl,hz⟩:=I.list hq
  obtain ⟨j,h1,h2,h3,h4,h5⟩:=atI_get he
  obtain ⟨w,ew,rw'⟩:=r.get h2
  have hl:=r.length
  have hn:=line63
  have fin:EP X pins σ Q w s:=⟨z,H,I,rw',q⟩
  by_cases h0:0≤i
  · have hj:i.toNat=j:=by
      rw [seqIndex_of h0 h5] at h1
      exact Option.some.inj h1
    exact item_listR pl.isList h0 (by omega) (by rw [hj]; simpa using ew) fin hs
  · have hj:(i+(its.toArray.size:Int)).toNat=j:=by
      rw [seqIndex_neg (by omega) h4] at h1
      rw [List.size_toArray,← hl]
      exact Option.some.inj h1
    exact subscriptTail_builtinR (x:=w) pl.isList.typeIs slot_list_getitem.lookup
      (wpAny_getItem_list_neg (Q:=fun r s'=>r=w∧EP X pins σ Q r s') pl.isList (by omega) (by rw [List.size_toArray] <;> omega) (by omega) (by rw [hj]; simpa using ew) ⟨rfl,fin⟩) hs
theorem ix_tup:IxR X (rIxT X.K):=by
  intro value slice pins s σ H x y v u Q I rx ry h hs
  obtain ⟨p,xs,i,z,rfl,rfl,hq,he,q⟩:=h
  cases rx
  obtain ⟨t,rfl⟩:=ry
  obtain ⟨its,r,pl,hz⟩:=I.tuple hq
  obtain ⟨j,h1,h2,h3,h4,h5⟩:=atI_get he
  obtain ⟨w,ew,rw'⟩:=r.get h2
  have hl:=r.length
  have hn:=line63
  have fin:EP X pins σ Q w s:=⟨z,H,I,rw',q⟩
  exact subscriptTail_builtinR (x:=w) pl.typeIs slot_tuple_getitem.lookup
    (getItem_tuple (j:=j) (Q:=fun r s'=>r=w∧EP X pins σ Q r s') pl (by omega) (by omega) (by rw [List.size_toArray,← hl]; exact h1) (by simpa using ew) ⟨rfl,fin⟩) hs
theorem ix_str:IxR X rIxS:=by
  intro value slice pins s σ H x y v u Q I rx ry h hs
  obtain ⟨z,i,c,rfl,rfl,hz,he,q⟩:=h
  obtain ⟨t,rfl⟩:=rx
  obtain ⟨t',rfl⟩:=ry
  obtain ⟨j,h1,h2,h3,h4,h5⟩:=atI_get he
  have hl:z.cps.toList.length=z.length:=by simp [Str.length]
  rw [hl] at h1 h4 h5
  have hn:=line63
  exact tail_any (typeIs_str s z t) slot_str_getitem.lookup (getItem_str (c:=c) (by
    have e1:decide (i < -(2 ^ 63:Int))=false:=decide_eq_false (by omega)
    have e2:decide (i ≥ 2 ^ 63)=false:=decide_eq_false (by omega)
    rw [e1,e2,Bool.or_false]) (by rw [h1]; simpa using h2) ⟨.str ⟨#[c]⟩,H,I.tok _,⟨_,rfl⟩,q⟩) hs
theorem mapSeq_set (its:List Value) (n j:Nat) (u:Value):Obj.mapSeq (·.setIfInBounds j u) { cls:=.type "list",data:=.seq its.toArray n }={ cls:=.type "list",data:=.seq (its.set j u).toArray n }:=by
  simp [Obj.mapSeq]
theorem Inv.lst {pins:List (Addr × Obj)} {σ:St} {H:Hp} {s:Shared} {p:Addr} {xs:List V} (I:Inv X pins σ H s) (h:H p=some (.lst xs)) :
    ∃ (its:List Value) (n:Nat),Vals xs its∧s.heap.get? p=some { cls:=.type "list",data:=.seq its.toArray n }∧xs.length≤sizeLine:=by
  obtain ⟨z,its,n,r,e⟩:=I.hok p _ h
  exact ⟨its,n,r,e,z⟩
theorem Inv.lstUpd {pins:List (Addr × Obj)} {σ:St} {H:Hp} {s:Shared} {p:Addr} {xs ys:List V} {its its':List Value} {n n':Nat} {f:Obj→Obj} (I:Inv X pins σ H s) (h:H p=some (.lst xs))
    (ho:s.heap.get? p=some { cls:=.type "list",data:=.seq its.toArray n }) (hf:f { cls:=.type "list",data:=.seq its.toArray n }={ cls:=.type "list",data:=.seq its'.toArray n' }) (r:Vals ys its') (hz:ys.length≤sizeLine) (t:Nat) :
    Inv X pins σ (upd H p (.lst ys)) { s with heap:=s.heap.update p f,toks:=t }:=by
  have e:(s.heap.update p f).get? p=some { cls:=.type "list",data:=.seq its'.toArray n' }:=by
    rw [Heap.get?_update_self f ho (by rw [hf] <;> rfl),hf]
  refine I.write (x:=p) (e:=p) (by rw [h]; trivial) (.inl rfl) (fun b u hb q=>(Heap.get?_update_other _ _ (Ne.symm hb)).trans q) ⟨_,e⟩ ?_
  exact ⟨hz,its',n',r,e⟩
def rSetL:V→V→V→Hp→(Hp→Prop)→Prop:=fun o i v H Q=>∃ p xs k j,o=.ref p∧i=.int k∧H p=some (.lst xs)∧ixN xs.length k=some j∧Q (upd H p (.lst (xs.set j v)))
theorem set_list:PSet X rSetL:=by
  intro pins s σ H o i v ov iv u Q I ro ri rv h
  obtain ⟨p,xs,k,j,rfl,rfl,hp,hj,q⟩:=h
  cases ro
  obtain ⟨t,rfl⟩:=ri
  obtain ⟨its,n,r,ho,hz⟩:=I.lst hp
  obtain ⟨h1,h2,h3,h4⟩:=ixN_seq hj
  have hl:=r.length
  have hn:=line63
  have I':Inv X pins σ (upd H p (.lst (xs.set j v))) { s with heap:=s.heap.update p (Obj.mapSeq (·.setIfInBounds j u)) } :=
    I.lstUpd hp ho (mapSeq_set its n j u) (r.set rv j) (by rw [List.length_set]; exact hz) s.toks
  by_cases h0:0≤k
  · have hk:k.toNat=j:=by
      rw [seqIndex_of h0 h4] at h1
      exact Option.some.inj h1
    exact PySem.W.ki_setAt ho h0 (by omega) (by rw [List.size_toArray,← hl]; exact h4) (by rw [hk]; exact ⟨_,I',q⟩)
  · have hk:(k+(its.toArray.size:Int)).toNat=j:=by
      rw [seqIndex_neg (by omega) h3] at h1
      rw [List.size_toArray,← hl]
      exact Option.some.inj h1
    exact PySem.W.ki_setBack ho (by omega) (by rw [List.size_toArray,← hl]; exact h3) (by omega) (by rw [hk]; exact ⟨_,I',q⟩)
theorem slice_bounds (lo hi:Option Int) (n:Nat):(sliceBounds lo hi none n).1=((HT.sIx n 0 lo:Nat):Int)∧(sliceBounds lo hi none n).2.1=((HT.sIx n n hi:Nat):Int)∧(sliceBounds lo hi none n).2.2=1:=by
  refine ⟨?_,?_,rfl⟩
  · cases lo with
    | none=>simp [sliceBounds,HT.sIx]
    | some i =>
      simp only [sliceBounds,HT.sIx,Option.getD_none,show (1:Int) > 0 by decide,if_true]
      by_cases h:i < 0
      · simp only [h,if_true] <;> omega
      · simp only [h,if_false] <;> omega
  · cases hi with
    | none=>simp [sliceBounds,HT.sIx]
    | some i =>
      simp only [sliceBounds,HT.sIx,Option.getD_none,show (1:Int) > 0 by decide,if_true]
      by_cases h:i < 0
      · simp only [h,if_true] <;> omega
      · simp only [h,if_false] <;> omega
theorem slicePick_cut (its:List Value) (lo hi:Option Int):slicePick its.toArray lo hi none=((its.drop (HT.sIx its.length 0 lo)).take (HT.sIx its.length its.length hi - HT.sIx its.length 0 lo)).toArray:=by
  obtain ⟨h1,h2,h3⟩:=slice_bounds lo hi its.toArray.size
  unfold slicePick
  rw [h1,h2,h3]
  simp only [sliceRange_one,pick_run,List.size_toArray] <;> rfl
def rSlL (K:PySem.W.Frag):V→Option Int→Option Int→Hp→VK→Prop:=fun x lo hi H Q=>∃ a xs,x=.ref a∧SqL K H a xs∧∀ p,H p=none→Q (.ref p) (upd H p (.lst (cutV xs lo hi)))
theorem sl_list:SlR X (rSlL X.K):=by
  intro pins s σ H x v vl vu lo hi sl Q I rx hs pl pu h
  obtain ⟨a,xs,rfl,hx,q⟩:=h
  cases rx
  obtain ⟨its,r,ht,hz⟩:=I.list hx
  have hlen:=r.length
  refine ⟨"list",_,slot_list_getitem.lookup,ht.isList.typeIs,?_⟩
  refine wpAny_getItem_list_slice ht.isList hs pl pu .none (by simp) ?_ (by rw [List.size_toArray] <;> omega)
  rw [slicePick_cut,← hlen]
  refine ⟨.ref s.heap.objs.size,_,I.laid (t':=s.toks) (o:=.lst (cutV xs lo hi)) (fun b ob q=>Heap.get?_push_of_some _ q) (Nat.le_refl _) ?_,rfl,q _ (I.hok.fresh (Nat.le_refl _))⟩
  exact ⟨Nat.le_trans (cutV_length xs lo hi) hz,_,0,(r.drop (HT.sIx xs.length 0 lo)).take (HT.sIx xs.length xs.length hi - HT.sIx xs.length 0 lo),Heap.get?_push_size _ rfl⟩
def flatV:V→Bool
  | .non=>true
  | .bl _=>true
  | .int _=>true
  | .str _=>true
  | _=>false
def eqV:V→V→Bool
  | .non,.non=>true
  | .bl a,.bl b=>a == b
  | .bl a,.int b=>(if a then 1 else 0) == b
  | .int a,.bl b=>a == (if b then 1 else 0)
  | .int a,.int b=>a == b
  | .str a,.str b=>a == b
  | _,_=>false
theorem eqAt_V {A:Around} {s:Shared} {y x:V} {u v:Value} (ry:RelV y u) (rx:RelV x v) (fy:flatV y=true) (fx:flatV x=true):SeqAt.EqAt A s u v (eqV y x):=by
  cases y with
  | non =>
    cases ry
    cases x with
    | non=>cases rx; exact SeqAt.EqAt.same _
    | bl b=>cases rx; exact SeqAt.EqAt.none_bool b
    | int b=>obtain ⟨t,rfl⟩:=rx; exact SeqAt.EqAt.none_int b t
    | str b=>obtain ⟨t,rfl⟩:=rx; exact SeqAt.EqAt.none_str b t
    | _=>exact absurd (show false=true from fx) Bool.false_ne_true
  | bl a =>
    cases ry
    cases x with
    | non=>cases rx; exact SeqAt.EqAt.bool_none a
    | bl b=>cases rx; exact SeqAt.EqAt.bool_bool a b
    | int b=>obtain ⟨t,rfl⟩:=rx; exact SeqAt.EqAt.bool_int a b t
    | str b=>obtain ⟨t,rfl⟩:=rx; exact SeqAt.EqAt.bool_str a b t
    | _=>exact absurd (show false=true from fx) Bool.false_ne_true
  | int a =>
    obtain ⟨t',rfl⟩:=ry
    cases x with
    | non=>cases rx; exact SeqAt.EqAt.int_none a t'
    | bl b=>cases rx; exact SeqAt.EqAt.int_bool a t' b
    | int b=>obtain ⟨t,rfl⟩:=rx; exact SeqAt.EqAt.int_int a t' b t
    | str b=>obtain ⟨t,rfl⟩:=rx; exact SeqAt.EqAt.int_str a t' b t
    | _=>exact absurd (show false=true from fx) Bool.false_ne_true
  | str a =>
    obtain ⟨t',rfl⟩:=ry
    cases x with
    | non=>cases rx; exact SeqAt.EqAt.str_none a t'
    | bl b=>cases rx; exact SeqAt.EqAt.str_bool a t' b
    | int b=>obtain ⟨t,rfl⟩:=rx; exact SeqAt.EqAt.str_int a t' b t
    | str b=>obtain ⟨t,rfl⟩:=rx; exact SeqAt.EqAt.str_str a t' b t
    | _=>exact absurd (show false=true from fx) Bool.false_ne_true
  | _=>exact absurd (show false=true from fy) Bool.false_ne_true
def eqU (x:V) (u:Value):Bool:=match u with
  | .none=>eqV .non x
  | .bool b=>eqV (.bl b) x
  | .int i _=>eqV (.int i) x
  | .str z _=>eqV (.str z) x
  | _=>false
theorem eqU_of {x y:V} {u:Value} (r:RelV y u) (f:flatV y=true):eqU x u=eqV y x:=by
  cases y with
  | non=>cases r; rfl
  | bl b=>cases r; rfl
  | int i=>obtain ⟨t,rfl⟩:=r; rfl
  | str z=>obtain ⟨t,rfl⟩:=r; rfl
  | _=>exact absurd (show false=true from f) Bool.false_ne_true
theorem any_eqU {x:V}:∀ {xs:List V} {us:List Value},Vals xs us→xs.all flatV=true→us.any (eqU x)=xs.any fun y=>eqV y x
  | _,_,.nil,_=>rfl
  | y :: xs,u :: us,.cons r t,f=>by
    rw [List.all_cons,Bool.and_eq_true] at f
    rw [List.any_cons,List.any_cons,eqU_of r f.1,any_eqU t f.2]
theorem mem_eqAt {A:Around} {s:Shared} {x:V} {v:Value} (rx:RelV x v) (fx:flatV x=true):∀ {xs:List V} {us:List Value},Vals xs us→xs.all flatV=true→∀ u∈us,SeqAt.EqAt A s u v (eqU x u)
  | _,_,.nil,_=>fun u hu=>by cases hu
  | y :: xs,u :: us,.cons r t,f=>fun u' hu=>by
    rw [List.all_cons,Bool.and_eq_true] at f
    rcases List.mem_cons.mp hu with rfl | hu
    · rw [eqU_of r f.1]; exact eqAt_V r rx f.1 fx
    · exact mem_eqAt rx fx t f.2 u' hu
def inV (x:V) (xs:List V):Bool:=xs.any fun y=>eqV y x
def rIn (K:PySem.W.Frag) (neg:Bool):R2:=fun x y H Q=>∃ p xs,y=.ref p∧(SqL K H p xs∨SqT K H p xs)∧flatV x=true∧xs.all flatV=true∧Q (.bl (if neg then !inV x xs else inV x xs)) H
theorem op_in_seq:OpR X (compareOp .In) (rIn X.K false):=by
  intro pins s σ H x y v u Q I rx ry h
  obtain ⟨p,xs,rfl,hq,fx,fs,q⟩:=h
  cases ry
  rcases hq with hq | hq
  · obtain ⟨its,r,pl,hz⟩:=I.list hq
    refine SeqAt.in_listAt (eqU x) pl.isList (fun w hw=>mem_eqAt rx fx r fs w (by simpa using hw)) ⟨.bl _,H,I,rfl,?_⟩
    rw [show its.toArray.any (eqU x)=its.any (eqU x) by simp,any_eqU r fs]
    exact q
  · obtain ⟨its,r,pl,hz⟩:=I.tuple hq
    refine SeqAt.in_tupleAt (eqU x) pl (fun w hw=>mem_eqAt rx fx r fs w (by simpa using hw)) ⟨.bl _,H,I,rfl,?_⟩
    rw [show its.toArray.any (eqU x)=its.any (eqU x) by simp,any_eqU r fs]
    exact q
theorem op_notIn_seq:OpR X (compareOp .NotIn) (rIn X.K true):=by
  intro pins s σ H x y v u Q I rx ry h
  obtain ⟨p,xs,rfl,hq,fx,fs,q⟩:=h
  cases ry
  rcases hq with hq | hq
  · obtain ⟨its,r,pl,hz⟩:=I.list hq
    refine SeqAt.notIn_listAt (eqU x) pl.isList (fun w hw=>mem_eqAt rx fx r fs w (by simpa using hw)) ⟨.bl _,H,I,rfl,?_⟩
    rw [show its.toArray.any (eqU x)=its.any (eqU x) by simp,any_eqU r fs]
    exact q
  · obtain ⟨its,r,pl,hz⟩:=I.tuple hq
    refine SeqAt.notIn_tupleAt (eqU x) pl (fun w hw=>mem_eqAt rx fx r fs w (by simpa using hw)) ⟨.bl _,H,I,rfl,?_⟩
    rw [show its.toArray.any (eqU x)=its.any (eqU x) by simp,any_eqU r fs]
    exact q
theorem call_len_seq:CallR X (.builtin "len") (fun xs H Q=>∃ p ys,xs=[.ref p]∧(SqL X.K H p ys∨SqT X.K H p ys)∧Q (.int ys.length) H):=by
  intro pins s σ H xs us Q I r h
  obtain ⟨p,ys,rfl,hq,q⟩:=h
  obtain ⟨u,rfl,rx⟩:=vals1 r
  cases rx
  have hn:=line63
  rcases hq with hq | hq
  · obtain ⟨its,r',pl,hz⟩:=I.list hq
    have hlen:=r'.length
    exact Calls.call_len_list pl.isList (by simp only [List.size_toArray] <;> omega) ⟨.int ys.length,H,I.tok _,⟨s.toks+1,by rw [List.size_toArray,hlen]⟩,q⟩
  · obtain ⟨its,r',pl,hz⟩:=I.tuple hq
    have hlen:=r'.length
    exact len_tuple pl (by simp only [List.size_toArray] <;> omega) ⟨.int ys.length,H,I.tok _,⟨s.toks+1,by rw [List.size_toArray,hlen]⟩,q⟩
theorem CallR.or {f:Value} {r r':List V→Hp→VK→Prop} (h:CallR X f r) (h':CallR X f r'):CallR X f (fun xs H Q=>r xs H Q∨r' xs H Q):=by
  intro pins s σ H xs us Q I rs q
  rcases q with q | q
  · exact h pins s σ H xs us Q I rs q
  · exact h' pins s σ H xs us Q I rs q
theorem call_list_of:CallR X (.type "list") (fun xs H Q=>∃ p ys,xs=[.ref p]∧(SqL X.K H p ys∨SqT X.K H p ys)∧∀ l,H l=none→Q (.ref l) (upd H l (.lst ys))):=by
  intro pins s σ H xs us Q I r h
  obtain ⟨p,ys,rfl,hq,q⟩:=h
  obtain ⟨u,rfl,rx⟩:=vals1 r
  cases rx
  have fin:∀ (its:List Value),Vals ys its→ys.length≤sizeLine→∀ (h':Heap) (c':Nat),(∀ b o',s.heap.get? b=some o'→h'.get? b=some o') →
      h'.get? s.heap.objs.size=some { cls:=.type "list",dict:=none,data:=.seq its.toArray c',slots:=#[] }→EP X pins σ Q (.ref s.heap.objs.size) { s with heap:=h' }:=fun its r' hz h' c' kp e =>
    ⟨.ref s.heap.objs.size,_,I.laid (t':=s.toks) kp (Nat.le_refl _) (show ObjOk X.prog X.w _ h' _ (.lst ys) from ⟨hz,its,c',r',e⟩),rfl,q _ (I.hok.fresh (Nat.le_refl _))⟩
  rcases hq with hq | hq
  · obtain ⟨its,r',pl,hz⟩:=I.list hq
    have hlen:=r'.length
    obtain ⟨o,ho,hc,n,hd⟩:=pl.isList
    exact call_list_seq p (.inl rfl) ho hc hd (fun h' c' kp e=>fin its r' hz h' c' kp e) (by simp only [List.size_toArray] <;> omega)
  · obtain ⟨its,r',pl,hz⟩:=I.tuple hq
    have hlen:=r'.length
    obtain ⟨o,ho,hc,n,hd⟩:=pl
    exact call_list_seq p (.inr rfl) ho hc hd (fun h' c' kp e=>fin its r' hz h' c' kp e) (by simp only [List.size_toArray] <;> omega)
theorem call_tuple_of:CallR X (.type "tuple") (fun xs H Q=>∃ p ys,xs=[.ref p]∧((SqL X.K H p ys∧∀ l,H l=none→Q (.ref l) (upd H l (.tup ys)))∨(SqT X.K H p ys∧Q (.ref p) H))):=by
  intro pins s σ H xs us Q I r h
  obtain ⟨p,ys,rfl,h⟩:=h
  obtain ⟨u,rfl,rx⟩:=vals1 r
  cases rx
  rcases h with ⟨hq,q⟩ | ⟨hq,q⟩
  · obtain ⟨its,r',pl,hz⟩:=I.list hq
    have hlen:=r'.length
    refine call_tuple_list pl.isList (fun h' kp=>?_) (by simp only [List.size_toArray] <;> omega)
    have I1:Inv X pins σ H { s with heap:=h' }:=I.kept (t':=s.toks) kp
    have I2:Inv X pins σ (upd H h'.objs.size (.tup ys)) { s with heap:=h'.push { cls:=.type "tuple",data:=.seq its.toArray } } :=
      I1.laid (t':=s.toks) (fun b o e=>Heap.get?_push_of_some _ e) (Nat.le_refl _) (show ObjOk X.prog X.w _ _ _ (.tup ys) from ⟨hz,its,r',IsTup.new _ _⟩)
    exact ⟨.ref h'.objs.size,_,I2,rfl,q _ (I1.hok.fresh (Nat.le_refl _))⟩
  · obtain ⟨its,r',pl,hz⟩:=I.tuple hq
    exact call_tuple_same pl ⟨.ref p,H,I,rfl,q⟩
def tyV (K:PySem.W.Frag) (T:String) (x:V) (H:Hp):Prop:=match x with
  | .str _=>T = "str"
  | .int _=>T = "int"
  | .ref p=>(T = "list"∧∃ xs,SqL K H p xs)∨(T = "tuple"∧∃ o,K.lookup p=some o∧o.cls=.type "tuple"∧o.dict=none) ∨
      (T = "dict"∧((∃ kvs,H p=some (.dK kvs))∨∃ kvs,H p=some (.dT kvs)))∨(T = "set"∧∃ S n,H p=some (.set S n))
  | _=>False
theorem tyV_is {pins:List (Addr × Obj)} {σ:St} {H:Hp} {s:Shared} {T:String} {x:V} {v:Value} (I:Inv X pins σ H s) (r:RelV x v) (ty:tyV X.K T x H) :
    s.TypeIs v T∧∀ a,v=.ref a→∃ ob,s.heap.get? a=some ob∧ob.dict=none:=by
  cases x with
  | str z =>
    obtain ⟨t,rfl⟩:=r
    cases (show T = "str" from ty)
    exact ⟨typeIs_str s z t,fun _ e=>nomatch e⟩
  | int i =>
    obtain ⟨t,rfl⟩:=r
    cases (show T = "int" from ty)
    exact ⟨typeIs_int s i t,fun _ e=>nomatch e⟩
  | ref p =>
    cases r
    rcases ty with ⟨rfl,xs,hq⟩ | ⟨rfl,o,hk,hc,hd⟩ | ⟨rfl,hk⟩ | ⟨rfl,S,n,hk⟩
    · obtain ⟨its,_,pl,_⟩:=I.list hq
      refine ⟨pl.isList.typeIs,fun a e=>?_⟩
      cases e
      obtain ⟨o,n,e,c,hd,_⟩:=pl
      exact ⟨o,e,hd⟩
    · refine ⟨⟨o,I.kIn p o hk,hc⟩,fun a e=>?_⟩
      cases e
      exact ⟨o,I.kIn _ o hk,hd⟩
    · have z:∃ o,s.heap.get? p=some o∧o.ExactDict:=by
        rcases hk with ⟨kvs,hk⟩ | ⟨kvs,hk⟩
        · obtain ⟨_,_,_,_,o,_,_,e,ex,_⟩:=I.hok p _ hk
          exact ⟨o,e,ex⟩
        · obtain ⟨_,_,_,_,o,_,_,e,ex,_⟩:=I.hok p _ hk
          exact ⟨o,e,ex⟩
      obtain ⟨o,e,ex⟩:=z
      refine ⟨⟨o,e,ex.1⟩,fun a e2=>?_⟩
      cases e2
      exact ⟨o,e,ex.2.1⟩
    · obtain ⟨o,_,_,_,e,ex,_⟩:=I.hok p _ hk
      refine ⟨⟨o,e,ex.1⟩,fun a e2=>?_⟩
      cases e2
      exact ⟨o,e,ex.2.1⟩
  | _=>exact False.elim ty
def tBM0 (K:PySem.W.Frag) (T:String) (r:V→List V→Hp→VK→Prop) (to:TE):TE:=fun σ H Q=>to σ H fun x H1=>tyV K T x H1∧r x [] H1 Q
def tBM (K:PySem.W.Frag) (T:String) (r:V→List V→Hp→VK→Prop) (to:TE) (t:TA):TE:=fun σ H Q=>to σ H fun x H1=>tyV K T x H1∧t σ H1 fun xs H2=>r x xs H2 Q
variable {o e:Expr} {es:List Expr} {to:TE} {t:TA} {name:Str} {apos cpos:Pos} {T id:String} {r:V→List V→Hp→VK→Prop}
theorem pe_bm0 (pa:PlainAttrs T) (slot:Slot T name id) (hty:typeOf (.builtin id)=pure (.type "method_descriptor")) (hm:MtR X id r) (ho:PE X o to)
    (hbase:attributeBase o name X.env (eval o X.env)=eval o X.env:=by rfl) (hline:(apos.endLine == cpos.line)=true:=by rfl):PE X (.Call (.Attribute o name apos) [] [] cpos) (tBM0 X.K T r to):=by
  intro pins s σ H Q I h
  refine wpAny_Call_method0_late hbase hline (thn (ho pins s σ H _ I h) fun v s1 ⟨x,H1,I1,r1,ty,q1⟩=>?_)
  obtain ⟨h1,h2⟩:=tyV_is I1 r1 ty
  exact ⟨T,id,pa,slot,hty,h1,h2,Calls.callWith_builtin rfl (PySem.evalArgs_none (hm pins s1 σ H1 x [] v [] Q I1 r1 .nil q1))⟩
theorem pe_bm (pa:PlainAttrs T) (slot:Slot T name id) (hty:typeOf (.builtin id)=pure (.type "method_descriptor")) (hm:MtR X id r) (ho:PE X o to) (ha:PA X (e :: es) t)
    (hbase:attributeBase o name X.env (eval o X.env)=eval o X.env:=by rfl)
    (hfew:((backTo cpos (starEach (e :: es) X.env)).all (fun x=>!x.1) && (backToKw cpos (keywordEach [] X.env)).all (fun x=>x.1.isSome)
      && decide ((e :: es).length+([]:List Keyword).length+(if ([]:List Keyword).isEmpty then 0 else 1) < 30))=true:=by rfl)
    (hline:(apos.endLine == cpos.line)=true:=by rfl) (hs:starEach (e :: es) X.env=(false,eval e X.env) :: starEach es X.env:=by rfl) (hplain:(backTo cpos (starEach es X.env)).any (·.1)=false:=by rfl) :
    PE X (.Call (.Attribute o name apos) (e :: es) [] cpos) (tBM X.K T r to t):=by
  intro pins s σ H Q I h
  refine wpAny_Call_method_late hbase hfew hline rfl (thn (ho pins s σ H _ I h) fun v s1 ⟨x,H1,I1,r1,ty,q1⟩=>?_)
  obtain ⟨h1,h2⟩:=tyV_is I1 r1 ty
  refine ⟨T,id,pa,slot,hty,h1,h2,?_⟩
  have hA:=ha cpos pins s1 σ H1 _ I1 q1
  rw [hs] at hA ⊢
  refine Calls.callWith_builtin (by show (false || (backTo cpos (starEach es X.env)).any (·.1))=false; rw [hplain] <;> rfl) (Calls.evalArgs_plain ?_)
  exact thn hA fun us s2 ⟨vs,H2,I2,r2,q2⟩=>hm pins s2 σ H2 x vs v us Q I2 r1 r2 q2
end
end L2
namespace L2
open PySem PySem.Spec PyProof.Rows
def MtM (X:Cx) (id:String) (r:V→List V→Hp→VK→Prop):Prop :=
  ∀ (pins:List (Addr × Obj)) (s:Shared) (σ:St) (H:Hp) (x:V) (xs:List V) (v:Value) (us:List Value) (Q:VK),Inv X pins σ H s→RelV x v→Vals xs us→r x xs H Q →
    wpAny (model X.prog X.w) X.A (call (.builtin id) (v :: us)) (EP X pins σ Q) X.xe s
theorem Vals.one:∀ {x:V} {us:List Value},Vals [x] us→∃ u,us=[u]∧RelV x u
  | _,_,.cons r .nil=>⟨_,rfl,r⟩
theorem Vals.two:∀ {x y:V} {us:List Value},Vals [x,y] us→∃ u v,us=[u,v]∧RelV x u∧RelV y v
  | _,_,_,.cons r (.cons q .nil)=>⟨_,_,rfl,r,q⟩
theorem Vals.zero:∀ {us:List Value},Vals [] us→us=[]
  | _,.nil=>rfl
theorem Vals.eraseIdx:∀ {xs:List V} {us:List Value} (i:Nat),Vals xs us→Vals (xs.eraseIdx i) (us.eraseIdx i)
  | _,_,_,.nil=>.nil
  | _,_,0,.cons _ t=>t
  | _,_,i+1,.cons r t=>.cons r (Vals.eraseIdx i t)
theorem Vals.reverse {xs:List V} {us:List Value} (h:Vals xs us):Vals xs.reverse us.reverse:=by
  induction h with
  | nil=>exact .nil
  | cons r t ih=>rw [List.reverse_cons,List.reverse_cons]; exact Vals.append ih (.cons r .nil)
theorem len_erase {α:Type}:∀ (l:List α) (i:Nat),(l.eraseIdx i).length≤l.length
  | [],_=>Nat.le_refl _
  | _ :: _,0=>Nat.le_succ _
  | _ :: r,i+1=>Nat.succ_le_succ (len_erase r i)
section
variable {X:Cx} {pins:List (Addr × Obj)} {σ:St} {H:Hp} {s:Shared} {l b:Addr} {xs ys zs:List V}
theorem Inv.lset {its its':List Value} {n:Nat} {f:Array Value→Array Value} {t':Nat} (I:Inv X pins σ H s) (hH:H l=some (.lst xs))
    (e:s.heap.get? l=some { cls:=.type "list",data:=.seq its.toArray n }) (hf:f its.toArray=its'.toArray) (hv:Vals ys its') (hz:ys.length≤sizeLine) :
    Inv X pins σ (upd H l (.lst ys)) { s with heap:=s.heap.update l (Obj.mapSeq f),toks:=t' }:=by
  have q:=PySem.IsL.update e f
  rw [hf] at q
  refine I.write (x:=l) (e:=l) (by rw [hH]; exact trivial) (.inl rfl) (fun b' u hb hu=>(Heap.get?_update_other s.heap (Obj.mapSeq f) (Ne.symm hb)).trans hu) ⟨_,q⟩ ?_
  exact ⟨hz,its',_,hv,q⟩
theorem Inv.lnew {its:List Value} {t':Nat} (I:Inv X pins σ H s) (hv:Vals ys its) (hz:ys.length≤sizeLine) :
    Inv X pins σ (upd H s.heap.objs.size (.lst ys)) { s with heap:=s.heap.push { cls:=.type "list",data:=.seq its.toArray },toks:=t' } :=
  I.laid (fun _ _ q=>Heap.get?_push_of_some _ q) (Nat.le_refl _) ⟨hz,its,0,hv,Heap.get?_push_size _ rfl⟩
theorem Inv.fresh (I:Inv X pins σ H s):H s.heap.objs.size=none:=I.hok.fresh (Nat.le_refl _)
theorem Inv.lstM (I:Inv X pins σ H s) (hH:H l=some (.lst xs)):xs.length≤sizeLine∧∃ (its:List Value) (n:Nat),Vals xs its∧xs.length=its.length∧s.heap.get? l=some { cls:=.type "list",data:=.seq its.toArray n }:=by
  obtain ⟨z,its,n,r,e⟩:=I.hok l _ hH
  exact ⟨z,its,n,r,r.length,e⟩
theorem notLongL {n:Nat} (h:n≤sizeLine):Builtin.List.listTooLong n=false:=by
  unfold Builtin.List.listTooLong
  exact decide_eq_false (by omega)
end
section
variable {X:Cx}
def rAppend:V→List V→Hp→VK→Prop:=fun x vs H Q=>∃ l xs y,x=.ref l∧vs=[y]∧H l=some (.lst xs)∧xs.length < sizeLine∧Q .non (upd H l (.lst (xs++[y])))
theorem mt_append:MtM X "list.append" rAppend:=by
  intro pins s σ H x vs v us Q I rx rv h
  obtain ⟨l,xs,y,rfl,rfl,hH,hz,q⟩:=h
  cases rx
  obtain ⟨u,rfl,ru⟩:=rv.one
  obtain ⟨z,its,n,r,hl,e⟩:=I.lstM hH
  refine call_meets F.slot_list_append ⟨_,e,rfl⟩ F.entry_list_append (F.args_list_append_2 _ _) (PySem.list_append l its.toArray n u (by rw [List.size_toArray]; omega)) ⟨e,?_⟩
  refine ⟨.non,_,I.lset (its':=its++[u]) hH e (by simp) (r.append (.cons ru .nil)) ?_,rfl,q⟩
  rw [List.length_append,List.length_singleton]
  omega
def rPopAt:V→List V→Hp→VK→Prop:=fun x vs H Q=>∃ l xs i k y,x=.ref l∧vs=[.int i]∧H l=some (.lst xs)∧-(2 ^ 63)≤i∧i < 2 ^ 63∧seqIndex? i xs.length=some k∧xs[k]?=some y∧Q y (upd H l (.lst (xs.eraseIdx k)))
theorem mt_popAt:MtM X "list.pop" rPopAt:=by
  intro pins s σ H x vs v us Q I rx rv h
  obtain ⟨l,xs,i,k,y,rfl,rfl,hH,h1,h2,hk,hy,q⟩:=h
  cases rx
  obtain ⟨u,rfl,ru⟩:=rv.one
  obtain ⟨t,rfl⟩:=ru
  obtain ⟨z,its,n,r,hl,e⟩:=I.lstM hH
  obtain ⟨w,hw,rw'⟩:=r.get hy
  refine call_meets F.slot_list_pop ⟨_,e,rfl⟩ F.entry_list_pop (F.args_list_pop_2 _ _)
    (MeetsSeq.list_pop_at l its.toArray n i t k w (fitsIndex_both h1 h2) (by rw [List.size_toArray,← hl]; exact hk) (by rw [← Array.getElem?_toList]; exact hw) (by rw [List.size_toArray]; omega)) ⟨e,?_⟩
  refine ⟨y,_,I.lset (its':=its.eraseIdx k) hH e ?_ (r.eraseIdx k) ?_,rw',q⟩
  · show its.toArray.eraseIdxIfInBounds k=(its.eraseIdx k).toArray
    rw [List.eraseIdxIfInBounds_toArray]
  · have:=len_erase xs k
    omega
def rCat:R2:=fun x y H Q=>∃ l b xs zs,x=.ref l∧y=.ref b∧H l=some (.lst xs)∧H b=some (.lst zs)∧xs.length+zs.length≤sizeLine∧∀ p,H p=none→Q (.ref p) (upd H p (.lst (xs++zs)))
theorem op_cat:OpR X (binaryOp .Add) rCat:=by
  intro pins s σ H x y v u Q I rx ry h
  obtain ⟨l,b,xs,zs,rfl,rfl,hH,hB,hz,q⟩:=h
  cases rx
  cases ry
  obtain ⟨z,its,n,r,hl,e⟩:=I.lstM hH
  obtain ⟨z2,its2,n2,r2,hl2,e2⟩:=I.lstM hB
  refine PySem.P.add_list e e2 ?_ (by rw [List.size_toArray,List.size_toArray]; omega)
  have ea:its.toArray++its2.toArray=(its++its2).toArray:=by simp
  rw [ea]
  exact ⟨.ref _,_,I.lnew (t':=s.toks) (r.append r2) (by rw [List.length_append]; omega),rfl,q _ I.fresh⟩
end
section
variable {prog:Program} {w:World} {A:Around} {E:Value→Shared→Prop} {s:Shared}
end
section
variable {X:Cx}
end
end L2
namespace Att
open PySem PySem.W PySem.Calls PyProof.Rows
theorem ints_of_wellAll {P:Params} {h:Heap}:∀ (ns:List Int) (vs:List Value),WellAll P h vs (ns.map WData.int)→IntsAre vs ns:=by
  intro ns
  induction ns with
  | nil =>
    intro vs w
    rw [List.map_nil] at w
    cases w
    exact .nil
  | cons n ns ih =>
    intro vs w
    rw [List.map_cons] at w
    cases w with
    | cons a b =>
      cases a
      exact .cons _ _ (ih _ b)
theorem script_of {l:OpenLaw} {n:Nat} (hn:l.most=some n) {P:Params} {h:Heap} {args:List WData} {vals:List Value}
    (hpre:l.row.toRowW.claim.pre args=true) (hwl:WellAll P h vals args) :
    ∃ a vs ns,vals=[Value.ref a]∧args=[WData.list (ns.map WData.int)]∧h.get? a=some { cls:=.type "list",data:=.seq vs.toArray }∧IntsAre vs ns∧ns.length≤n:=by
  have hsh:WShape.hasAll [] args [.list .int]=true:=(pre_splitW hpre).1
  have hc:l.pre.holds [] { args:=args }=true:=(pre_splitW hpre).2
  obtain ⟨d,r,rfl,h1,h2⟩:=hasAllW_cons hsh
  obtain rfl:=hasAllW_nil h2
  obtain ⟨xs,rfl,h3⟩:=hasW_list h1
  obtain ⟨ns,rfl⟩:=items_int h3
  have hlen:ns.length≤n:=by
    unfold OpenLaw.pre at hc
    have h4:(WTm.not (.lt (.lit (.int (n:Int))) (.len (.arg 0)))).holds [] { args:=[.list (ns.map .int)] }=true:=by
      have h4:=(holds_andW hc).1
      rw [hn] at h4
      exact h4
    have h5:=condW_of h4 (w_not (w_lt w_lit (w_len_list (w_arg rfl))))
    rw [List.length_map] at h5
    refine Nat.le_of_not_lt fun q=>?_
    have q':(n:Int) < ((ns.length:Nat):Int):=by omega
    first
      | (rw [decide_eq_true q'] at h5; exact absurd h5 (by decide))
      | (simp at h5; omega)
  cases hwl with
  | cons w1 w2 =>
    cases w2
    cases w1 with
    | list ho hall=>exact ⟨_,_,ns,rfl,rfl,ho,ints_of_wellAll ns _ hall,hlen⟩
theorem post_true (l:OpenLaw) (args:List WData):l.row.toRowW.claim.post args (.bool true) args=true :=
  postW_of (r:=l.row.toRowW) (X:=(true == true))
    (show WShape.has [] (.bool true) .bool=true by first | rfl | decide | simp [WShape.has,WShape.arms,WShape.armsAll])
    (show (WTm.eq .res (.lit (.bool true))).value [] { args:=args,res:=some (.bool true),after:=args }=some (.bool (true == true)) from w_eq_bool (w_res rfl) w_lit) rfl
theorem attach_call {l:OpenLaw} {n:Nat} {q:Program} {loose:List Str} {XP:(Str→Option Value)→Heap→Prop} {YP:World→Heap→Prop} {d:DefRec}
    (hn:l.most=some n) (hdf:d.params.defaults=[])
    (call:∀ (w:World) (s₀ s₁:Shared) (mg mb:Str→Option Value) (fa:Addr) (o:Obj) (pm cd doc:Value) (a:Addr) (vs:List Value) (ns:List Int),
      Ground q loose [] XP w s₀ mg mb s₁.heap→YP w s₁.heap →
      s₁.heap.get? fa=some o→o.data=.func (docDef d.name d.params d.body d.scope pm cd doc)→s₁.heap.CodeRec cd d.name→mg d.name=some (.ref fa) →
      s₁.heap.get? a=some { cls:=.type "list",data:=.seq vs.toArray }→IntsAre vs ns→ns.length≤n→s₁.gens = #[] →
      codeAny (model l.prog w) callerA (.call (.ref fa) ⟨[.ref a],[]⟩) (fun r s'=>r=.ok (.ret (.bool true))∧OldK s₁.heap s'.heap∧s'.os=s₁.os∧AllBare s'.gens) s₁) :
    WalkO q loose XP YP l.row.toRowW d [] (fun f vs=>PySem.call f vs):=by
  intro w s₀ s₁ mg mb G Y fa o pm cd doc dV kV ho hd hcd hD hmg hg args vals as hpre hlay hrd hwl hlo
  obtain rfl:dV=.none:=Dflts.none hD hdf
  obtain rfl:kV=.none:=Dflts.noKw hD
  obtain ⟨a,vs,ns,rfl,rfl,hobj,hints,hlen⟩:=script_of hn hpre hwl
  refine enter_call (codeAny_mono (call w s₀ s₁ mg mb fa o pm cd doc a vs ns G Y ho (fd_plain hd) hcd hmg hobj hints hlen hg) fun r s' hq=>?_)
  obtain ⟨rfl,h2,h3,h4⟩:=hq
  exact ⟨.inl ⟨.bool true,.bool true,[],rfl,fun _=>rfl,.bool true,post_true l _,fun _=>⟨List.Pairwise.nil,fun _ hm=>(nomatch hm)⟩⟩,h2,h3,h4⟩
section
variable {prog:Program} {w:World} {A:Around} {E:Value→Shared→Prop} {s:Shared} {K:Frag}
def ledger (h:Heap) (L d:Addr):List (Addr × Obj):=(List.range h.objs.size).filterMap fun a=>if a=L∨a=d then none else (h.get? a).map fun o=>(a,o)
end
end Att
namespace L2
open PySem PySem.Spec PyProof.Rows
theorem vals_ints:∀ {vs:List Value} {ns:List Int},IntsAre vs ns→Vals (ns.map V.int) vs
  | _,_,.nil=>.nil
  | _,_,.cons n t h=>.cons ⟨t,rfl⟩ (vals_ints h)
def Only (H:Hp):Prop:=∀ b,H b=none∨∃ o xs,H b=some (.frz o (.lst xs))
theorem law_call {P:Program} {w:World} {K:PySem.W.Frag} {mg mb:Str→Option Value} {CX:CXT} {k:Nat} {fa a:Addr} {fd:FuncData} {x:Str} {sp:Sp} {s₁:Shared} {vs:List Value} {ns:List Int}
    (KX:K.In s₁.heap) (hns:s₁.heap.Ns mainGlobals mg) (hb:s₁.heap.Ns builtinsNs mb) (hbb:∀ x:Str,x ≠ "__name__"→mb x=bootBuiltins x) (hlim:s₁.heap.NoLimit) (hg:s₁.gens = #[])
    (ha:s₁.heap.get? a=some { cls:=.type "list",data:=.seq vs.toArray }) (hi:IntsAre vs ns) (hl:ns.length≤sizeLine) (hr:Room k callerA)
    (F:∀ base:Heap,K.In base→base.Ns mainGlobals mg→FnOk P w K mg base CX k fa fd [x] sp) (hbind:∀ (s:Shared) (u:Value),BindsTo s fd ⟨[u],[]⟩ [(x,u)])
    (hsp:∀ H:Hp,Only H→SqL K H a (ns.map V.int)→sp [.ref a] H (fun v _=>v=.bl true) fun _ _ _=>False)
    (hCX:∀ H e s',CX [] H s₁ (fun _ _ _=>False) e s'→False) :
    codeAny (model P w) callerA (.call (.ref fa) ⟨[.ref a],[]⟩) (fun r s'=>r=.ok (.ret (.bool true))∧OldK s₁.heap s'.heap∧s'.os=s₁.os∧AllBare s'.gens) s₁:=by
  have rv:=vals_ints hi
  have lenV:=hi.length
  have core:∀ H:Hp,Only H→SqL K H a (ns.map V.int)→HOk P w H s₁.heap→(∀ b,H b≠none→b=a)→(H a≠none→K.lookup a=none) →
      codeAny (model P w) callerA (.call (.ref fa) ⟨[.ref a],[]⟩) (fun r s'=>r=.ok (.ret (.bool true))∧OldK s₁.heap s'.heap∧s'.os=s₁.os∧AllBare s'.gens) s₁:=by
    intro H hO hS hok hA hK
    have base_of:∀ {b:Addr} {o:Obj},s₁.heap.get? b=some o→H b=none→(hidT s₁.heap H).get? b=some o:=fun e n=>hidT_get e n
    have noA:∀ {b:Addr} {o:Obj} {es:Array DictEntry} {ep:Nat},s₁.heap.get? b=some o→o.data=.dict es ep→H b=none:=fun {b o es ep} e d=>by
      cases q:H b with
      | none=>rfl
      | some u =>
        have e':b=a:=hA b (by rw [q]; simp)
        subst e'
        rw [ha] at e; cases e
        have d':Data.seq vs.toArray _=Data.dict es ep:=d
        cases d'
    have nsK:∀ {b:Addr} {m:Str→Option Value},s₁.heap.Ns b m→(hidT s₁.heap H).Ns b m:=fun {b m} ⟨o,es,ep,e,d,r⟩=>⟨o,es,ep,base_of e (noA e d),d,r⟩
    have hKb:K.In (hidT s₁.heap H):=fun b o e=>base_of (KX b o e) (by
      cases q:H b with
      | none=>rfl
      | some u =>
        have e':b=a:=hA b (by rw [q]; simp)
        subst e'
        rw [hK (by rw [q]; simp)] at e; cases e)
    have hM:Mod K mg (hidT s₁.heap H):=⟨hKb,nsK hns,⟨mb,nsK hb,hbb⟩,let ⟨mc,h1,h2⟩:=hlim; ⟨mc,nsK h1,h2⟩⟩
    have e0:Env0 P w K mg (hidT s₁.heap H) callerA [] s₁ H:=⟨rfl,hM,fun b o e=>of_hidT e,Nat.le_of_eq (hidT_size _ _),trivial,fun b hb=>absurd (show b∈([]:List Addr) from hb) (by simp),hok,.of_eq hg⟩
    refine codeAny_mono ((F _ hKb (nsK hns)).run callerA [] s₁ H ⟨[.ref a],[]⟩ [.ref a] [.ref a] _ _ hr e0 (hbind s₁ (.ref a)) (.cons rfl .nil) (hsp H hO hS)) fun r s' h=>?_
    cases r with
    | error e=>exact (hCX H e s' h).elim
    | ok fl =>
      cases fl with
      | next=>exact False.elim h
      | brk=>exact False.elim h
      | cont=>exact False.elim h
      | ret u =>
        obtain ⟨v,H',os,bare,un,hok',r',q⟩:=h
        have q':v=.bl true:=q
        subst q'
        obtain rfl:u=Value.bool true:=r'
        refine ⟨rfl,OldK.of_keep fun b o e=>?_,os,bare⟩
        cases q:H b with
        | none=>exact un.keep b o e q (by intro z; exact absurd (show b∈([]:List Addr) from z) (by simp)) (by simp)
        | some u =>
          rcases hO b with z | ⟨ob,xs,z⟩
          · rw [q] at z; cases z
          · have z2:=un.frzs b ob _ z
            obtain ⟨e1,_⟩:=hok b _ z
            obtain ⟨e2,_⟩:=hok' b _ z2
            rw [e] at e1; cases e1
            exact e2
  cases hk:K.lookup a with
  | some o =>
    have e:=KX a o hk
    rw [ha] at e
    cases e
    refine core (fun _=>none) (fun _=>.inl rfl) (.inr ⟨_,vs.toArray,_,hk,rfl,rfl,rfl,by rw [List.size_toArray,lenV]; exact hl,by simpa using rv⟩) (fun b u z=>by have z':(none:Option HO)=some u:=z; cases z') (fun b z=>absurd rfl z) fun z=>absurd rfl z
  | none =>
    refine core (fun b=>if b=a then some (.frz { cls:=.type "list",data:=.seq vs.toArray } (.lst (ns.map V.int))) else none) (fun b=>?_) (.inl (.inr ⟨{ cls:=.type "list",data:=.seq vs.toArray },if_pos rfl⟩)) (fun b u z=>?_) (fun b z=>?_) fun _=>hk
    · by_cases hb:b=a
      · exact .inr ⟨_,_,if_pos hb⟩
      · exact .inl (if_neg hb)
    · by_cases hb:b=a
      · have z':=(if_pos hb).symm.trans z
        cases z'
        subst hb
        exact ⟨ha,by rw [List.length_map]; exact hl,vs,_,rv,ha⟩
      · have z':=(if_neg hb).symm.trans z
        cases z'
    · by_cases hb:b=a
      · exact hb
      · exact absurd (if_neg hb) z
end L2
namespace L2
open PySem PySem.Spec PyProof.Rows
abbrev KOf {K:PySem.W.Frag} {h:Heap} (_:K.In h):PySem.W.Frag:=K
theorem walk_of {l:PySem.W.OpenLaw} {n k:Nat} {q:Program} {loose:List Str} {XP:(Str→Option Value)→Heap→Prop} {YP:World→Heap→Prop} {d:DefRec} {K:Params→PySem.W.Frag} {CX:World→CXT} {sp:World→Sp} {x:Str}
    (hn:l.most=some n) (hn2:n≤sizeLine) (hdf:d.params.defaults=[]) (hr:Room k callerA)
    (hY:∀ (w:World) (h:Heap),YP w h→(K w.params).In h)
    (F:∀ (w:World) (mg:Str→Option Value) (fa:Addr) (h:Heap),(K w.params).In h→h.Ns mainGlobals mg→mg d.name=some (.ref fa) →
      ∃ fd:FuncData,(∀ (s:Shared) (u:Value),BindsTo s fd ⟨[u],[]⟩ [(x,u)]) ∧
        ∀ base:Heap,(K w.params).In base→base.Ns mainGlobals mg→FnOk l.prog w (K w.params) mg base (CX w) k fa fd [x] (sp w))
    (hsp:∀ (w:World) (H:Hp) (a:Addr) (ns:List Int),ns.length≤n→Only H→SqL (K w.params) H a (ns.map V.int)→sp w [.ref a] H (fun v _=>v=.bl true) fun _ _ _=>False)
    (hCX:∀ (w:World) (H:Hp) (s:Shared) (e:Value) (s':Shared),CX w [] H s (fun _ _ _=>False) e s'→False) :
    PySem.W.WalkO q loose XP YP l.row.toRowW d [] (fun f vs=>PySem.call f vs):=by
  refine Att.attach_call hn hdf fun w s₀ s₁ mg mb fa o pm cd doc a vs ns G Y ho hd hcd hmg hobj hints hlen hg=>?_
  have KX:=hY w _ Y
  obtain ⟨fd,hb,hF⟩:=F w mg fa _ KX G.T.g hmg
  exact law_call KX G.T.g G.T.b G.T.builtins G.T.nolimit hg hobj hints (Nat.le_trans hlen hn2) hr hF hb (fun H hO hS=>hsp w H a ns hlen hO hS) fun H e s'=>hCX w H s₁ e s'
end L2
namespace L2
open PySem PySem.Spec PyProof.Rows
def defArgs (s:Stmt):Arguments:=match s with
  | .FunctionDef _ a _ _ _ _ _ _ _ _=>a
  | _=>{ posonlyargs:=[],args:=[],vararg:=none,kwonlyargs:=[],kw_defaults:=[],kwarg:=none,defaults:=[] }
def defBody (s:Stmt):List Stmt:=match s with
  | .FunctionDef _ _ b _ _ _ _ _ _ _=>b
  | _=>[]
def defScope (s:Stmt):Scope:=match s with
  | .FunctionDef _ _ _ _ _ _ sc _ _ _=>sc
  | _=>{ kind:=.function,names:=[],isGenerator:=false,isCoroutine:=false }
abbrev CX0:CXT:=fun _ _ _ _ _ _=>False
abbrev E0:XK:=fun _ _ _=>False
theorem pass0 {X:Cx}:Passes CX0 X E0:=fun _ _ _ _ _ _ _ h=>h.elim
structure Fun (K:PySem.W.Frag) (x qual:Str) (st:Stmt) (f:Addr) (fd:FuncData):Prop where
  ex:∃ (oc:Value) (od:Option Addr) (kV doc pm:Value) (an:Option Addr) (cdv ct:Value) (osl:Array (Option Value)),
    fd=PySem.W.fnOf x qual (defArgs st) (defBody st) (defScope st) .none kV doc pm an cdv ct∧K.lookup f=some ⟨oc,od,.func fd,osl⟩∧PySem.W.codeIn K cdv qual=true
  kp:PySem.W.keepIn K (.ref f)=true
section
variable {P:Program} {w:World} {K:PySem.W.Frag} {mg:Str→Option Value} {base:Heap}
theorem Fun.ok {x qual:Str} {st:Stmt} {f:Addr} {fd:FuncData} {N ps:List Str} {k:Nat} {sp:Sp} (F:Fun K x qual st f fd) (S:FnScope N ps (defScope st)) (len:∀ vs H Q E,sp vs H Q E→vs.length=ps.length)
    (hbody:∀ (cdv:Value) (A:Around) (outer:List Env) (s:Shared) (H:Hp) (vs:List V) (Q:VK) (E:XK),Room k (A.deeper (envOfC qual (defScope st) s.heap.objs.size f cdv))→sp vs H Q E →
      ∃ t,PSs (cxOf CX0 P w K mg base N qual (defScope st) f cdv A outer s H E).nox (defBody st) t∧t { nx:=fun _ H'=>Q .non H',rt:=Q } (start N vs) H):FnOk P w K mg base CX0 (k+1) f fd ps sp:=by
  obtain ⟨oc,od,kV,doc,pm,an,cdv,ct,osl,rfl,lk,hcd⟩:=F.ex
  refine fn_of lk hcd S len fun A outer s H vs Q E hr hsp=>?_
  obtain ⟨t,h,q⟩:=hbody cdv A outer s H vs Q E hr hsp
  exact ⟨t,h.nox,q⟩
theorem Fun.binds {x qual:Str} {st:Stmt} {f:Addr} {fd:FuncData} {ps:List Str} (F:Fun K x qual st f fd)
    (h:∀ (kV doc pm:Value) (an:Option Addr) (cdv ct:Value) (us:List Value),us.length=ps.length→bindArgs (PySem.W.fnOf x qual (defArgs st) (defBody st) (defScope st) .none kV doc pm an cdv ct) ⟨us,[]⟩=pure (ps.zip us)):Binds K fd ps []:=by
  obtain ⟨oc,od,kV,doc,pm,an,cdv,ct,osl,rfl,lk,hcd⟩:=F.ex
  exact .all (h kV doc pm an cdv ct)
theorem fun_mk {x qual:Str} {st:Stmt} {f:Addr} {oc:Value} {od an:Option Addr} {osl:Array (Option Value)} {kV doc pm cdv ct:Value} (l:K.lookup f=some ⟨oc,od,.func (PySem.W.fnOf x qual (defArgs st) (defBody st) (defScope st) .none kV doc pm an cdv ct),osl⟩)
    (c:PySem.W.codeIn K cdv qual=true) (k:PySem.W.keepIn K (.ref f)=true):Fun K x qual st f (PySem.W.fnOf x qual (defArgs st) (defBody st) (defScope st) .none kV doc pm an cdv ct):=⟨⟨oc,od,kV,doc,pm,an,cdv,ct,osl,rfl,l,c⟩,k⟩
end
theorem hu_of {A:Around} {k:Nat} (hr:Room k A):A.units+1 < cLine:=Nat.lt_of_le_of_lt (Nat.add_le_add_left (by decide:1≤64) _) hr.units
theorem small1000 {n:Nat} (h:n≤1000):n < sizeLine:=Nat.lt_of_le_of_lt h (by decide)
section
variable {X:Cx}
theorem pv (i:Nat) {x:Str} {pos:Pos} (hN:X.N[i]?=some x:=by rfl) (hv:Vis X.env.scope x:=by first | exact Or.inl rfl | exact Or.inr (Or.inl rfl) | exact Or.inr (Or.inr rfl)) (hd:(x == ("__debug__" : Str))=false:=by decide)
    (hcd:(x == ("__classdict__" : Str))=false:=by decide):PE X (.Name x pos) (tVar i):=pe_var hN hv hd hcd
end
theorem iteF {A B:Prop} (h:B):if false=true then A else B:=by
  rw [if_neg Bool.false_ne_true]
  exact h
theorem iteT {A B:Prop} (h:A):if true=true then A else B:=by
  rw [if_pos rfl]
  exact h
theorem ite2 {c A B:Prop} [Decidable c] (h1:c→A) (h2:¬ c→B):if c then A else B:=by
  by_cases h:c
  · rw [if_pos h]
    exact h1 h
  · rw [if_neg h]
    exact h2 h
def Same (H H':Hp):Prop:=∀ b o,H b=some o→H' b=some o
theorem Same.refl (H:Hp):Same H H:=fun _ _ h=>h
theorem Same.trans {H H1 H2:Hp} (a:Same H H1) (b:Same H1 H2):Same H H2:=fun c o h=>b c o (a c o h)
theorem Same.free {H H':Hp} (e:Same H H') {l:Addr} (h:H' l=Option.none):H l=Option.none:=by
  cases q:H l with
  | none=>rfl
  | some o =>
    rw [e l o q] at h
    cases h
theorem Same.seq {K:PySem.W.Frag} {H H':Hp} {a:Addr} {xs:List V} (e:Same H H') (h:SqL K H a xs):SqL K H' a xs:=by
  rcases h with (h | ⟨o,h⟩) | h
  · exact .inl (.inl (e _ _ h))
  · exact .inl (.inr ⟨o,e _ _ h⟩)
  · exact .inr h
end L2
set_option Elab.async false
set_option linter.all false
set_option maxRecDepth 100000
set_option maxHeartbeats 4000000
namespace L2
open PySem PySem.Spec PyProof.Rows
theorem closure_walk {env:Env}:∀ (names:List (Str × NameKind)) (acc:List (Str × Addr)),(∀ y∈names,y.2=.free→∃ c,env.cells.lookup y.1=some c) →
    ∃ cl,(forIn names acc (fun (x:Str × NameKind) (cs:List (Str × Addr))=>(if x.2 == .free then (do let c ← cellOf env x.1; pure (ForInStep.yield ((x.1,c) :: cs))) else pure (ForInStep.yield cs):Sem (ForInStep (List (Str × Addr))))))=pure cl ∧
      (∀ y∈names,y.2=.free→∃ c,cl.lookup y.1=some c)∧(∀ y c,acc.lookup y=some c→∃ d,cl.lookup y=some d)∧(∀ y c,cl.lookup y=some c→env.cells.lookup y=some c∨acc.lookup y=some c)
  | [],acc,_=>⟨acc,rfl,(fun _ h=>nomatch h),(fun y c h=>⟨c,h⟩),(fun y c h=>.inr h)⟩
  | (n,k) :: r,acc,h=>by
    rw [List.forIn_cons]
    by_cases hk:k=.free
    · subst hk
      obtain ⟨c,hc⟩:=h (n,.free) List.mem_cons_self rfl
      obtain ⟨cl,e,h1,h2,h3⟩:=closure_walk r ((n,c) :: acc) fun y hy=>h y (List.mem_cons_of_mem _ hy)
      refine ⟨cl,?_,?_,?_,?_⟩
      · have e0:cellOf env n=pure c:=by unfold cellOf; rw [hc]
        simp only [beq_self_eq_true,if_true,e0,pure_bind]
        exact e
      · intro y hy hf
        rcases List.mem_cons.mp hy with rfl | hy
        · exact h2 n c (by simp)
        · exact h1 y hy hf
      · intro y d hd
        by_cases e1:y=n
        · subst e1; exact h2 y c (by simp)
        · exact h2 y d (by rw [List.lookup_cons,beq_eq_false_iff_ne.mpr e1]; exact hd)
      · intro y d hd
        rcases h3 y d hd with q | q
        · exact .inl q
        · by_cases e1:y=n
          · subst e1
            simp at q
            exact .inl (by rw [← q]; exact hc)
          · rw [List.lookup_cons,beq_eq_false_iff_ne.mpr e1] at q
            exact .inr q
    · have hb:(k == NameKind.free)=false:=by simpa using hk
      obtain ⟨cl,e,h1,h2,h3⟩:=closure_walk r acc fun y hy=>h y (List.mem_cons_of_mem _ hy)
      refine ⟨cl,?_,?_,h2,h3⟩
      · simp only [hb,Bool.false_eq_true,if_false,pure_bind]
        exact e
      · intro y hy hf
        rcases List.mem_cons.mp hy with rfl | hy
        · exact absurd hf hk
        · exact h1 y hy hf
theorem closure_of {scope:Scope} {env:Env} (h:∀ y∈scope.names,y.2=.free→∃ c,env.cells.lookup y.1=some c) :
    ∃ cl,closureFor scope env=pure cl∧(∀ y∈scope.names,y.2=.free→∃ c,cl.lookup y.1=some c)∧∀ y c,cl.lookup y=some c→env.cells.lookup y=some c:=by
  obtain ⟨cl,e,h1,_,h3⟩:=closure_walk scope.names [] h
  refine ⟨cl,?_,h1,fun y c q=>(h3 y c q).elim id fun z=>by simp at z⟩
  rw [← e]
  unfold closureFor
  simp only [bind_pure]
theorem relabel_free {env:Env}:∀ {names:List (Str × NameKind)} {x:Str},names.lookup x=some .free →
    (names.map fun (n,k)=>if (k == NameKind.free && env.scope.kind == .function && env.kindOf n == some .cell) then (n,NameKind.cell) else (n,k)).lookup x=some .cell ∨
    (names.map fun (n,k)=>if (k == NameKind.free && env.scope.kind == .function && env.kindOf n == some .cell) then (n,NameKind.cell) else (n,k)).lookup x=some .free
  | [],_,h=>by simp at h
  | (n,k) :: r,x,h=>by
    have ih:=@relabel_free env r x
    rw [List.map_cons]
    cases hx:x == n with
    | true =>
      simp only [List.lookup_cons,hx] at h
      cases h
      by_cases hc:(NameKind.free == NameKind.free && env.scope.kind == .function && env.kindOf n == some .cell)=true
      · left; simp only [if_pos hc,List.lookup_cons,hx]
      · right; simp only [if_neg hc,List.lookup_cons,hx]
    | false =>
      simp only [List.lookup_cons,hx] at h
      by_cases hc:(k == NameKind.free && env.scope.kind == .function && env.kindOf n == some .cell)=true
      · simp only [if_pos hc,List.lookup_cons,hx]; exact ih h
      · simp only [if_neg hc,List.lookup_cons,hx]; exact ih h
theorem relabel_inv {env:Env}:∀ {names:List (Str × NameKind)} {x:Str} {k':NameKind},
    (names.map fun (n,k)=>if (k == NameKind.free && env.scope.kind == .function && env.kindOf n == some .cell) then (n,NameKind.cell) else (n,k)).lookup x=some k'→(k'=.cell∨k'=.free) →
    ∃ k,(x,k)∈names∧(k=.cell∨k=.free)
  | [],_,_,h,_=>by simp at h
  | (n,k) :: r,x,k',h,hk=>by
    have ih:=@relabel_inv env r x k'
    rw [List.map_cons] at h
    cases hx:x == n with
    | true =>
      have e:x=n:=by simpa using hx
      subst e
      by_cases hc:(k == NameKind.free && env.scope.kind == .function && env.kindOf x == some .cell)=true
      · refine ⟨k,List.mem_cons_self,.inr ?_⟩
        simp only [Bool.and_eq_true,beq_iff_eq] at hc
        exact hc.1.1
      · simp only [if_neg hc,List.lookup_cons,beq_self_eq_true] at h
        cases h
        exact ⟨k,List.mem_cons_self,hk⟩
    | false =>
      have h':(r.map fun (n,k)=>if (k == NameKind.free && env.scope.kind == .function && env.kindOf n == some .cell) then (n,NameKind.cell) else (n,k)).lookup x=some k':=by
        by_cases hc:(k == NameKind.free && env.scope.kind == .function && env.kindOf n == some .cell)=true
        · simpa only [if_pos hc,List.lookup_cons,hx] using h
        · simpa only [if_neg hc,List.lookup_cons,hx] using h
      obtain ⟨q,m,z⟩:=ih h' hk
      exact ⟨q,List.mem_cons_of_mem _ m,z⟩
abbrev blockCx (X:Cx) (scope:Scope) (N:List Str) (cl:List (Str × Addr)) (C:Addr) (s:Shared) (H:Hp) (ex:List Addr) (pn:List (Addr × Obj)) (E:Value→Shared→Prop):Cx :=
  { X with N:=N,s₀:=s,H₀:=H,env:=compEnvC scope cl C X.env,outer:=X.stack,stack:=X.stack,ex:=ex,fn:=fun _=>false,pn:=pn,xe:=E }
theorem block_ok {X:Cx} {pins:List (Addr × Obj)} {σ σ':St} {H:Hp} {s:Shared} {scope:Scope} {N:List Str} {cl:List (Str × Addr)} {fp:List Addr} {E:Value→Shared→Prop} {h1:Heap} {t:Nat}
    (I:Inv X pins σ H s) (hkind:scope.kind=.function) (hcell:∀ y∈scope.names,y.2≠.cell) (hfree:∀ y∈scope.names,y.2=.free→X.env.kindOf y.1=some .cell∨X.env.kindOf y.1=some .free)
    (hcl1:∀ y∈scope.names,y.2=.free→∃ c,cl.lookup y.1=some c) (hcl2:∀ y c,cl.lookup y=some c→X.env.cells.lookup y=some c)
    (hf:∀ b∈fp,FpOk X pins H b) (hfo:∀ b∈fp,∃ o,s.heap.get? b=some o)
    (hl:σ'.length=N.length) (hσ:∀ (i:Nat) (x:Str) (v:V),N[i]?=some x→σ'[i]?=some (some v)→scope.names.lookup x=some .free∧∃ j:Nat,X.N[j]?=some x∧σ[j]?=some (some v))
    (hns:h1.Ns s.heap.objs.size (fun _=>none)) (hold:∀ b o,s.heap.get? b=some o→h1.get? b=some o) :
    Inv (blockCx X scope N cl s.heap.objs.size s H fp (X.pn++pins) E) [] σ' H { s with heap:=h1,toks:=t }:=by
  have szc:∀ b o,s.heap.get? b=some o→b≠s.heap.objs.size:=fun b o e=>Nat.ne_of_lt (Heap.lt_size e)
  have okY:(blockCx X scope N cl s.heap.objs.size s H fp (X.pn++pins) E).Ok:=by
    refine ⟨I.ok.mod,hkind,I.ok.glob,I.ok.blt,Nat.le_refl _,fun x y c e1 e2=>I.ok.inj x y c (hcl2 _ _ e1) (hcl2 _ _ e2),fun x hx=>?_,fun x c hfn _=>?_,I.ok.hd,I.ok.frames,.inl rfl,fun b hb=>⟨?_,fun x c e z=>?_⟩,I.bs,Nat.le_trans I.ok.bsz I.sz,fun b o e hb=>?_,fun b hb z=>?_,I.stack,I.stkFree⟩
    · have hx':(relabel scope X.env).names.lookup x=some .cell∨(relabel scope X.env).names.lookup x=some .free:=hx
      have q:∃ k,(x,k)∈scope.names∧(k=.cell∨k=.free):=by
        rcases hx' with z | z
        · exact relabel_inv z (.inl rfl)
        · exact relabel_inv z (.inr rfl)
      obtain ⟨k,hm,hk⟩:=q
      rcases hk with rfl | rfl
      · exact absurd rfl (hcell _ hm)
      · exact hcl1 _ hm rfl
    · exact absurd (show false=true from hfn) (by decide)
    · obtain ⟨o,e⟩:=hfo b hb
      exact szc b o e
    · exact (hf b hb).2.2.2.2.1 x c (hcl2 _ _ e) z
    · rcases (hf b hb).2.2.2.1 with z | z
      · exact I.ok.noex b o e z
      · exact absurd (Nat.lt_of_lt_of_le (Heap.lt_size e) (Nat.le_trans I.ok.bsz z)) (Nat.lt_irrefl _)
    · rcases List.mem_cons.mp (I.stkSub b z) with q | q
      · exact (hf b hb).2.1 q
      · exact (hf b hb).2.2.1 q
  obtain ⟨m,hn,hlook⟩:=id I.loc
  refine ⟨okY,rfl,I.bare,Un.kept hold,⟨_,hns,fun i x v e1 e2 _=>?_⟩,fun x c e=>?_,I.hok.fresh (Nat.le_refl _),fun x c e=>I.freeC x c (hcl2 _ _ e),fun p hp=>?_,I.hok.kept hold,hl⟩
  · obtain ⟨hfr,j,ej,es⟩:=hσ i x v e1 e2
    have hm:(x,NameKind.free)∈scope.names:=PySem.mem_of_lookup hfr
    have hk:=hfree _ hm rfl
    have hv:Vis X.env.scope x:=by
      rcases hk with z | z
      · exact .inr (.inl z)
      · exact .inr (.inr z)
    obtain ⟨u,r,l⟩:=hlook j x v ej es hv
    refine ⟨u,r,.inr ⟨?_,?_⟩⟩
    · exact relabel_free hfr
    · rcases l with ⟨k,_⟩ | ⟨_,c,ec,hc⟩
      · rcases hk with z | z <;> (rw [k] at z; cases z)
      · obtain ⟨d,hd⟩:=hcl1 _ hm rfl
        have e:=hcl2 _ _ hd
        have ec':X.env.cells.lookup x=some d:=e
        rw [ec] at ec'; cases ec'
        obtain ⟨o,ho,hod⟩:=hc
        exact ⟨c,hd,o,hold c o ho,hod⟩
  · obtain ⟨v,o,ho,hod⟩:=I.cell x c (hcl2 _ _ e)
    exact ⟨v,o,hold c o ho,hod⟩
  · have hp':p∈X.pn++pins:=by simpa using hp
    obtain ⟨a1,a2,a3,a4,a5⟩:=I.pin p hp'
    refine ⟨hold _ _ a1,a2,szc _ _ a1,fun z=>?_,a5⟩
    rcases List.mem_cons.mp (I.stkSub _ z) with q | q
    · exact a3 q
    · exact a4 q
def PIfs (X:Cx) (ifs:List Expr) (t:TT):Prop :=
  ∀ (pins:List (Addr × Obj)) (s:Shared) (σ:St) (H:Hp) (Q:Bool→Hp→Prop),Inv X pins σ H s→t σ H Q →
    wpAny (model X.prog X.w) X.A (forIn ifs true fun c r=>if r=true then do let ok ← isTrue c X.env (eval c X.env); pure (ForInStep.yield ok) else pure (ForInStep.yield r)) (TP X pins σ Q) X.xe s
def tYes:TT:=fun _ H Q=>Q true H
theorem pifs_nil {X:Cx}:PIfs X [] tYes:=fun _ _ _ H _ I h=>wpAny_tests_nil ⟨H,I,h⟩
theorem pifs_one {X:Cx} {c:Expr} {t:TT} (h:PT X c t):PIfs X [c] t:=fun pins s σ H Q I hw=>wpAny_tests_one (h pins s σ H Q I hw)
section
variable {prog:Program} {w:World} {A:Around} {R:Result→Shared→Prop} {s:Shared}
theorem codeAny_compLoop_any {elt target iter:Expr} {ifs:List Expr} {scope:Scope} {pos:Pos} {it acc:Value} {env:Env} (I:Nat→Shared→Prop)
    (turn:∀ n s,I n s→wpAny (model prog w) A (pyNext it) (fun r s₁=>match r with
      | none=>R (.ok .next) s₁
      | some v=>wpAny (model prog w) A (letOwnedTupleGo target it v) (fun _ s₁'=>wpAny (model prog w) A (assign target env v) (fun _ s₂ =>
          wpAny (model prog w) A (forIn ifs true fun c r=>if r=true then do let ok ← isTrue c env (eval c env); pure (ForInStep.yield ok) else pure (ForInStep.yield r)) (fun ok s₃ =>
            if ok=true then wpAny (model prog w) A (eval elt env) (fun x s₄ =>
              wpAny (model prog w) A (call (.builtin "list.append") [acc,x]) (fun _ s₅=>∃ m,m < n∧I m s₅) (notedBy (model prog w) A env fun e s'=>R (.error e) s') s₄) (notedBy (model prog w) A env fun e s'=>R (.error e) s') s₃
            else ∃ m,m < n∧I m s₃) (notedBy (model prog w) A env fun e s'=>R (.error e) s') s₂) (notedBy (model prog w) A env fun e s'=>R (.error e) s') s₁') (notedBy (model prog w) A env fun e s'=>R (.error e) s') s₁)
        (notedBy (model prog w) A env fun e s'=>R (.error e) s') s)
    (n:Nat) (h:I n s) :
    codeAny (model prog w) A (.compLoop (.ListComp elt [⟨target,iter,ifs,0⟩] scope pos) 0 it acc env) R s:=by
  refine codeAny_loop rfl I (fun n s hI=>?_) n h
  show wpAny _ A ((compTurn (.ListComp elt [⟨target,iter,ifs,0⟩] scope pos) 0 it acc env).onRaise (fun x=>do noteFrame x env; theTreesLotGoes x)) _ _ s
  refine wpAny_noted ?_
  rw [compTurn_list]
  refine wpAny_bind (wpAny_standAt (wpAny_bind (wpAny_mono (turn n s hI) (fun r s₁ h₁=>?_) fun _ _ h'=>h')))
  cases r with
  | none=>exact wpAny_pure h₁
  | some v =>
    refine wpAny_bind (wpAny_mono h₁ (fun _ s₁' h₁'=>?_) fun _ _ h'=>h')
    refine wpAny_bind (wpAny_mono h₁' (fun _ s₂ h₂=>wpAny_bind (wpAny_mono h₂ (fun ok s₃ h₃=>?_) fun _ _ h'=>h')) fun _ _ h'=>h')
    cases ok with
    | false=>exact wpAny_pure ⟨rfl,h₃⟩
    | true =>
      exact wpAny_bind (wpAny_bind (wpAny_mono h₃ (fun x s₄ h₄=>wpAny_bind (wpAny_mono h₄ (fun _ s₅ h₅=>wpAny_pure (wpAny_pure ⟨rfl,h₅⟩)) fun _ _ h'=>h')) fun _ _ h'=>h'))
end
def tComp (wi:TI) (g:TG) (tc:TT) (te:TE) (lift:St→St):TE:=fun σ H Q=>wi σ H fun J H1=>∀ l,H1 l=none→∃ W:Nat→Nat→St→Hp→Prop,(∃ m,W 0 m (lift σ) (upd H1 l (.lst [])))∧∀ i m σ H,W i m σ H →
  (J.stop i H∧Q (.ref l) H)∨(J.go i H∧∃ N:St→Hp→Prop,(∀ σ' H',N σ' H'→∃ m',m' < m∧W (i+1) m' σ' H') ∧
    ∀ x H',J.yld i H x H'→g x σ H' fun σ2 H2=>tc σ2 H2 fun b H3=>if b=true then te σ2 H3 fun v H4=>∃ ys,H4 l=some (.lst ys)∧ys.length < sizeLine∧N σ2 (upd H4 l (.lst (ys++[v]))) else N σ2 H3)
theorem pe_comp {X:Cx} {elt tg iter:Expr} {ifs:List Expr} {scope:Scope} {pos:Pos} {wi:TI} {g:TG} {tc:TT} {te:TE} (N:List Str) (lift:St→St) (hc:X.calm=true) (hi:PI X tg iter wi)
    (hkind:scope.kind=.function) (hcell:∀ y∈scope.names,y.2≠.cell) (hfree:∀ y∈scope.names,y.2=.free→X.env.kindOf y.1=some .cell∨X.env.kindOf y.1=some .free)
    (hnames:∀ y∈scope.names,y.2=.local→scope.names.lookup y.1=some .local)
    (hlen:∀ σ:St,σ.length=X.N.length→(lift σ).length=N.length)
    (hσ:∀ (σ:St) (i:Nat) (x:Str) (v:V),σ.length=X.N.length→N[i]?=some x→(lift σ)[i]?=some (some v)→scope.names.lookup x=some .free∧∃ j:Nat,X.N[j]?=some x∧σ[j]?=some (some v))
    (hg:∀ cl C s H ex pn E,PG (blockCx X scope N cl C s H ex pn E) tg g) (ht:∀ cl C s H ex pn E,PIfs (blockCx X scope N cl C s H ex pn E) ifs tc) (he:∀ cl C s H ex pn E,PE (blockCx X scope N cl C s H ex pn E) elt te)
    (hs:∀ x,foldedSetIterable iter X.env x=pure x:=by intro _; rfl) :
    PE X (.ListComp elt [⟨tg,iter,ifs,0⟩] scope pos) (tComp wi g tc te lift):=by
  intro pins s σ H Q I h
  rw [eval_ListComp]
  obtain ⟨cl,hclos,hcl1,hcl2⟩:=closure_of (scope:=scope) (env:=X.env) fun y hy hf=>I.ok.has y.1 (hfree y hy hf)
  refine wpAny_comprehension_free (use:=none) rfl hs hclos hkind hnames (thn (hi pins s σ H _ I h) fun v s1 h1=>thn h1 fun itv s2 h2=>?_)
  obtain ⟨it,fp,tn,J,H2,e,I2,T,st2,f2,q⟩:=h2
  subst e
  refine wpAny_newObj_type (wpAny_newFunctionEnv hcell (by intro y hy; simp at hy) (fun h₁ hns₁ hsb₁=>?_) hkind)
  have I3:Inv X pins σ (upd H2 s2.heap.objs.size (.lst [])) { s2 with heap:=s2.heap.push { cls:=.type "list",data:=.seq ([]:List Value).toArray } }:=I2.lnew (its:=[]) (t':=s2.toks) .nil (Nat.zero_le _)
  have fr:H2 s2.heap.objs.size=none:=I2.fresh
  have hold:∀ b o,(s2.heap.push { cls:=.type "list",data:=.seq ([]:List Value).toArray }).get? b=some o→h₁.get? b=some o:=fun b o e=>hsb₁.extBut b o (Nat.ne_of_lt (Heap.lt_size e)) (Heap.get?_push_of_some _ e)
  have f3:∀ b∈fp,FpOk X pins (upd H2 s2.heap.objs.size (.lst [])) b:=fun b hb=>by
    obtain ⟨o,eo,_⟩:=T.obj 0 _ st2 b hb
    exact ⟨by rw [upd_ne (Nat.ne_of_lt (Heap.lt_size eo))]; exact (f2 b hb).1,(f2 b hb).2⟩
  have fo:∀ b∈fp,∃ o,(s2.heap.push { cls:=.type "list",data:=.seq ([]:List Value).toArray }).get? b=some o:=fun b hb=>by
    obtain ⟨o,eo,_⟩:=T.obj 0 _ st2 b hb
    exact ⟨o,Heap.get?_push_of_some _ eo⟩
  generalize hP:s2.heap.push { cls:=.type "list",data:=.seq ([]:List Value).toArray }=P at *
  obtain ⟨W,⟨m0,w0⟩,turn⟩:=q s2.heap.objs.size fr
  generalize hL:s2.heap.objs.size=L at *
  let R:Result→Shared→Prop:=compPost (model X.prog X.w) X.A X.xe none (EP X pins σ Q) (.ref L) P.objs.size
  let Y:Cx:=blockCx X scope N cl P.objs.size { s2 with heap:=P } (upd H2 L (.lst [])) fp (X.pn++pins) (notedBy (model X.prog X.w) X.A (compEnvC scope cl P.objs.size X.env) fun e s'=>R (.error e) s')
  have IY:Inv Y [] (lift σ) (upd H2 L (.lst [])) { s2 with heap:=h₁,toks:=s2.toks+([]:List (Str × Value)).length } :=
    block_ok (s:={ s2 with heap:=P }) I3 hkind hcell hfree hcl1 hcl2 f3 fo (hlen σ I.len) (fun i x v=>hσ σ i x v I.len) hns₁ hold
  have stY:tn 0 h₁:=T.keep _ _ _ st2 fun b hb o e=>hold b o (by rw [← hP]; exact Heap.get?_push_of_some _ e)
  have fC:∀ b∈fp,b≠P.objs.size∧(b∈fp):=fun b hb=>by
    obtain ⟨o,eo⟩:=fo b hb
    exact ⟨Nat.ne_of_lt (Heap.lt_size eo),hb⟩
  have fpY:∀ {H':Hp},(∀ b∈fp,H' b=none)→∀ b∈fp,FpOk Y [] H' b:=fun {H'} hn b hb=>by
    refine ⟨hn b hb,(fC b hb).1,fun z=>?_,.inl hb,fun x c ex=>(f3 b hb).2.2.2.2.1 x c (hcl2 _ _ ex),fun p hp=>?_⟩
    · rcases List.mem_cons.mp (I3.stkSub b z) with y | y
      · exact (f3 b hb).2.1 y
      · exact (f3 b hb).2.2.1 y
    · have hp':p∈(X.pn++pins)++[]:=hp
      rw [List.append_nil] at hp'
      exact (f3 b hb).2.2.2.2.2 p hp'
  have loop:∀ s4:Shared,s4={ s2 with heap:=h₁,toks:=s2.toks+([]:List (Str × Value)).length } →
      codeAny (model X.prog X.w) X.A (.compLoop (.ListComp elt [⟨tg,iter,ifs,0⟩] scope pos) 0 (.ref it) (.ref L) (compEnvC scope cl P.objs.size X.env)) R s4:=by
    rintro s4 rfl
    refine codeAny_compLoop_any (fun n s'=>∃ i σ' H',Inv Y [] σ' H' s'∧tn i s'.heap∧(∀ b∈fp,H' b=none)∧W i n σ' H') ?_ m0 ⟨0,_,_,IY,stY,fun b hb=>(f3 b hb).1,w0⟩
    rintro n s5 ⟨i,σ5,H5,I5,st5,fr5,w5⟩
    rcases turn i n σ5 H5 w5 with ⟨stop,qn⟩ | ⟨go,Nx,hNx,step⟩
    · refine thn (T.done Y rfl rfl rfl hc i [] s5 σ5 H5 Y.xe I5 (fpY fr5) st5 stop) fun r s6 ⟨hr,I6⟩=>?_
      subst hr
      show R (.ok .next) s6
      obtain ⟨m6,hn6,_⟩:=id I6.loc
      have IX:Inv X pins σ H5 s6:=I3.call' (s':=s6) (ch:=fp) I6.os I6.base I6.hok I6.bare fun b hb=>⟨(f3 b hb).2.2.2.1,(f3 b hb).2.1,(f3 b hb).2.2.2.2.1,(f3 b hb).2.2.2.2.2⟩
      refine ⟨m6,hn6,fun h' sb=>⟨.ref L,H5,IX.turned (t':=s6.toks) (it:=P.objs.size) (fun b o hb e=>(sb.2 b hb).trans e) I6.free (Nat.ne_of_gt I3.lt) (.inr I3.sz) (fun x c ec z=>?_) fun p hp z=>?_,rfl,qn⟩⟩
      · obtain ⟨v0,qv⟩:=I3.cell x c ec
        exact absurd qv.lt (by rw [z]; exact Nat.lt_irrefl _)
      · have z0:=Heap.lt_size (I3.pin p hp).1
        exact absurd z0 (by rw [z]; exact Nat.lt_irrefl _)
    · refine thn (T.item Y rfl rfl rfl hc i [] s5 σ5 H5 Y.xe I5 (fpY fr5) st5 go) fun r s6 ⟨u,hr,h6⟩=>?_
      subst hr
      refine thn h6 fun _ s7 ⟨x,H7,I7,r7,y7,st7,fr7⟩=>?_
      have I7':=I7.pinned (fpY fr7) (T.obj _ _ st7)
      refine thn (hg _ _ _ _ _ _ _ _ s7 σ5 H7 x u _ I7' r7 (step x H7 y7)) fun _ s8 ⟨σ8,H8,I8,q8⟩=>?_
      refine thn (ht _ _ _ _ _ _ _ _ s8 σ8 H8 _ I8 q8) fun ok s9 ⟨H9,I9,q9⟩=>?_
      have again:∀ {sx:Shared} {Hx:Hp},Inv Y ([]++pinsAt fp s7.heap) σ8 Hx sx→Nx σ8 Hx→∃ m,m < n∧∃ i σ' H',Inv Y [] σ' H' sx∧tn i sx.heap∧(∀ b∈fp,H' b=none)∧W i m σ' H':=fun {sx Hx} Ix nx=>by
        obtain ⟨m',hm,wx⟩:=hNx σ8 Hx nx
        refine ⟨m',hm,i+1,σ8,Hx,Ix.unpinned,T.keep _ _ _ st7 fun b hb o e=>(Ix.pin (b,o) (List.mem_append_right _ (List.mem_append_right _ (mem_pinsAt hb e)))).1,fun b hb=>?_,wx⟩
        obtain ⟨o,e,d⟩:=T.obj _ _ st7 b hb
        exact (Ix.pin (b,o) (List.mem_append_right _ (List.mem_append_right _ (mem_pinsAt hb e)))).2.1
      cases ok with
      | false =>
        rw [if_neg Bool.false_ne_true] at q9 ⊢
        exact again I9 q9
      | true =>
        rw [if_pos rfl] at q9 ⊢
        refine thn (he _ _ _ _ _ _ _ _ s9 σ8 H9 _ I9 q9) fun y s10 ⟨v10,H10,I10,r10,ys,hys,hz,q10⟩=>?_
        refine thn (mt_append (X:=Y) _ s10 σ8 H10 (.ref L) [v10] (.ref L) [y] (fun _ H'=>Nx σ8 H') I10 rfl (.cons r10 .nil) ⟨L,ys,v10,rfl,rfl,hys,hz,q10⟩) fun _ s11 ⟨_,H11,I11,_,q11⟩=>?_
        exact again I11 q11
  exact codeAny_compStart_list (loop _ rfl) (T.self X.A 0 _ _ _ stY (loop _ rfl))
end L2
set_option Elab.async false
set_option linter.all false
set_option maxRecDepth 100000
set_option maxHeartbeats 4000000
namespace L2
open PySem PySem.Spec PyProof.Rows
theorem comp_by {J:It} {g:TG} {tc:TT} {te:TE} {R:Hp→Prop} {l:Addr} {σ0:St} {H0:Hp} (n:Nat) (Pv:Nat→St→Hp→Prop) (h0:Pv 0 σ0 H0) (hstop:∀ σ H,Pv n σ H→J.stop n H∧R H)
    (hgo:∀ i σ H,i < n→Pv i σ H→J.go i H∧∀ x H',J.yld i H x H'→g x σ H' fun σ2 H2=>tc σ2 H2 fun b H3=>if b=true then te σ2 H3 fun v H4=>∃ ys,H4 l=some (.lst ys)∧ys.length < sizeLine∧Pv (i+1) σ2 (upd H4 l (.lst (ys++[v]))) else Pv (i+1) σ2 H3) :
    ∃ W:Nat→Nat→St→Hp→Prop,(∃ m,W 0 m σ0 H0)∧∀ i m σ H,W i m σ H →
      (J.stop i H∧R H)∨(J.go i H∧∃ N:St→Hp→Prop,(∀ σ' H',N σ' H'→∃ m',m' < m∧W (i+1) m' σ' H') ∧
        ∀ x H',J.yld i H x H'→g x σ H' fun σ2 H2=>tc σ2 H2 fun b H3=>if b=true then te σ2 H3 fun v H4=>∃ ys,H4 l=some (.lst ys)∧ys.length < sizeLine∧N σ2 (upd H4 l (.lst (ys++[v]))) else N σ2 H3):=by
  refine ⟨fun i m σ H=>m=n - i∧i≤n∧Pv i σ H,⟨n,by simp,Nat.zero_le _,h0⟩,?_⟩
  rintro i m σ H ⟨rfl,hi,p⟩
  by_cases hlt:i < n
  · obtain ⟨go,st⟩:=hgo i σ H hlt p
    exact .inr ⟨go,Pv (i+1),fun σ' H' p'=>⟨n - (i+1),by omega,rfl,hlt,p'⟩,st⟩
  · have e:i=n:=by omega
    subst e
    exact .inl (hstop σ H p)
theorem yesT {σ:St} {H:Hp} {F:Bool→Hp→Prop} (h:F true H):tYes σ H F:=h
theorem gN {i:Nat} {v:V} {σ:St} {H:Hp} {Q:St→Hp→Prop} (h:Q (σ.set i (some v)) H):gName i v σ H Q:=h
def Its (x:Str):It:=⟨fun i _=>i < x.cps.size,fun i H v H'=>H'=H∧∃ c,x.cps[i]?=some c∧v=.str ⟨#[c]⟩,fun i _=>x.cps.size≤i⟩
theorem turn_str {P:Program} {w:World} {K:PySem.W.Frag} {tg:Expr} {it:Addr} {x:Str} {t:Tok} {ty:String} (hty:ty = "str_ascii_iterator"∨ty = "str_iterator") :
    Turn P w K tg (Its x) [it] it (fun i h=>i≤x.cps.size∧h.IsStrIter it ty x t i) where
  mem:=by simp
  obj:=fun i h st b hb=>by
    have e:b=it:=by simpa using hb
    subst e
    obtain ⟨_,o,e,c,d⟩:=st
    exact ⟨o,e,fun v z=>by rw [d] at z; cases z⟩
  keep:=fun i h h' st k=>by
    obtain ⟨hi,o,e,r⟩:=st
    exact ⟨hi,o,k it (by simp) o e,r⟩
  item:=by
    intro X hP hw hK hc i pins s σ H E I hf st hg
    subst hP hw hK
    obtain ⟨f0,f1,f2,f3,f4,f5⟩:=hf it (by simp)
    have hlt:i < x.cps.size:=hg
    obtain ⟨_,st⟩:=st
    have W:Walks X.prog X.w X.A it [it] [it] x.cps.size (SignAt x) (fun i h=>h.IsStrIter it ty x t i):=by
      rcases hty with rfl | rfl
      · exact Walks.strAscii (I.ok.hd hc) it x t
      · exact Walks.strWide (I.ok.hd hc) it x t
    refine W.item i s _ _ hlt st fun v h' tk hv st' kk=>?_
    obtain ⟨c,u,hc',rfl⟩:=hv
    have I1:Inv X pins σ H { s with heap:=h',toks:=tk }:=I.turned (fun b o hb e=>kk b o (by simpa using hb) e) f0 f1 f3 f4 f5
    obtain ⟨o,e,c2,d⟩:=id st'
    refine ⟨_,rfl,go_of (s:={ s with heap:=h',toks:=tk }) (n:=ty) e c2 d ?_ ⟨.str ⟨#[c]⟩,H,I1,⟨u,rfl⟩,⟨rfl,c,hc',rfl⟩,⟨by omega,st'⟩,fun b hb=>(hf b hb).1⟩⟩
    rcases hty with rfl | rfl <;> decide
  done:=by
    intro X hP hw hK hc i pins s σ H E I hf st hg
    subst hP hw hK
    obtain ⟨f0,f1,f2,f3,f4,f5⟩:=hf it (by simp)
    have hge:x.cps.size≤i:=hg
    obtain ⟨hi,st⟩:=st
    have e:i=x.cps.size:=by omega
    subst e
    have W:Walks X.prog X.w X.A it [it] [it] x.cps.size (SignAt x) (fun i h=>h.IsStrIter it ty x t i):=by
      rcases hty with rfl | rfl
      · exact Walks.strAscii (I.ok.hd hc) it x t
      · exact Walks.strWide (I.ok.hd hc) it x t
    exact W.done s _ _ st fun h' tk kk=>⟨rfl,I.turned (fun b o hb e=>kk b o (by simpa using hb) e) f0 f1 f3 f4 f5⟩
  self:=fun A i s Q E st h=>by
    obtain ⟨_,st⟩:=st
    rcases hty with rfl | rfl
    · exact wpAny_pyIter_striter_ascii st h
    · exact wpAny_pyIter_striter_wide st h
def iStr (tl:TE):TI:=fun σ H R=>tl σ H fun v H1=>∃ x,v=.str x∧R (Its x) H1
theorem pi_str {X:Cx} {tg l:Expr} {tl:TE} (hl:PE X l tl):PI X tg l (iStr tl):=by
  intro pins s σ H R I h
  refine thn (hl pins s σ H _ I h) fun v s1 ⟨y,H1,I1,r1,q1⟩=>?_
  obtain ⟨x,e,q⟩:=q1
  subst e
  obtain ⟨t,rfl⟩:=r1
  refine wpAny_pyIter_strU ?_
  have hty:strIterType x = "str_ascii_iterator"∨strIterType x = "str_iterator":=by
    unfold strIterType
    split
    · exact .inl rfl
    · exact .inr rfl
  refine ⟨s1.heap.objs.size,[s1.heap.objs.size],_,_,H1,rfl,I1.kept (t':=s1.toks) fun b o e=>Heap.get?_push_of_some _ e,turn_str (t:=t) hty,⟨Nat.zero_le _,_,Heap.get?_push_size _ rfl,rfl,rfl⟩,fun b hb=>?_,q⟩
  have e:b=s1.heap.objs.size:=by simpa using hb
  subst e
  exact I1.fpOk (Nat.le_refl _) (I1.hok.fresh (Nat.le_refl _))
def Ite (K:PySem.W.Frag) (a:Addr):It :=
  ⟨fun i H=>∃ xs x,SqL K H a xs∧xs[i]?=some x,fun i H v H'=>∃ t x,v=.ref t∧H t=none∧H'=upd H t (.tup [.int (i:Nat),x])∧∀ xs,SqL K H a xs→xs[i]?=some x,fun i H=>∃ xs,SqL K H a xs∧xs.length≤i⟩
theorem Inv.turnedT {X:Cx} {pins:List (Addr × Obj)} {σ:St} {H:Hp} {s:Shared} {h':Heap} {t':Nat} {e it:Addr} {xs:List V} {its:List Value} (I:Inv X pins σ H s) (k:∀ b o,b≠e→b≠it→s.heap.get? b=some o→h'.get? b=some o)
    (fe:FpOk X pins H e) (fi:FpOk X pins H it) (he:∃ o,s.heap.get? e=some o) (hi:∃ o,s.heap.get? it=some o) (hv:Vals xs its) (hz:xs.length≤sizeLine)
    (hn:h'.get? s.heap.objs.size=some { cls:=.type "tuple",data:=.seq its.toArray }):Inv X pins σ (upd H s.heap.objs.size (.tup xs)) { s with heap:=h',toks:=t' }:=by
  have fr:H s.heap.objs.size=none:=I.fresh
  have nel:∀ b o,s.heap.get? b=some o→b≠s.heap.objs.size:=fun b o q=>Nat.ne_of_lt (Heap.lt_size q)
  refine I.step (g':=s.gens) (d':=s.drawn) (ch:=[e,it]) (fun b hb=>?_) (fun b o _ _ hc q _=>k b o (fun z=>hc (by simp [z])) (fun z=>hc (by simp [z])) q)
    (fun b o _ _ hc q _=>⟨o.slots,k b o (fun z=>hc (by simp [z])) (fun z=>hc (by simp [z])) q⟩) (fun b o _ q n=>by rw [upd_ne (nel b o q)]; exact n)
    (fun b o hc q=>⟨o,k b o (fun z=>hc (by simp [z])) (fun z=>hc (by simp [z])) q⟩) (fun b ys q=>by rw [upd_ne (ne_of_none q fr)]; exact q) (fun b o u q=>by rw [upd_ne (ne_of_none q fr)]; exact q) (fun b ps q=>⟨#[],by rw [upd_ne (ne_of_none q fr),q]; simp⟩)
    (fun m hm=>?_) (fun b u q=>?_) I.bare
  · have hb':b=e∨b=it:=by simpa using hb
    rcases hb' with rfl | rfl
    · exact ⟨fe.2.2.2.1,fe.2.1,fe.2.2.2.2.1,fe.2.2.2.2.2⟩
    · exact ⟨fi.2.2.2.1,fi.2.1,fi.2.2.2.2.1,fi.2.2.2.2.2⟩
  · obtain ⟨o,es,ep,ho,r⟩:=hm
    exact ⟨o,es,ep,k _ o (Ne.symm fe.2.1) (Ne.symm fi.2.1) ho,r⟩
  · by_cases hb:b=s.heap.objs.size
    · subst hb
      rw [upd_same] at q
      cases q
      exact ⟨hz,its,hv,_,hn,rfl,_,rfl⟩
    · rw [upd_ne hb] at q
      refine (I.hok b u q).stay (fun c v hc q'=>k c v ?_ ?_ q') (fun c q'=>by rw [upd_ne (ne_of_none q' fr)]; exact q') fun c ys q'=>by rw [upd_ne (ne_of_none q' fr)]; exact q'
      · rintro rfl
        rcases hc with z | z
        · rw [← z,fe.1] at q; cases q
        · rw [fe.1] at z; cases z
      · rintro rfl
        rcases hc with z | z
        · rw [← z,fi.1] at q; cases q
        · rw [fi.1] at z; cases z
theorem turn_enum {P:Program} {w:World} {K:PySem.W.Frag} {elts:List Expr} {k1:Nat} {p1:Pos} (a e it:Addr) (hne:e≠it) :
    Turn P w K (.Tuple elts k1 p1) (Ite K a) [e,it] e (fun i h=>(∃ old,IsEnum h e it ((i:Nat):Int) old)∧h.IsListIter it a i) where
  mem:=by simp
  obj:=fun i h st b hb=>by
    obtain ⟨⟨old,he⟩,o,ho,c,d⟩:=st
    have hb':b=e∨b=it:=by simpa using hb
    rcases hb' with rfl | rfl
    · exact ⟨_,he,fun v z=>by
        have z':Data.fields _=Data.cell v:=z
        cases z'⟩
    · exact ⟨o,ho,fun v z=>by rw [d] at z; cases z⟩
  keep:=fun i h h' st k=>by
    obtain ⟨⟨old,he⟩,hit⟩:=st
    exact ⟨⟨old,k e (by simp) _ he⟩,hit.at fun o q=>k it (by simp) o q⟩
  item:=by
    intro X hP hw hK hc i pins s σ H E I hf st hg
    subst hP hw hK
    obtain ⟨xs,x,hq,hx⟩:=hg
    obtain ⟨its,rv,p,hz⟩:=I.list hq
    obtain ⟨u,hu,ru⟩:=rv.get hx
    obtain ⟨⟨old,he⟩,hit⟩:=st
    have fe:=hf e (by simp)
    have fi:=hf it (by simp)
    obtain ⟨oi,hoi,_⟩:=id hit
    refine wpAny_pyNext_enum_item he hit p.isList (x:=u) (by simpa using hu) hne fun h1 heo hit1 ht1 hz1 hk1=>?_
    refine ⟨_,rfl,wpAny_letOwnedTupleGo_enum heo fun h2 he2 hs2=>?_⟩
    have hs2':Heap.SameBut e h1 h2:=hs2
    have hel:e < s.heap.objs.size:=Heap.lt_size he
    have I1:Inv X pins σ (upd H s.heap.objs.size (.tup [.int (i:Nat),x])) { s with heap:=h2,toks:=s.toks+1 } :=
      I.turnedT (its:=[.int i s.toks,u]) (fun b o h1' h2' q=>hs2'.extBut b o h1' (hk1 b o h1' h2' q)) fe fi ⟨_,he⟩ ⟨_,hoi⟩ (.cons ⟨_,rfl⟩ (.cons ru .nil)) (by show 2≤sizeLine; decide) ((hs2'.2 _ (Nat.ne_of_gt hel)).trans ht1)
    refine ⟨.ref s.heap.objs.size,_,I1,rfl,⟨s.heap.objs.size,x,rfl,I.fresh,rfl,fun ys hy=>by rw [I.list_inj hy hq]; exact hx⟩,⟨⟨u,?_⟩,hit1.extBut hs2'.extBut (Ne.symm hne)⟩,fun b hb=>?_⟩
    · have e3:(((i+1:Nat)):Int)=(i:Int)+1:=by push_cast; rfl
      rw [e3]
      exact he2
    · have hb':b=e∨b=it:=by simpa using hb
      have hbl:b≠s.heap.objs.size:=by
        rcases hb' with rfl | rfl
        · exact Nat.ne_of_lt (Heap.lt_size he)
        · exact Nat.ne_of_lt (Heap.lt_size hoi)
      rw [upd_ne hbl]
      exact (hf b hb).1
  done:=by
    intro X hP hw hK hc i pins s σ H E I hf st hg
    subst hP hw hK
    obtain ⟨xs,hq,hx⟩:=hg
    obtain ⟨its,rv,p,hz⟩:=I.list hq
    obtain ⟨⟨old,he⟩,hit⟩:=st
    obtain ⟨f0,f1,f2,f3,f4,f5⟩:=hf it (by simp)
    have hl:=rv.length
    exact wpAny_pyNext_enum_end (I.ok.hd hc) he hit p.isList (by simp; omega) fun h' eb=>⟨rfl,I.turned (t':=s.toks) (fun b o hb e=>eb b o hb e) f0 f1 f3 f4 f5⟩
  self:=fun A i s Q E st h=>by
    obtain ⟨⟨old,he⟩,hit⟩:=st
    exact wpAny_pyIter_enum he h
def iEnum (K:PySem.W.Frag) (ta:TA):TI:=fun σ H R=>ta σ H fun vs H1=>∃ a,vs=[.ref a]∧(∃ xs,SqL K H1 a xs)∧R (Ite K a) H1
theorem pi_enum {X:Cx} {elts:List Expr} {k1:Nat} {p1:Pos} {a:Expr} {ta:TA} {p pos:Pos} (hg:Gl X "enumerate") (hm:X.mg "enumerate" = none) (ha:PA X [a] ta) (hs:starEach [a] X.env=[(false,eval a X.env)]:=by rfl)
    (hb:bootBuiltins "enumerate" = some (.type "enumerate"):=by first | exact boot_enumerate | exact PySem.boot_enumerate | rfl):PI X (.Tuple elts k1 p1) (.Call (.Name "enumerate" p) [a] [] pos) (iEnum X.K ta):=by
  intro pins s σ H R I h
  refine Call_ (ld_blt I hg hm hb (PyProof.Rows.callWith_type1 (thn (ha pos pins s σ H _ I h) fun us s1 ⟨vs,H1,I1,r1,q1⟩=>?_) hs rfl))
  obtain ⟨l,e,⟨xs,hq⟩,q⟩:=q1
  subst e
  cases r1 with
  | cons r rr =>
    cases rr
    cases r
    obtain ⟨its,rv,pl,hz⟩:=I1.list hq
    refine call_enumerate_list pl.isList fun h' he hit hsz hk=>?_
    refine wpAny_pyIter_enum he ?_
    have I2:Inv X pins σ H1 { s1 with heap:=h' }:=I1.kept (t':=s1.toks) hk
    refine ⟨s1.heap.objs.size+1,[s1.heap.objs.size+1,s1.heap.objs.size],_,_,H1,rfl,I2,turn_enum l _ _ (Nat.succ_ne_self _),⟨⟨_,he⟩,hit⟩,fun b hb=>?_,q⟩
    have hb':b=s1.heap.objs.size+1∨b=s1.heap.objs.size:=by simpa using hb
    rcases hb' with rfl | rfl
    · exact I1.fpOk (Nat.le_succ _) (I1.hok.fresh (Nat.le_succ _))
    · exact I1.fpOk (Nat.le_refl _) (I1.hok.fresh (Nat.le_refl _))
theorem strsAre_of {ys:List Str}:∀ {us:List Value},Vals (ys.map V.str) us→StrsAre us ys:=by
  induction ys with
  | nil=>intro us r; rw [List.map_nil] at r; cases r; exact .nil
  | cons y ys ih =>
    intro us r
    rw [List.map_cons] at r
    cases r with
    | cons r1 r2 =>
      obtain ⟨t,e⟩:=r1
      subst e
      exact .cons y t (ih r2)
theorem mt_join {X:Cx}:MtR X "str.join" (fun x xs H Q=>∃ y l ys,x=.str y∧xs=[.ref l]∧SqL X.K H l (ys.map V.str)∧(ys.map (·.length)).sum+ys.length * y.length≤16777216∧Q (.str (Str.join y ys)) H):=by
  intro pins s σ H x xs v us Q I rx r h
  obtain ⟨y,l,ys,rfl,rfl,hq,hz,q⟩:=h
  obtain ⟨t,rfl⟩:=rx
  obtain ⟨u,rfl,ru⟩:=vals1 r
  cases ru
  obtain ⟨its,rv,p,_⟩:=I.list hq
  refine join_list p.isList (ys:=ys) (by simpa using strsAre_of rv) hz fun t' k=>?_
  have e:Txt.join y ys=Str.join y ys:=StrLaws.glued_eq_join y ys
  rw [e]
  exact ⟨.str _,H,I.tok _,⟨_,rfl⟩,q⟩
def CDivB (i j:Int):Prop:=0 < j∧j < 2 ^ 64
theorem op_fdivB {X:Cx}:OpR X (binaryOp .FloorDiv) (rI CDivB fun i j=>.int (i / j)):=opI fun i j _ _ _ _ _ hc q=>by
  have h1:(0:Int) < j:=hc.1
  have h2:j < 2 ^ 64:=hc.2
  refine floordiv_int (by omega) (by rw [Int.fdiv_eq_ediv_of_nonneg i (by omega)]; exact q) (.inl (PyProof.noPylong_of_log2 ?_))
  have h3:j.natAbs≠0:=by omega
  have h4:j.natAbs < 2 ^ 64:=by omega
  have h5:j.natAbs.log2 < 64:=(Nat.log2_lt h3).mpr h4
  omega
end L2
set_option Elab.async false
set_option linter.all false
set_option maxRecDepth 100000
set_option maxHeartbeats 4000000
namespace L2
open PySem PySem.Spec PyProof.Rows
def liftBy (js:List (Option Nat)) (σ:St):St:=js.map fun j=>match j with | some j=>σ.getD j none | none=>none
def chkLift (N:List Str) (js:List (Option Nat)) (XN:List Str) (names:List (Str × NameKind)):Bool :=
  decide (N.length=js.length) && (N.zip js).all fun p=>match p.2 with | none=>true | some j=>decide (XN[j]?=some p.1) && decide (names.lookup p.1=some .free)
theorem chk_len {N:List Str} {js:List (Option Nat)} {XN:List Str} {names:List (Str × NameKind)} (h:chkLift N js XN names=true) (σ:St):(liftBy js σ).length=N.length:=by
  unfold chkLift at h
  rw [Bool.and_eq_true] at h
  unfold liftBy
  rw [List.length_map]
  exact (of_decide_eq_true h.1).symm
theorem chk_at {N:List Str} {js:List (Option Nat)} {XN:List Str} {names:List (Str × NameKind)} (h:chkLift N js XN names=true) (σ:St) (i:Nat) (x:Str) (v:V) (h1:N[i]?=some x) (h2:(liftBy js σ)[i]?=some (some v)) :
    names.lookup x=some .free∧∃ j:Nat,XN[j]?=some x∧σ[j]?=some (some v):=by
  unfold chkLift at h
  rw [Bool.and_eq_true,List.all_eq_true] at h
  unfold liftBy at h2
  rw [List.getElem?_map] at h2
  cases e:js[i]? with
  | none=>rw [e] at h2; cases h2
  | some j =>
    rw [e] at h2
    cases j with
    | none=>cases h2
    | some j =>
      have h3:σ.getD j none=some v:=Option.some.inj h2
      have hm:(x,some j)∈N.zip js:=by
        refine List.mem_of_getElem? (i:=i) ?_
        rw [List.getElem?_zip_eq_some]
        exact ⟨h1,e⟩
      have q:=h.2 _ hm
      simp only [Bool.and_eq_true,decide_eq_true_eq] at q
      refine ⟨q.2,j,q.1,?_⟩
      rw [List.getD_eq_getElem?_getD] at h3
      cases e2:σ[j]? with
      | none=>rw [e2] at h3; cases h3
      | some o=>rw [e2] at h3; exact congrArg some h3
theorem pe_compL {X:Cx} {elt tg iter:Expr} {ifs:List Expr} {scope:Scope} {pos:Pos} {wi:TI} {g:TG} {tc:TT} {te:TE} (XN:List Str) (sc:Scope) (N:List Str) (js:List (Option Nat)) (hXN:X.N=XN) (hsc:X.env.scope=sc) (hc:X.calm=true) (hi:PI X tg iter wi)
    (hkind:scope.kind=.function) (hchk:chkLift N js XN scope.names=true) (hcell:∀ y∈scope.names,y.2≠.cell) (hfree:∀ y∈scope.names,y.2=.free→sc.names.lookup y.1=some .cell∨sc.names.lookup y.1=some .free)
    (hnames:∀ y∈scope.names,y.2=.local→scope.names.lookup y.1=some .local)
    (hg:∀ cl C s H ex pn E,PG (blockCx X scope N cl C s H ex pn E) tg g) (ht:∀ cl C s H ex pn E,PIfs (blockCx X scope N cl C s H ex pn E) ifs tc) (he:∀ cl C s H ex pn E,PE (blockCx X scope N cl C s H ex pn E) elt te)
    (hs:∀ x,foldedSetIterable iter X.env x=pure x:=by intro _; rfl) :
    PE X (.ListComp elt [⟨tg,iter,ifs,0⟩] scope pos) (tComp wi g tc te (liftBy js)):=by
  subst hXN
  subst hsc
  exact pe_comp N (liftBy js) hc hi hkind hcell hfree hnames (fun σ _=>chk_len hchk σ) (fun σ i x v _ h1 h2=>chk_at hchk σ i x v h1 h2) hg ht he hs
theorem atI_lt {α:Type} {xs:List α} {r:Int} (h0:0≤r) (h1:r < xs.length):∃ v,atI xs r=some v∧v∈xs:=by
  have hk:r.toNat < xs.length:=by omega
  have ek:r=((r.toNat:Nat):Int):=by omega
  refine ⟨xs[r.toNat],?_,List.getElem_mem hk⟩
  have q:atI xs ((r.toNat:Nat):Int)=some xs[r.toNat]:=atI_nat (List.getElem?_eq_getElem hk)
  rw [← ek] at q
  exact q
theorem cutV_ints (ns:List Int) (lo hi:Option Int):∃ ms:List Int,cutV (ns.map V.int) lo hi=ms.map V.int∧ms.length≤ns.length:=by
  refine ⟨(ns.drop (HT.sIx ns.length 0 lo)).take (HT.sIx ns.length ns.length hi - HT.sIx ns.length 0 lo),?_,?_⟩
  · unfold cutV
    rw [List.length_map,List.map_take,List.map_drop]
  · rw [List.length_take,List.length_drop]
    omega
theorem same_new {H:Hp} {p:Addr} (h:H p=none) (o:HO):Same H (upd H p o):=fun b u q=>by rw [upd_ne (ne_of_none q h)]; exact q
theorem map_int_at {ns:List Int} {i:Nat} {y:V} (h:(ns.map V.int)[i]?=some y):∃ z,y=V.int z:=by
  rw [List.getElem?_map] at h
  cases e:ns[i]? with
  | none=>rw [e] at h; cases h
  | some z=>rw [e] at h; exact ⟨z,(Option.some.inj h).symm⟩
theorem small {n:Nat} (h:n≤1000):n≤sizeLine:=Nat.le_of_lt (small1000 h)
theorem smn (n:Nat) (h:n≤1000:=by decide):n≤sizeLine:=small h
theorem sizeLine_big:(1000000:Nat)≤sizeLine:=by rw [sizeLine_eq]; decide
structure Pot (H0:Hp) (p:Addr) (H:Hp):Prop where
  at_:∃ a b:Int,H p=some (.lst [.int a,.int b])
  old:∀ c o,H0 c=some o→c≠p→H c=some o
theorem Pot.new {H0 H:Hp} {p l:Addr} {o:HO} (P:Pot H0 p H) (h:H l=none):Pot H0 p (upd H l o):=by
  obtain ⟨a,b,e⟩:=P.at_
  exact ⟨⟨a,b,by rw [upd_ne (ne_of_none e h)]; exact e⟩,fun c u q hc=>by
    have q':=P.old c u q hc
    rw [upd_ne (ne_of_none q' h)]
    exact q'⟩
theorem Pot.turn {H0 H:Hp} {p:Addr} {a b:Int} (P:Pot H0 p H):Pot H0 p (upd H p (.lst [.int a,.int b])) :=
  ⟨⟨a,b,upd_same⟩,fun c u q hc=>by rw [upd_ne hc]; exact P.old c u q hc⟩
end L2
namespace L2
open PySem PySem.Spec PyProof.Rows
theorem Pot.free {H0 H:Hp} {p l:Addr} (P:Pot H0 p H) (h:H l=none):H0 l=none:=by
  cases e:H0 l with
  | none=>rfl
  | some o =>
    by_cases hl:l=p
    · obtain ⟨a,b,q⟩:=P.at_
      rw [hl,q] at h
      cases h
    · rw [P.old l o e hl] at h
      cases h
theorem Pot.list {H0 H:Hp} {p l:Addr} {o:HO} (P:Pot H0 p H) (h:H0 l=none) (hl:l≠p):Pot H0 p (upd H l o):=by
  obtain ⟨a,b,e⟩:=P.at_
  exact ⟨⟨a,b,by rw [upd_ne (Ne.symm hl)]; exact e⟩,fun c u q hc=>by rw [upd_ne (ne_of_none q h)]; exact P.old c u q hc⟩
theorem Pot.apart {H0 H:Hp} {p l:Addr} (P:Pot H0 p H) (h:H l=none):l≠p:=by
  obtain ⟨a,b,e⟩:=P.at_
  exact (ne_of_none e h).symm
theorem join_fits {y:Str} (hy:y=⟨#[]⟩) (cs:List Nat) (h:cs.length≤1000000):((cs.map fun c=>(⟨#[c]⟩:Str)).map (·.length)).sum+(cs.map fun c=>(⟨#[c]⟩:Str)).length * y.length≤16777216:=by
  subst hy
  have e:((cs.map fun c=>(⟨#[c]⟩:Str)).map (·.length)).sum=cs.length:=by
    clear h
    induction cs with
    | nil=>rfl
    | cons c r ih =>
      rw [List.map_cons,List.map_cons,List.sum_cons,ih,List.length_cons]
      show 1+r.length=r.length+1
      omega
  rw [e]
  show cs.length+_ * 0≤_
  omega
def sz:List Nat→Int
  | []=>0
  | c :: r=>(if c=32∨c=10 then 0 else 1)+sz r
end L2
set_option Elab.async false
set_option linter.all false
set_option maxRecDepth 100000
set_option maxHeartbeats 4000000
namespace L2
open PySem PySem.Spec PyProof.Rows
def isNm (x:Str):Bool:=decide (1≤x.length) && decide (x.length≤8) && x.cps.toList.all fun c=>decide (97≤c∧c≤122)
end L2
set_option Elab.async false
set_option linter.all false
set_option maxRecDepth 100000
set_option maxHeartbeats 4000000
namespace ZT
open PySem
open Sem (wp)
section
variable {prog:Program} {w:World} {A:Around} {E:Value→Shared→Prop} {s:Shared}
theorem tup_item {it t:Addr} {i:Nat} {its:Array Value} {x:Value} {Q:Value→Shared→Prop} (ti:s.heap.IsTupleIter it t i) (tt:s.heap.IsTuple t its) (tx:its[i]?=some x)
    (k:∀ g,g.IsTupleIter it t (i+1)→Heap.SameBut it s.heap g→Q x { s with heap:=g }):wpAny (model prog w) A (Builtin.SmallTypes.nextOf (.ref it)) Q E s:=by
  obtain ⟨o,eo,ec,ed⟩:=id ti
  obtain ⟨ol,el,_,nl,dl⟩:=tt
  unfold Builtin.SmallTypes.nextOf
  refine wpAny_bind (wpAny_callSpecial?_slot (name:=Str.ofString "__next__") ti.typeIs F.slot_tuple_iterator_next (wpAny_call_entry F.slot_tuple_iterator_next ti.typeIs F.entry_tuple_iterator_next ?_ (F.args_tuple_iterator_next_1 _)))
  show wpAny _ _ (field (.ref it) 0 >>= _) _ _ s
  refine wpAny_bind (wpAny_field eo ed (x:=.ref t) rfl ?_)
  show wpAny _ _ (if (Value.ref t == Value.none)=true then _ else _) _ _ s
  rw [if_neg (by intro z; cases z)]
  show wpAny _ _ (field (.ref it) 1 >>= _) _ _ s
  refine wpAny_bind (wpAny_field eo ed (x:=.int i 0) rfl ?_)
  show wpAny _ _ (seqItems? (.ref t) >>= _) _ _ s
  refine wpAny_bind (wpAny_seqItems el dl ?_)
  simp only [Int.toNat_natCast,tx]
  refine wpAny_bind (wpAny_setField eo ed (by simp) (wpAny_pure ⟨x,rfl,wpAny_pure (k _ ?_ (Heap.SameBut.update ..))⟩))
  refine ⟨_,Heap.get?_update_self _ eo (Obj.isFreed_of_fields (Obj.data_mapFields ed _)),(Obj.cls_mapFields ..).trans ec,?_⟩
  rw [Obj.data_mapFields ed]
  simp [rawInt]
theorem tup_end {it t:Addr} {i:Nat} {its:Array Value} {Q:Value→Shared→Prop} (hd:A.handled=none) (ti:s.heap.IsTupleIter it t i) (tt:s.heap.IsTuple t its) (tx:its[i]?=none)
    (k:∀ g e,Heap.ExtBut it s.heap g→(∃ o,g.get? e=some o∧o.cls=.type "StopIteration")→E (.ref e) { s with heap:=g }):wpAny (model prog w) A (Builtin.SmallTypes.nextOf (.ref it)) Q E s:=by
  obtain ⟨o,eo,ec,ed⟩:=id ti
  obtain ⟨ol,el,_,nl,dl⟩:=tt
  unfold Builtin.SmallTypes.nextOf
  refine wpAny_bind (wpAny_callSpecial?_slot (name:=Str.ofString "__next__") ti.typeIs F.slot_tuple_iterator_next (wpAny_call_entry F.slot_tuple_iterator_next ti.typeIs F.entry_tuple_iterator_next ?_ (F.args_tuple_iterator_next_1 _)))
  show wpAny _ _ (field (.ref it) 0 >>= _) _ _ s
  refine wpAny_bind (wpAny_field eo ed (x:=.ref t) rfl ?_)
  show wpAny _ _ (if (Value.ref t == Value.none)=true then _ else _) _ _ s
  rw [if_neg (by intro z; cases z)]
  show wpAny _ _ (field (.ref it) 1 >>= _) _ _ s
  refine wpAny_bind (wpAny_field eo ed (x:=.int i 0) rfl ?_)
  show wpAny _ _ (seqItems? (.ref t) >>= _) _ _ s
  refine wpAny_bind (wpAny_seqItems el dl ?_)
  simp only [Int.toNat_natCast,tx]
  refine wpAny_bind (wpAny_rule (wpAny_bind (wpAny_setField eo ed (by simp) ?_)))
  show wpAny _ _ (newExc (.type "StopIteration") [] >>= _) _ _ _
  refine wpAny_bind ?_
  simp only [newExc,newTuple]
  refine wpAny_bind (wpAny_newObj_type ?_ (by size_fits))
  refine wpAny_bind (m:=firstArgMember _ _) (wpAny_of_eq (a:=Value.none) (by first | rfl | (simp only [firstArgMember]; rfl)) ?_)
  refine wpAny_newObj_type ?_ (by size_fits)
  simp only [raiseNew]
  refine wpAny_bind (wpAny_handled ?_)
  first | rw [show A.in1.handled=none from hd] | rw [hd]
  refine wpAny_bind (wpAny_pure (wpAny_throw ?_))
  exact k _ _ (((Heap.SameBut.update ..).extBut.push _).push _) ⟨_,Heap.get?_push_size _ rfl,rfl⟩
structure Apart (z TI TO i1 i2 t1 t2:Addr):Prop where
  a1:TI≠z
  a2:TO≠z
  a3:i1≠z
  a4:i2≠z
  b1:TI≠TO
  b2:TI≠i1
  b3:TI≠i2
  b4:TO≠i1
  b5:TO≠i2
  b6:i1≠i2
  c1:t1≠z
  c2:t1≠TO
  c3:t1≠i1
  c4:t1≠i2
  d1:t2≠z
  d2:t2≠TO
  d3:t2≠i1
  d4:t2≠i2
end
abbrev zh1 (h:Heap) (t1:Addr):Heap:=h.push { cls:=.type "tuple_iterator",data:=.fields #[.ref t1,.int 0 0] }
end ZT
set_option Elab.async false
set_option linter.all false
set_option maxRecDepth 100000
set_option maxHeartbeats 4000000
namespace L2
open PySem PySem.Spec PyProof.Rows
section
variable {X:Cx} {pins:List (Addr × Obj)} {σ:St} {H:Hp} {s:Shared} {h':Heap} {t':Nat} {ch:List Addr}
end
end L2
set_option linter.all false
namespace M01
open PySem
def isW (c:Nat):Bool:=decide (97≤c∧c≤122) || decide (65≤c∧c≤90) || decide (48≤c∧c≤57)
abbrev S:=List (List Nat) × List Nat
def stp (st:S) (c:Nat):S:=if isW c=true then (st.1,st.2++[c]) else (if st.2=[] then st else (st.1++[st.2],[]))
def scn (l:List Nat):S:=l.foldl stp ([],[])
def fn (st:S):List (List Nat):=if st.2=[] then st.1 else st.1++[st.2]
def wds (l:List Nat):List (List Nat):=fn (scn l)
theorem scn_snoc (l:List Nat) (c:Nat):scn (l++[c])=stp (scn l) c:=by
  unfold scn
  rw [List.foldl_append]
  rfl
def cmp (st:S) (rest:List Nat):List (List Nat):=if st.2=[] then st.1 else st.1++[st.2++rest.takeWhile isW]
def bl (c:Nat):Nat:=if isW c=true then c else 32
theorem sp_of (c:Nat):Unicode.isSpace (bl c)=!isW c:=by
  unfold bl
  by_cases h:isW c=true
  · rw [if_pos h,h]
    have hc:c < 123:=by
      unfold isW at h
      simp only [Bool.or_eq_true,decide_eq_true_eq] at h
      omega
    have all:∀ d,d < 123→isW d=true→Unicode.isSpace d=false:=by decide +kernel
    rw [all c hc h]
    rfl
  · have h':isW c=false:=by simpa using h
    rw [if_neg h,h']
    decide +kernel
theorem str_len (l:List Nat):(⟨l.toArray⟩:Str).length=l.length:=by simp [Str.length]
theorem fold_scan:∀ (l:List Nat) (st:KWd.St) (q:S),st.1=q.1.map (fun r=>(⟨r.toArray⟩:Str))→st.2=⟨q.2.toArray⟩ →
    ((l.map bl).foldl KWd.step st).1=((l.foldl stp q).1).map (fun r=>(⟨r.toArray⟩:Str))∧((l.map bl).foldl KWd.step st).2=⟨(l.foldl stp q).2.toArray⟩
  | [],st,q,h1,h2=>⟨h1,h2⟩
  | c :: r,st,q,h1,h2=>by
    rw [List.map_cons,List.foldl_cons,List.foldl_cons]
    refine fold_scan r _ _ ?_ ?_
    · unfold KWd.step stp
      rw [sp_of]
      by_cases h:isW c=true
      · rw [h]
        simp only [Bool.not_true,Bool.false_eq_true,if_false,if_true]
        exact h1
      · have h':isW c=false:=by simpa using h
        rw [h']
        simp only [Bool.not_false,if_true,Bool.false_eq_true,if_false]
        by_cases e:q.2=[]
        · rw [if_pos (by rw [h2,e]; rfl),if_pos e]
          exact h1
        · have hl:¬ st.2.length=0:=by
            rw [h2,str_len]
            intro z
            exact e (List.length_eq_zero_iff.mp z)
          rw [if_neg hl,if_neg e]
          show st.1++[st.2]=(q.1++[q.2]).map _
          rw [List.map_append,h1,h2]
          rfl
    · unfold KWd.step stp
      rw [sp_of]
      by_cases h:isW c=true
      · rw [h]
        simp only [Bool.not_true,Bool.false_eq_true,if_false,if_true]
        rw [h2]
        show Str.mk (q.2.toArray ++ #[bl c])=_
        unfold bl
        rw [if_pos h]
        congr 1
        simp
      · have h':isW c=false:=by simpa using h
        rw [h']
        simp only [Bool.not_false,if_true,Bool.false_eq_true,if_false]
        by_cases e:q.2=[]
        · rw [if_pos (by rw [h2,e]; rfl),if_pos e]
          exact h2
        · have hl:¬ st.2.length=0:=by
            rw [h2,str_len]
            intro z
            exact e (List.length_eq_zero_iff.mp z)
          rw [if_neg hl,if_neg e]
          rfl
theorem words_wds (l:List Nat):Txt.words ⟨(l.map bl).toArray⟩=(wds l).map (fun r=>(⟨r.toArray⟩:Str)):=by
  rw [KWd.words_scan]
  obtain ⟨h1,h2⟩:=fold_scan l ([],Str.empty) ([],[]) rfl rfl
  have e:KWd.scan ⟨(l.map bl).toArray⟩=(l.map bl).foldl KWd.step ([],Str.empty):=by
    unfold KWd.scan
    simp
  unfold KWd.fin wds fn scn
  rw [e,h1,h2,str_len]
  by_cases z:(l.foldl stp ([],[])).2=[]
  · rw [if_pos (by rw [z]; rfl),if_pos z]
  · rw [if_neg (fun q=>z (List.length_eq_zero_iff.mp q)),if_neg z,List.map_append]
    rfl
theorem scn_size:∀ (l:List Nat) (q:S),(l.foldl stp q).1.length+(l.foldl stp q).2.length≤q.1.length+q.2.length+l.length
  | [],q=>by simp
  | c :: r,q=>by
    rw [List.foldl_cons]
    have ih:=scn_size r (stp q c)
    have h:(stp q c).1.length+(stp q c).2.length≤q.1.length+q.2.length+1:=by
      unfold stp
      by_cases h:isW c=true
      · rw [if_pos h]
        simp only [List.length_append,List.length_cons,List.length_nil]
        omega
      · rw [if_neg h]
        by_cases e:q.2=[]
        · rw [if_pos e]; omega
        · rw [if_neg e]
          have:0 < q.2.length:=List.length_pos_iff.mpr e
          simp only [List.length_append,List.length_cons,List.length_nil]
          omega
    rw [List.length_cons]
    omega
theorem wds_le (l:List Nat):(wds l).length≤l.length:=by
  have h:=scn_size l ([],[])
  simp only [List.length_nil,Nat.zero_add] at h
  unfold wds fn
  show (if (l.foldl stp ([],[])).2=[] then _ else _:List (List Nat)).length≤_
  by_cases e:(l.foldl stp ([],[])).2=[]
  · rw [if_pos e]
    show (l.foldl stp ([],[])).1.length≤_
    omega
  · rw [if_neg e,List.length_append]
    have:0 < (l.foldl stp ([],[])).2.length:=List.length_pos_iff.mpr e
    show (l.foldl stp ([],[])).1.length+1≤_
    omega
end M01
set_option Elab.async false
set_option linter.all false
set_option maxRecDepth 100000
set_option maxHeartbeats 4000000
namespace L2
open PySem PySem.Spec PyProof.Rows
theorem isPart_of {v:Value} {o:Option Int} (h:IsPart v o):∃ q:Option (Int × Tok),v=partValue q∧o=q.map (·.1):=by
  cases h with
  | none=>exact ⟨none,rfl,rfl⟩
  | int i t=>exact ⟨some (i,t),rfl,rfl⟩
def rSlS:V→Option Int→Option Int→Hp→VK→Prop:=fun x lo hi H Q=>∃ y:Str,x=.str y∧y.length≤sizeLine∧Q (.str (Txt.slice y lo hi)) H
theorem sl_str {X:Cx}:SlR X rSlS:=by
  intro pins s σ H x v vl vu lo hi sl Q I rx hs pl pu h
  obtain ⟨y,rfl,hz,q⟩:=h
  obtain ⟨t,rfl⟩:=rx
  obtain ⟨ql,rfl,rfl⟩:=isPart_of pl
  obtain ⟨qu,rfl,rfl⟩:=isPart_of pu
  refine ⟨"str",_,F.slot_str_getitem.lookup,typeIs_str _ _ _,?_⟩
  refine wpAny_getItem_str_slice (l:=ql) (u:=qu) (st:=none) hs rfl ?_
  exact post_val_or_str ⟨Nat.le_trans (Txt.slice_le y _ _) hz,fun t' k=>⟨.str _,H,I.tok _,⟨_,rfl⟩,q⟩⟩
theorem strVals_of (l:List (Str × Tok)):Vals ((l.map (·.1)).map V.str) (strValues l):=by
  induction l with
  | nil=>exact .nil
  | cons p r ih=>exact .cons ⟨p.2,rfl⟩ ih
theorem mt_split {X:Cx}:MtR X "str.split" (fun x xs H Q=>∃ y:Str,x=.str y∧xs=[]∧y.length≤100000∧∀ l,H l=none→Q (.ref l) (upd H l (.lst ((Txt.words y).map V.str)))):=by
  intro pins s σ H x xs v us Q I rx r h
  obtain ⟨y,rfl,rfl,hz,q⟩:=h
  obtain ⟨t,rfl⟩:=rx
  cases r
  have hb:=sizeLine_big
  have e1:=(StrLaws.sw_weight y).1
  have e2:=StrLaws.len_le_wsum (Builtin.Str.spaceWords y (y.length+1))
  have hn:(Builtin.Str.spaceWords y (y.length+1)).length≤sizeLine:=by omega
  refine call_meets F.slot_str_split (typeIs_str _ _ _) F.entry_str_split (F.args_str_split_1 _) (meets_str_split_space y t (by omega) hn) ?_
  have fin:∀ (l:List (Str × Tok)) (tk:Nat),l.map (·.1)=Txt.words y→l.length≤sizeLine→EP X pins σ Q (.ref s.heap.objs.size) { s with heap:=s.heap.push { cls:=.type "list",data:=.seq (strValues l).toArray },toks:=tk }:=fun l tk e hl=>by
    refine ⟨.ref s.heap.objs.size,_,I.lnew (its:=strValues l) (ys:=(l.map (·.1)).map V.str) (strVals_of l) (by rw [List.length_map,List.length_map]; exact hl),rfl,?_⟩
    rw [e]
    exact q _ I.fresh
  cases hw:Builtin.Str.spaceWords y (y.length+1) == [(0,y.length)]
  · simp only [Bool.false_eq_true,if_false]
    rw [strsFrom_eq]
    have et:=numbered_texts s.toks (wordsOf y)
    refine fin (numbered s.toks (wordsOf y)) _ (et.trans (if_neg (ne_true_of_eq_false hw)).symm) ?_
    have el:=congrArg List.length et
    rw [List.length_map] at el
    rw [el]
    unfold wordsOf
    rw [List.length_map]
    exact hn
  · simp only [if_true]
    exact fin [(y,t)] s.toks (if_pos hw).symm (by show 1≤sizeLine; omega)
theorem lt_sign (a c:Nat):decide (([c]:List Nat) < [a])=decide (c < a):=by
  rw [Bool.eq_iff_iff]
  simp only [decide_eq_true_eq]
  constructor
  · intro h
    cases h with
    | cons h=>cases h
    | rel h=>exact h
  · intro h
    exact List.Lex.rel h
def rLeS:R2:=fun x y H Q=>∃ a c:Nat,x=.str ⟨#[a]⟩∧y=.str ⟨#[c]⟩∧Q (.bl (decide (a≤c))) H
theorem op_leS {X:Cx}:OpR X (compareOp .LtE) rLeS:=by
  intro pins s σ H x y v u Q I rx ry h
  obtain ⟨a,c,rfl,rfl,q⟩:=h
  obtain ⟨t,rfl⟩:=rx
  obtain ⟨t',rfl⟩:=ry
  refine PySem.P.le_str ?_
  have e:(!decide (([c]:List Nat) < [a]))=decide (a≤c):=by
    rw [lt_sign,Bool.eq_iff_iff]
    simp
  show EP X pins σ Q (.bool (!decide (([c]:List Nat) < [a]))) s
  rw [e]
  exact ⟨.bl _,H,I,rfl,q⟩
theorem chain_sign {i a b c:Nat} {x z:Str} {σ:St} {H:Hp} {Q:VK} (hx:x=⟨#[a]⟩) (hz:z=⟨#[b]⟩) (h0:σ[i]?=some (some (.str ⟨#[c]⟩))) (q:Q (.bl (decide (a≤c∧c≤b))) H) :
    tChain rLeS rLeS (tC (.str x)) (tVar i) (tC (.str z)) σ H Q:=by
  subst hx
  subst hz
  refine ⟨_,h0,a,c,rfl,rfl,_,rfl,?_⟩
  refine ite2 (fun h=>?_) (fun h=>?_)
  · refine ⟨c,b,rfl,rfl,?_⟩
    have h':a≤c:=of_decide_eq_true h
    have e:decide (a≤c∧c≤b)=decide (c≤b):=decide_eq_decide.mpr ⟨fun z=>z.2,fun z=>⟨h',z⟩⟩
    rw [← e]
    exact q
  · have e:decide (a≤c∧c≤b)=false:=decide_eq_false fun z=>h (decide_eq_true z.1)
    rw [e] at q
    exact q
end L2
set_option Elab.async false
set_option linter.all false
set_option maxRecDepth 100000
set_option maxHeartbeats 4000000
namespace L2
open PySem PySem.Spec PyProof.Rows
structure Cal (P:Program) (w:World) (K:PySem.W.Frag) (mg:Str→Option Value) (base:Heap) (x:Str) (k:Nat) (ps:List Str) (sp:Sp):Prop where
  ex:∃ (f:Addr) (fd:FuncData),FnOk P w K mg base CX0 k f fd ps sp∧Binds K fd ps []∧PySem.W.keepIn K (.ref f)=true∧mg x=some (.ref f)
structure Has (K:PySem.W.Frag) (mg:Str→Option Value) (x:Str) (st:Stmt) (ps:List Str):Prop where
  ex:∃ (f:Addr) (fd:FuncData),Fun K x x st f fd∧Binds K fd ps []∧mg x=some (.ref f)
section
variable {P:Program} {w:World} {K:PySem.W.Frag} {mg:Str→Option Value} {base:Heap}
theorem Has.cal {x:Str} {st:Stmt} {ps:List Str} {k:Nat} {sp:Sp} (h:Has K mg x st ps) (ok:∀ (f:Addr) (fd:FuncData),Fun K x x st f fd→mg x=some (.ref f)→Binds K fd ps []→FnOk P w K mg base CX0 k f fd ps sp):Cal P w K mg base x k ps sp:=by
  obtain ⟨f,fd,F,b,m⟩:=h.ex
  exact ⟨f,fd,ok f fd F m b,b,F.kp,m⟩
theorem Has.mk' {x:Str} {st:Stmt} {N ps:List Str} {k:Nat} {sp:Sp} (h:Has K mg x st ps) (S:FnScope N ps (defScope st)) (len:∀ vs H Q E,sp vs H Q E→vs.length=ps.length)
    (hbody:∀ (f:Addr) (cdv:Value) (A:Around) (outer:List Env) (s:Shared) (H:Hp) (vs:List V) (Q:VK) (E:XK),Room k (A.deeper (envOfC x (defScope st) s.heap.objs.size f cdv))→sp vs H Q E →
      ∃ t,PSs (cxOf CX0 P w K mg base N x (defScope st) f cdv A outer s H E).nox (defBody st) t∧t { nx:=fun _ H'=>Q .non H',rt:=Q } (start N vs) H):Cal P w K mg base x (k+1) ps sp :=
  h.cal fun f fd F _ _=>F.ok S len (hbody f)
theorem Cal.mono {x:Str} {j k:Nat} {ps:List Str} {sp:Sp} (C:Cal P w K mg base x j ps sp) (h:j≤k):Cal P w K mg base x k ps sp:=by
  obtain ⟨f,fd,F,r⟩:=C.ex
  exact ⟨f,fd,F.mono h,r⟩
end
theorem pe_cal {X:Cx} {x:Str} {k n:Nat} {ps:List Str} {sp:Sp} {e:Expr} {es:List Expr} {t:TA} {p pos:Pos} (C:Cal X.prog X.w X.K X.mg X.base x k ps sp) (hr:Room n X.A) (hk:k≤n) (hg:Gl X x) (ha:PA X (e :: es) t)
    (hdb:(x == ("__debug__" : Str))=false:=by decide) (he:starEach (e :: es) X.env=(false,eval e X.env) :: starEach es X.env:=by rfl) (hpl:(backTo pos (starEach es X.env)).any (·.1)=false:=by rfl) :
    PE X (.Call (.Name x p) (e :: es) [] pos) (tCall sp [] E0 t):=by
  obtain ⟨f,fd,F,b,kp,m⟩:=C.ex
  exact pe_call F (hr.mono hk) hg m kp b .nil pass0 ha hdb he hpl
theorem mt_lower {X:Cx}:MtR X "str.lower" (fun x xs H Q=>∃ r:List Nat,x=.str ⟨r.toArray⟩∧xs=[]∧(∀ c∈r,c < 128)∧r.length≤100000∧Q (.str ⟨(r.map lo1).toArray⟩) H):=by
  intro pins s σ H x xs v us Q I rx r h
  obtain ⟨l,rfl,rfl,hc,hl,q⟩:=h
  obtain ⟨t,rfl⟩:=rx
  cases r
  refine SCL.lower (by show l.toArray.size≤_; rw [List.size_toArray]; omega) fun _=>?_
  rw [lower_ascii (x:=⟨l.toArray⟩) (by simpa using hc)]
  have e:(⟨l.toArray.map lo1⟩:Str)=⟨(l.map lo1).toArray⟩:=by rw [List.map_toArray]
  rw [e]
  exact ⟨.str _,H,I.tok _,⟨_,rfl⟩,q⟩
inductive D where
  | non | bl (b:Bool) | int (i:Int) | str (x:Str) | tup (ds:List D)
mutual
def Den (H:Hp):V→D→Prop
  | v,.non=>v=.non
  | v,.bl b=>v=.bl b
  | v,.int i=>v=.int i
  | v,.str x=>v=.str x
  | v,.tup ds=>∃ (p:Addr) (vs:List V),v=.ref p∧H p=some (.tup vs)∧DenL H vs ds
def DenL (H:Hp):List V→List D→Prop
  | [],[]=>True
  | v :: vs,d :: ds=>Den H v d∧DenL H vs ds
  | _,_=>False
end
mutual
theorem Den.same {H H':Hp} (e:Same H H'):∀ {d:D} {v:V},Den H v d→Den H' v d
  | .non,_,h=>h
  | .bl _,_,h=>h
  | .int _,_,h=>h
  | .str _,_,h=>h
  | .tup ds,_,h=>by
    obtain ⟨p,vs,rfl,hp,hd⟩:=h
    exact ⟨p,vs,rfl,e _ _ hp,DenL.same e hd⟩
theorem DenL.same {H H':Hp} (e:Same H H'):∀ {ds:List D} {vs:List V},DenL H vs ds→DenL H' vs ds
  | [],[],_=>trivial
  | _ :: _,_ :: _,h=>⟨Den.same e h.1,DenL.same e h.2⟩
  | [],_ :: _,h=>h.elim
  | _ :: _,[],h=>h.elim
end
theorem DenL.len {H:Hp}:∀ {ds:List D} {vs:List V},DenL H vs ds→vs.length=ds.length
  | [],[],_=>rfl
  | _ :: ds,_ :: vs,h=>by rw [List.length_cons,List.length_cons,DenL.len h.2]
  | [],_ :: _,h=>h.elim
  | _ :: _,[],h=>h.elim
theorem DenL.at_ {H:Hp}:∀ {ds:List D} {vs:List V} {i:Nat} {v:V},DenL H vs ds→vs[i]?=some v→∃ d,ds[i]?=some d∧Den H v d
  | [],[],i,v,_,h=>by simp at h
  | d :: ds,_ :: vs,0,v,h,e=>by
    simp at e
    subst e
    exact ⟨d,rfl,h.1⟩
  | _ :: ds,_ :: vs,i+1,v,h,e=>DenL.at_ (i:=i) h.2 (by simpa using e)
  | [],_ :: _,_,_,h,_=>h.elim
  | _ :: _,[],_,_,h,_=>h.elim
theorem DenL.strs {H:Hp}:∀ xs:List Str,DenL H (xs.map V.str) (xs.map D.str)
  | []=>trivial
  | _ :: r=>⟨rfl,DenL.strs r⟩
theorem DenL.snoc {H:Hp} {v:V} {d:D} (hd:Den H v d):∀ {ds:List D} {vs:List V},DenL H vs ds→DenL H (vs++[v]) (ds++[d])
  | [],[],_=>⟨hd,trivial⟩
  | _ :: _,_ :: _,h=>⟨h.1,DenL.snoc hd h.2⟩
  | [],_ :: _,h=>h.elim
  | _ :: _,[],h=>h.elim
def Shal:Nat→D→Prop
  | 0,d=>d≠.non∧∀ ds,d≠.tup ds
  | n+1,d=>d≠.non∧∀ ds,d=.tup ds→ds.length≤100000∧∀ e∈ds,Shal n e
theorem Shal.up:∀ {n:Nat} {d:D},Shal n d→Shal (n+1) d
  | 0,d,h=>⟨h.1,fun ds e=>absurd e (h.2 ds)⟩
  | n+1,d,h=>⟨h.1,fun ds e=>⟨(h.2 ds e).1,fun x hx=>((h.2 ds e).2 x hx).up⟩⟩
theorem Shal.ne:∀ {n:Nat} {d:D},Shal n d→d≠.non
  | 0,_,h=>h.1
  | _+1,_,h=>h.1
theorem shal_str (x:Str):Shal 0 (.str x):=⟨(fun z=>nomatch z),fun _ z=>nomatch z⟩
theorem shal_int (x:Int):Shal 0 (.int x):=⟨(fun z=>nomatch z),fun _ z=>nomatch z⟩
theorem Has.never {P:Program} {w:World} {K:PySem.W.Frag} {mg:Str→Option Value} {base:Heap} {x:Str} {st:Stmt} {ps:List Str} {sp:Sp} (h:Has K mg x st ps) (no:∀ vs H Q E,¬ sp vs H Q E):Cal P w K mg base x 0 ps sp :=
  h.cal fun f fd F _ _=>⟨fun vs H Q E z=>absurd z (no vs H Q E),fun A outer s H args us vs Q E _ _ _ _ z=>absurd z (no vs H Q E)⟩
theorem den_tup {H:Hp} {ds:List D} {v:V} (h:Den H v (.tup ds)):∃ (p:Addr) (vs:List V),v=.ref p∧H p=some (.tup vs)∧DenL H vs ds:=h
def Same2 (p:Addr) (H H':Hp):Prop:=∀ c o,H c=some o→c≠p→H' c=some o
theorem Same2.trans {p:Addr} {H H1 H2:Hp} (a:Same2 p H H1) (b:Same2 p H1 H2):Same2 p H H2:=fun c o e n=>b c o (a c o e n) n
theorem Same2.of {p:Addr} {H H1:Hp} (a:Same H H1):Same2 p H H1:=fun c o e _=>a c o e
theorem Pot.same {H0 H H':Hp} {p:Addr} (P:Pot H0 p H) (s:Same H H'):Pot H0 p H':=by
  obtain ⟨a,b,e⟩:=P.at_
  exact ⟨⟨a,b,s _ _ e⟩,fun c o e n=>s c o (P.old c o e n)⟩
theorem Pot.trans {H0 H1 H2:Hp} {p:Addr} (P:Pot H0 p H1) (R:Pot H1 p H2):Pot H0 p H2:=⟨R.at_,fun c o e n=>R.old c o (P.old c o e n) n⟩
mutual
theorem Den.keepT {H H':Hp} (e:∀ (b:Addr) (vs:List V),H b=some (.tup vs)→H' b=some (.tup vs)):∀ {d:D} {v:V},Den H v d→Den H' v d
  | .non,_,h=>h
  | .bl _,_,h=>h
  | .int _,_,h=>h
  | .str _,_,h=>h
  | .tup ds,_,h=>by
    obtain ⟨p,vs,rfl,hp,hd⟩:=h
    exact ⟨p,vs,rfl,e _ _ hp,DenL.keepT e hd⟩
theorem DenL.keepT {H H':Hp} (e:∀ (b:Addr) (vs:List V),H b=some (.tup vs)→H' b=some (.tup vs)):∀ {ds:List D} {vs:List V},DenL H vs ds→DenL H' vs ds
  | [],[],_=>trivial
  | _ :: _,_ :: _,h=>⟨Den.keepT e h.1,DenL.keepT e h.2⟩
  | [],_ :: _,h=>h.elim
  | _ :: _,[],h=>h.elim
end
section
variable {X:Cx} {K:PySem.W.Frag} {o e:Expr} {es:List Expr} {to:TE} {t:TA} {name:Str} {apos cpos:Pos} {T id:String} {r:V→List V→Hp→VK→Prop}
theorem pe_bm0K (hK:X.K=K) (pa:PlainAttrs T) (slot:Slot T name id) (hty:typeOf (.builtin id)=pure (.type "method_descriptor")) (hm:MtR X id r) (ho:PE X o to)
    (hbase:attributeBase o name X.env (eval o X.env)=eval o X.env:=by rfl) (hline:(apos.endLine == cpos.line)=true:=by rfl):PE X (.Call (.Attribute o name apos) [] [] cpos) (tBM0 K T r to):=by
  subst hK
  exact pe_bm0 pa slot hty hm ho hbase hline
theorem ix_listK (hK:X.K=K):IxR X (rIxL K):=by subst hK; exact ix_list
theorem ix_tupK (hK:X.K=K):IxR X (rIxT K):=by subst hK; exact ix_tup
theorem call_len_seqK (hK:X.K=K):CallR X (.builtin "len") (fun xs H Q=>∃ p ys,xs=[.ref p]∧(SqL K H p ys∨SqT K H p ys)∧Q (.int ys.length) H):=by subst hK; exact call_len_seq
theorem op_in_seqK (hK:X.K=K):OpR X (compareOp .In) (rIn K false):=by subst hK; exact op_in_seq
theorem op_notIn_seqK (hK:X.K=K):OpR X (compareOp .NotIn) (rIn K true):=by subst hK; exact op_notIn_seq
end
end L2
set_option Elab.async false
set_option linter.all false
set_option maxRecDepth 100000
set_option maxHeartbeats 4000000
namespace L2
open PySem PySem.Spec PyProof.Rows
section
variable {κ:Type} [DecidableEq κ]
def valV (kvs:List (κ × V)) (k:κ):Option V:=(kvs.find? fun kv=>decide (kv.1=k)).map (·.2)
def putK (kvs:List (κ × V)) (k:κ) (v:V):List (κ × V) :=
  if (kvs.any fun kv=>decide (kv.1=k))=true then kvs.map (fun kv=>if kv.1=k then (kv.1,v) else kv) else kvs++[(k,v)]
def dropK (kvs:List (κ × V)) (k:κ):List (κ × V):=kvs.filter fun kv=>decide (kv.1≠k)
theorem valV_pos {p:κ × V} {r:List (κ × V)} {k:κ} (e:p.1=k):valV (p :: r) k=some p.2:=by simp [valV,List.find?_cons,e]
theorem valV_neg {p:κ × V} {r:List (κ × V)} {k:κ} (e:¬ p.1=k):valV (p :: r) k=valV r k:=by simp [valV,List.find?_cons,e]
theorem valV_any (k:κ):∀ kvs:List (κ × V),(kvs.any fun kv=>decide (kv.1=k))=(valV kvs k).isSome
  | []=>rfl
  | p :: r=>by
    rw [List.any_cons]
    by_cases e:p.1=k
    · simp only [valV_pos e,decide_eq_true e,Bool.true_or,Option.isSome_some]
    · rw [valV_neg e,decide_eq_false e,Bool.false_or]; exact valV_any k r
theorem valV_map (k j:κ) (y:V):∀ kvs:List (κ × V),valV (kvs.map fun kv=>if kv.1=k then (kv.1,y) else kv) j=(valV kvs j).map fun x=>if j=k then y else x
  | []=>rfl
  | p :: r=>by
    have ih:=valV_map k j y r
    rw [List.map_cons]
    by_cases h:p.1=k
    · rw [if_pos h]
      by_cases e:p.1=j
      · rw [valV_pos (p:=(p.1,y)) e,valV_pos e,Option.map_some,if_pos (e.symm.trans h)]
      · rw [valV_neg (p:=(p.1,y)) e,valV_neg e,ih]
    · rw [if_neg h]
      by_cases e:p.1=j
      · rw [valV_pos (p:=p) e,valV_pos e,Option.map_some,if_neg (fun z=>h (e.trans z))]
      · rw [valV_neg (p:=p) e,valV_neg e,ih]
theorem valV_snoc (k j:κ) (y:V):∀ kvs:List (κ × V),valV kvs k=none→valV (kvs++[(k,y)]) j=if j=k then some y else valV kvs j
  | [],_=>by
    by_cases e:k=j
    · rw [if_pos e.symm]; exact valV_pos (p:=(k,y)) e
    · rw [if_neg (fun z=>e z.symm)]; exact valV_neg (p:=(k,y)) e
  | p :: r,hn=>by
    rw [List.cons_append]
    have hk:¬ p.1=k:=fun z=>by rw [valV_pos z] at hn; cases hn
    rw [valV_neg hk] at hn
    have ih:=valV_snoc k j y r hn
    by_cases e:p.1=j
    · rw [valV_pos e,valV_pos e,if_neg (fun z=>hk (e.trans z))]
    · rw [valV_neg e,valV_neg e,ih]
theorem valV_put (kvs:List (κ × V)) (k j:κ) (y:V):valV (putK kvs k y) j=if j=k then some y else valV kvs j:=by
  unfold putK
  by_cases a:(kvs.any fun kv=>decide (kv.1=k))=true
  · rw [if_pos a,valV_map]
    rw [valV_any] at a
    by_cases e:j=k
    · obtain ⟨x,hx⟩:=Option.isSome_iff_exists.mp a
      rw [if_pos e,e,hx,Option.map_some,if_pos rfl]
    · rw [if_neg e]
      cases valV kvs j with
      | none=>rfl
      | some x=>rw [Option.map_some,if_neg e]
  · rw [if_neg a]
    refine valV_snoc k j y kvs ?_
    rw [valV_any] at a
    cases q:valV kvs k with
    | none=>rfl
    | some x=>rw [q] at a; exact (a rfl).elim
theorem length_putK (kvs:List (κ × V)) (k:κ) (v:V):(putK kvs k v).length≤kvs.length+1:=by
  unfold putK
  split
  · rw [List.length_map]; omega
  · rw [List.length_append,List.length_cons,List.length_nil]; omega
theorem putK_new {kvs:List (κ × V)} {k:κ} (v:V) (h:valV kvs k=none):putK kvs k v=kvs++[(k,v)]:=by
  unfold putK
  rw [valV_any,h]
  exact if_neg (by decide)
theorem RelO.isSome_eq {o:Option V} {u:Option Value} (r:RelO o u):o.isSome=u.isSome:=by
  cases o with
  | none=>cases u with
    | none=>rfl
    | some _=>exact (show False from r).elim
  | some _=>cases u with
    | none=>exact (show False from r).elim
    | some _=>rfl
theorem RelO.getD {o:Option V} {u:Option Value} {d:V} {d':Value} (r:RelO o u) (rd:RelV d d'):RelV (o.getD d) (u.getD d'):=by
  cases o with
  | none=>cases u with
    | none=>exact rd
    | some _=>exact (show False from r).elim
  | some _=>cases u with
    | none=>exact (show False from r).elim
    | some _=>exact r
theorem KV.val {kvs:List (κ × V)} {vs:List (κ × Value)} (r:KV kvs vs) (k:κ):RelO (valV kvs k) (valueAt vs k):=by
  unfold KV at r
  induction r with
  | nil=>exact True.intro
  | @cons p q ps qs h t ih =>
    obtain ⟨h1,h2⟩:=h
    by_cases e:p.1=k
    · have e':q.1=k:=h1.symm.trans e
      have b:valueAt (q :: qs) k=some q.2:=by simp [valueAt,List.find?_cons,e']
      rw [valV_pos e,b]; exact h2
    · have e':¬ q.1=k:=fun z=>e (h1.trans z)
      have b:valueAt (q :: qs) k=valueAt qs k:=by simp [valueAt,List.find?_cons,e']
      rw [valV_neg e,b]; exact ih
theorem KV.any {kvs:List (κ × V)} {vs:List (κ × Value)} (r:KV kvs vs) (k:κ):(kvs.any fun kv=>decide (kv.1=k))=vs.any fun kv=>decide (kv.1=k):=by
  unfold KV at r
  induction r with
  | nil=>rfl
  | cons h t ih=>rw [List.any_cons,List.any_cons,ih,h.1]
theorem KV.repl {kvs:List (κ × V)} {vs:List (κ × Value)} (r:KV kvs vs) (k:κ) {y:V} {u:Value} (ry:RelV y u) :
    KV (kvs.map fun kv=>if kv.1=k then (kv.1,y) else kv) (vs.map fun kv=>if kv.1=k then (kv.1,u) else kv):=by
  unfold KV at r ⊢
  induction r with
  | nil=>exact .nil
  | @cons p q ps qs h t ih =>
    rw [List.map_cons,List.map_cons]
    refine .cons ?_ ih
    obtain ⟨h1,h2⟩:=h
    by_cases e:p.1=k
    · rw [if_pos e,if_pos (h1.symm.trans e)]; exact ⟨h1,ry⟩
    · rw [if_neg e,if_neg (fun z=>e (h1.trans z))]; exact ⟨h1,h2⟩
theorem KV.put {kvs:List (κ × V)} {vs:List (κ × Value)} (r:KV kvs vs) (k:κ) {y:V} {u:Value} (ry:RelV y u):KV (putK kvs k y) (stored vs k u):=by
  unfold putK stored
  rw [r.any k]
  by_cases e:(vs.any fun kv=>decide (kv.1=k))=true
  · rw [if_pos e,if_pos e]; exact r.repl k ry
  · rw [if_neg e,if_neg e]; exact Paired.snoc r ⟨rfl,ry⟩
theorem KV.drop {kvs:List (κ × V)} {vs:List (κ × Value)} (r:KV kvs vs) (k:κ):KV (dropK kvs k) (without vs k):=by
  unfold KV at r ⊢
  unfold dropK without
  induction r with
  | nil=>exact .nil
  | @cons p q ps qs h t ih =>
    obtain ⟨h1,h2⟩:=h
    rw [List.filter_cons,List.filter_cons]
    by_cases e:p.1=k
    · have a:¬ decide (p.1≠k)=true:=by simp [e]
      have b:¬ decide (q.1≠k)=true:=by simp [h1.symm.trans e]
      rw [if_neg a,if_neg b]; exact ih
    · have e':¬ q.1=k:=fun z=>e (h1.trans z)
      have a:decide (p.1≠k)=true:=by simp [e]
      have b:decide (q.1≠k)=true:=by simp [e']
      rw [if_pos a,if_pos b]; exact .cons ⟨h1,h2⟩ ih
theorem KV.keys {kvs:List (κ × V)} {vs:List (κ × Value)} (r:KV kvs vs):kvs.map (·.1)=vs.map (·.1):=by
  unfold KV at r
  induction r with
  | nil=>rfl
  | cons h t ih=>rw [List.map_cons,List.map_cons,ih,h.1]
theorem KV.length {kvs:List (κ × V)} {vs:List (κ × Value)} (r:KV kvs vs):kvs.length=vs.length:=Paired.length r
end
theorem kV_is {P:Program} {w:World} {k:Key} {u:Value} (r:RelV (kV k) u):(mixKind P w).is k u=true:=by
  cases k with
  | inl i=>obtain ⟨t,e⟩:=(show ∃ t,u=Value.int i t from r); subst e; exact mixKind_int P w i t
  | inr x=>obtain ⟨t,e⟩:=(show ∃ t,u=Value.str x t from r); subst e; exact mixKind_str P w x t
theorem items_are {P:Program} {w:World}:∀ {ks:List Key} {us:List Value},Vals (ks.map kV) us→ItemsAre (mixKind P w) ks us
  | [],_,r=>by rw [List.map_nil] at r; cases r; exact .nil
  | k :: ks,_,r=>by
    rw [List.map_cons] at r
    cases r with
    | cons h t=>exact .cons (kV_is h) (items_are t)
abbrev KT (H:Hp):List (List Key × V)→List (List Key × Addr × Value)→Prop:=Paired fun p q=>p.1=q.1∧H q.2.1=some (.tup (p.1.map kV))∧RelV p.2 q.2.2
theorem KT.val {H:Hp} {kvs:List (List Key × V)} {xs:List (List Key × Addr × Value)} (r:KT H kvs xs) (k:List Key):RelO (valV kvs k) ((atKey xs k).map (·.2)):=by
  induction r with
  | nil=>exact True.intro
  | @cons p q ps qs h t ih =>
    obtain ⟨h1,_,h2⟩:=h
    by_cases e:p.1=k
    · have e':q.1=k:=h1.symm.trans e
      have b:atKey (q :: qs) k=some q.2:=by simp [atKey,List.find?_cons,e']
      rw [valV_pos e,b]; exact h2
    · have e':¬ q.1=k:=fun z=>e (h1.trans z)
      have b:atKey (q :: qs) k=atKey qs k:=by simp [atKey,List.find?_cons,e']
      rw [valV_neg e,b]; exact ih
theorem KT.repl {H:Hp} {kvs:List (List Key × V)} {xs:List (List Key × Addr × Value)} (r:KT H kvs xs) (k:List Key) {y:V} {u:Value} (ry:RelV y u) :
    KT H (kvs.map fun kv=>if kv.1=k then (kv.1,y) else kv) (xs.map (putAt k u)):=by
  induction r with
  | nil=>exact .nil
  | @cons p q ps qs h t ih =>
    rw [List.map_cons,List.map_cons]
    refine .cons ?_ ih
    obtain ⟨h1,h2,h3⟩:=h
    unfold putAt
    by_cases e:p.1=k
    · rw [if_pos e,if_pos (h1.symm.trans e)]; exact ⟨h1,h2,ry⟩
    · rw [if_neg e,if_neg (fun z=>e (h1.trans z))]; exact ⟨h1,h2,h3⟩
theorem KT.put {H:Hp} {kvs:List (List Key × V)} {xs:List (List Key × Addr × Value)} (r:KT H kvs xs) (k:List Key) {b:Addr} {y:V} {u:Value} (hb:H b=some (.tup (k.map kV))) (ry:RelV y u) :
    KT H (putK kvs k y) (storedH xs k b u):=by
  have e:(kvs.any fun kv=>decide (kv.1=k))=(atKey xs k).isSome:=by
    rw [valV_any,(r.val k).isSome_eq,Option.isSome_map]
  unfold putK storedH
  rw [e]
  by_cases q:(atKey xs k).isSome=true
  · rw [if_pos q,if_pos q]; exact r.repl k ry
  · rw [if_neg q,if_neg q]; exact Paired.snoc r ⟨rfl,hb,ry⟩
theorem KT.keeps {H H':Hp} {kvs:List (List Key × V)} {xs:List (List Key × Addr × Value)} (r:KT H kvs xs) (ht:∀ b ys,H b=some (.tup ys)→H' b=some (.tup ys)):KT H' kvs xs :=
  Paired.mapP r fun _ _ z=>⟨z.1,ht _ _ z.2.1,z.2.2⟩
section
variable {P:Program} {w:World} {H:Hp} {h:Heap} {a:Addr}
theorem rd_of {u:HO} (ok:HOk P w H h) (e:Rd H a u):ObjOk P w H h a u:=e.ok ok
theorem dk_rd {kvs:List (Key × V)} (ok:HOk P w H h) (e:Rd H a (.dK kvs)):kvs.length≤sizeLine∧(a == sysModules)=false∧∃ vs,KV kvs vs∧h.DictOf (mixKind P w) a vs :=
  show ObjOk P w H h a (.dK kvs) from rd_of ok e
theorem dk_of {kvs:List (Key × V)} (ok:HOk P w H h) (e:H a=some (.dK kvs)):kvs.length≤sizeLine∧(a == sysModules)=false∧∃ vs,KV kvs vs∧h.DictOf (mixKind P w) a vs:=dk_rd ok (.inl e)
theorem key_of {ks:List Key} (ok:HOk P w H h) (e:H a=some (.tup (ks.map kV))):(tupleKind (mixKind P w)).is h ks a:=by
  obtain ⟨_,its,r,o,h1,h2,n,h3⟩:=(show ObjOk P w H h a (.tup (ks.map kV)) from ok a _ e)
  exact ⟨o,its.toArray,n,h1,h2,h3,by simpa using items_are r⟩
theorem dt_rd {kvs:List (List Key × V)} (ok:HOk P w H h) (e:Rd H a (.dT kvs)):kvs.length≤sizeLine∧(a == sysModules)=false ∧
    ∃ xs,KT H kvs xs∧h.DictOfH (tupleKind (mixKind P w)) a xs:=by
  obtain ⟨z,y,xs,r,o,es,ep,h1,h2,h3,h4,h5⟩:=(show ObjOk P w H h a (.dT kvs) from rd_of ok e)
  refine ⟨z,y,xs,r,o,es,ep,h1,h2,h3,h4,fun x hx=>?_,h5⟩
  have all:∀ {l:List (List Key × V)} {m:List (List Key × Addr × Value)},KT H l m→∀ x∈m,(tupleKind (mixKind P w)).is h x.1 x.2.1:=by
    intro l m q
    induction q with
    | nil=>intro x hx; exact nomatch hx
    | @cons p q ps qs hq t ih =>
      intro x hx
      rcases List.mem_cons.mp hx with e | hx
      · subst e
        exact key_of ok (by rw [← hq.1]; exact hq.2.1)
      · exact ih x hx
  exact all r x hx
theorem dt_of {kvs:List (List Key × V)} (ok:HOk P w H h) (e:H a=some (.dT kvs)):kvs.length≤sizeLine∧(a == sysModules)=false ∧
    ∃ xs,KT H kvs xs∧h.DictOfH (tupleKind (mixKind P w)) a xs:=dt_rd ok (.inl e)
end
def DGet (H:Hp) (a:Addr) (y:V) (r:Option V):Prop :=
  (∃ kvs k,Rd H a (.dK kvs)∧y=kV k∧r=valV kvs k)∨∃ kvs k b,Rd H a (.dT kvs)∧y=.ref b∧H b=some (.tup (k.map kV))∧r=valV kvs k
def DPut (H:Hp) (a:Addr) (y v:V) (H':Hp):Prop :=
  (∃ kvs k,H a=some (.dK kvs)∧y=kV k∧kvs.length < sizeLine∧H'=upd H a (.dK (putK kvs k v))) ∨
  ∃ kvs k b,H a=some (.dT kvs)∧y=.ref b∧H b=some (.tup (k.map kV))∧kvs.length < sizeLine∧H'=upd H a (.dT (putK kvs k v))
theorem DGet.k {H:Hp} {a:Addr} {kvs:List (Key × V)} {k:Key} (e:H a=some (.dK kvs)):DGet H a (kV k) (valV kvs k):=.inl ⟨kvs,k,.inl e,rfl,rfl⟩
theorem DGet.t {H:Hp} {a b:Addr} {kvs:List (List Key × V)} {k:List Key} (e:H a=some (.dT kvs)) (eb:H b=some (.tup (k.map kV))):DGet H a (.ref b) (valV kvs k):=.inr ⟨kvs,k,b,.inl e,rfl,eb,rfl⟩
theorem DPut.k {H:Hp} {a:Addr} {kvs:List (Key × V)} {k:Key} {v:V} (e:H a=some (.dK kvs)) (hl:kvs.length < sizeLine):DPut H a (kV k) v (upd H a (.dK (putK kvs k v))):=.inl ⟨kvs,k,e,rfl,hl,rfl⟩
theorem DPut.t {H:Hp} {a b:Addr} {kvs:List (List Key × V)} {k:List Key} {v:V} (e:H a=some (.dT kvs)) (eb:H b=some (.tup (k.map kV))) (hl:kvs.length < sizeLine) :
    DPut H a (.ref b) v (upd H a (.dT (putK kvs k v))):=.inr ⟨kvs,k,b,e,rfl,eb,hl,rfl⟩
section
variable {X:Cx} {pins:List (Addr × Obj)} {σ:St} {H:Hp} {s:Shared} {a:Addr} {y v:V} {u r:Value} {o:Option V} {A:Around} {E:Value→Shared→Prop}
theorem Inv.big (I:Inv X pins σ H s):sysModules < s.heap.objs.size:=by
  have h:mainGlobals < s.heap.objs.size:=(I.mod.glob.keeps I.bk).lt
  exact Nat.lt_trans (by decide) h
theorem d_getItem {Q:Value→Shared→Prop} (hu:A.units+1 < cLine) (I:Inv X pins σ H s) (g:DGet H a y (some v)) (ry:RelV y u) (h:∀ w' s',Inv X pins σ H s'→RelV v w'→Q w' s') :
    wpAny (model X.prog X.w) A (getItem (.ref a) u) Q E s:=by
  rcases g with ⟨kvs,k,e,ey,l⟩ | ⟨kvs,k,b,e,ey,eb,l⟩
  · subst ey
    obtain ⟨z,hd,vs,rel,dd⟩:=dk_rd I.hok e
    obtain ⟨w',hw,rw'⟩:=RelO.some_of (v:=v) (o:=valueAt vs k) (by rw [l]; exact rel.val k)
    exact wpAny_getItem_of (kV_is ry) dd.mapOf hw (h w' _ (I.tok _) rw')
  · subst ey
    cases (show u=Value.ref b from ry)
    obtain ⟨z,hd,xs,rel,dd⟩:=dt_rd I.hok e
    obtain ⟨w',hw,rw'⟩:=RelO.some_of (v:=v) (o:=(atKey xs k).map (·.2)) (by rw [l]; exact rel.val k)
    obtain ⟨p,hp,hp2⟩:=Option.map_eq_some_iff.mp hw
    refine wpAny_getItem_heap (tupleKind_room_in1 hu) (key_of I.hok eb) dd hp ?_
    rw [hp2]
    exact h w' _ (I.tok _) rw'
theorem d_in {Q:Value→Shared→Prop} (hu:A.units+1 < cLine) (I:Inv X pins σ H s) (g:DGet H a y o) (ry:RelV y u) (h:∀ s',Inv X pins σ H s'→Q (.bool o.isSome) s') :
    wpAny (model X.prog X.w) A (compareOp .In u (.ref a)) Q E s:=by
  rcases g with ⟨kvs,k,e,ey,l⟩ | ⟨kvs,k,b,e,ey,eb,l⟩
  · subst ey
    obtain ⟨z,hd,vs,rel,dd⟩:=dk_rd I.hok e
    refine wpAny_in_of (kV_is ry) hd dd.mapOf ?_
    rw [← (rel.val k).isSome_eq,← l]
    exact h _ (I.tok _)
  · subst ey
    cases (show u=Value.ref b from ry)
    obtain ⟨z,hd,xs,rel,dd⟩:=dt_rd I.hok e
    refine wpAny_in_heap (tupleKind_room_in1 hu) (key_of I.hok eb) hd dd ?_
    have q:=(rel.val k).isSome_eq
    rw [Option.isSome_map] at q
    rw [← q,← l]
    exact h _ (I.tok _)
theorem d_write {h':Heap} {t':Nat} {ob:HO} (I:Inv X pins σ H s) (mu:Mut (H a)) (hs:Heap.SameBut a s.heap h') (he:∃ q,h'.get? a=some q) (new:ObjOk X.prog X.w (upd H a ob) h' a ob) :
    Inv X pins σ (upd H a ob) { s with heap:=h',toks:=t' } :=
  I.write (x:=a) (e:=a) mu (.inl rfl) (fun b q hb z=>(hs.2 b hb).trans z) he new
theorem dk_new {P:Program} {w:World} {H':Hp} {h':Heap} {kvs:List (Key × V)} {vs:List (Key × Value)} (z:kvs.length≤sizeLine) (hd:(a == sysModules)=false) (rel:KV kvs vs) (dd:h'.DictOf (mixKind P w) a vs) :
    ObjOk P w H' h' a (.dK kvs):=⟨z,hd,vs,rel,dd⟩
theorem d_setItem {H':Hp} {Q:Unit→Shared→Prop} (hu:A.units+1 < cLine) (I:Inv X pins σ H s) (g:DPut H a y v H') (ry:RelV y u) (rv:RelV v r) (h:∀ s',Inv X pins σ H' s'→Q () s') :
    wpAny (model X.prog X.w) A (setItem (.ref a) u r) Q E s:=by
  rcases g with ⟨kvs,k,e,ey,l,eH⟩ | ⟨kvs,k,b,e,ey,eb,l,eH⟩
  · subst ey eH
    obtain ⟨z,hd,vs,rel,dd⟩:=dk_of I.hok e
    have hz:vs.length≤sizeLine:=by rw [← rel.length]; exact z
    have hl:(putK kvs k v).length≤sizeLine:=by have:=length_putK kvs k v; omega
    refine wpAny_setItem_pairs (hsz:=hz) (kV_is ry) dd fun h' dd' hs=>h _ ?_
    have he:∃ q,h'.get? a=some q:=let ⟨q,_,_,hq,_⟩:=dd'; ⟨q,hq⟩
    exact d_write I (by rw [e]; exact True.intro) hs he (dk_new hl hd (rel.put k rv) dd')
  · subst ey eH
    cases (show u=Value.ref b from ry)
    obtain ⟨z,hd,xs,rel,dd⟩:=dt_of I.hok e
    have hz:xs.length≤sizeLine:=by rw [← Paired.length rel]; exact z
    have hl:(putK kvs k v).length≤sizeLine:=by have:=length_putK kvs k v; omega
    refine wpAny_setItem_heap (hsz:=hz) (tupleKind_room_in1 hu) (key_of I.hok eb) dd fun h' dd' hs=>h _ ?_
    obtain ⟨q,es,ep,hq,h2,h3,h4,_,h5⟩:=dd'
    refine d_write I (by rw [e]; exact True.intro) hs ⟨q,hq⟩ ⟨hl,hd,_,(rel.put k eb rv).keeps fun c ys ec=>?_,q,es,ep,hq,h2,h3,h4,h5⟩
    rw [upd_ne (ne_of ec e (fun z=>nomatch z))]
    exact ec
end
section
variable {X:Cx} {pins:List (Addr × Obj)} {σ:St} {H:Hp} {s:Shared} {a:Addr} {kvs:List (Key × V)} {k:Key} {u:Value} {A:Around} {E:Value→Shared→Prop}
end
def NoSl (i:Expr):Prop:=∀ ov iv,subscripted i false ov iv=operate [ov,iv] (getItem ov iv)
theorem subD_of {prog:Program} {w:World} {A:Around} {E:Value→Shared→Prop} {s:Shared} {env:Env} {value slice:Expr} {pos:Pos} {T id:String} {Q:Value→Shared→Prop}
    (hl:typeLookup (.type T) "__getitem__" = pure (some (.builtin id))) (hs:NoSl slice)
    (h:wpAny (model prog w) A (eval value env) (fun o s₁=>wpAny (model prog w) A (eval slice env) (fun i s₂=>s₂.TypeIs o T∧wpAny (model prog w) A (getItem o i) Q E s₂) E s₁) E s) :
    wpAny (model prog w) A (eval (.Subscript value slice pos) env) Q E s:=by
  refine Subscript_ (wpAny_mono h (fun o s₁ h₁=>wpAny_mono h₁ (fun i s₂ h₂=>?_) fun _ _ x=>x) fun _ _ x=>x)
  obtain ⟨hT,h₂⟩:=h₂
  unfold subscriptTail
  refine wpAny_bind ?_
  rw [getitemInPython_of_ne hT.not_modules]
  refine wpAny_bind (wpAny_specialOf hT hl ?_)
  have fin:wpAny (model prog w) A (subscripted slice false o i) (fun r s₃=>wpAny (model prog w) A (letTemporaryGo value o r >>= fun _=>pure r) Q E s₃) E s₂:=by
    rw [hs o i]
    exact wpAny_operating (wpAny_mono h₂ (fun r s₃ h₃=>wpAny_bind (wpAny_letTemporaryGo (wpAny_pure h₃))) fun _ _ x=>x)
  first
    | exact wpAny_pure (wpAny_bind fin)
    | exact wpAny_bind (wpAny_pure (wpAny_bind fin))
    | exact wpAny_bind fin
theorem dict_typeIs {X:Cx} {pins:List (Addr × Obj)} {σ:St} {H:Hp} {s:Shared} {a:Addr} {y:V} {o:Option V} (I:Inv X pins σ H s) (g:DGet H a y o):s.TypeIs (.ref a) "dict":=by
  rcases g with ⟨kvs,k,e,_,_⟩ | ⟨kvs,k,b,e,_,_,_⟩
  · obtain ⟨_,_,vs,_,dd⟩:=dk_rd I.hok e
    exact dd.typeIs
  · obtain ⟨_,_,xs,_,dd⟩:=dt_rd I.hok e
    exact dd.typeIs
def tDGet (td ty:TE):TE:=fun σ H Q=>td σ H fun x H1=>ty σ H1 fun y H2=>∃ a v,x=.ref a∧DGet H2 a y (some v)∧Q v H2
def tDIn (ty td:TE):TE:=fun σ H Q=>ty σ H fun y H1=>td σ H1 fun x H2=>∃ a o,x=.ref a∧DGet H2 a y o∧Q (.bl o.isSome) H2
def sDPut (td ty tv:TE):TS:=fun D σ H=>tv σ H fun v H1=>td σ H1 fun x H2=>ty σ H2 fun y H3=>∃ a H4,x=.ref a∧DPut H3 a y v H4∧D.nx σ H4
section
variable {X:Cx} {o i e value:Expr} {pos pos' tpos:Pos} {td ty tv:TE}
theorem pe_dget (hu:X.A.units+1 < cLine) (ho:PE X o td) (hi:PE X i ty) (hs:NoSl i):PE X (.Subscript o i pos) (tDGet td ty):=by
  intro pins s σ H Q I h
  refine subD_of PySem.F.slot_dict_getitem.lookup hs (thn (ho pins s σ H _ I h) fun u s1 ⟨x,H1,I1,rx,q1⟩=>thn (hi pins s1 σ H1 _ I1 q1) fun iv s2 ⟨y,H2,I2,ry,a,v,ex,g,q2⟩=>?_)
  subst ex
  obtain rfl:u=Value.ref a:=rx
  exact ⟨dict_typeIs I2 g,d_getItem hu I2 g ry fun w' s3 I3 rw'=>⟨v,H2,I3,rw',q2⟩⟩
theorem pc_din (hu:X.A.units+1 < cLine) (hi:PE X i ty) (ho:PE X o td):PC X .In i o (tDIn ty td):=by
  intro pins s σ H Q I h
  refine thn (hi pins s σ H _ I h) fun iv s1 ⟨y,H1,I1,ry,q1⟩=>thn (ho pins s1 σ H1 _ I1 q1) fun u s2 ⟨x,H2,I2,rx,a,ov,ex,g,q2⟩=>?_
  subst ex
  obtain rfl:u=Value.ref a:=rx
  exact d_in hu I2 g ry fun s3 I3=>⟨.bl ov.isSome,H2,I3,rfl,q2⟩
theorem ps_dput (hu:X.A.units+1 < cLine) (ho:PE X o td) (hi:PE X i ty) (hv:PE X value tv) (hs:swapsWith value (some (.Subscript o i pos')) pos.line X.env=pure false) :
    PS X (.Assign [.Subscript o i pos'] value pos) (sDPut td ty tv):=by
  intro pins s σ H D I h
  refine wpAny_Assign_Subscript (thn (hv pins s σ H _ I h) fun r s1 ⟨v,H1,I1,rv,q1⟩=>thn (ho pins s1 σ H1 _ I1 q1) fun u s2 ⟨x,H2,I2,rx,q2⟩=>thn (hi pins s2 σ H2 _ I2 q2) fun iv s3 ⟨y,H3,I3,ry,a,H4,ex,g,q3⟩=>?_) hs
  subst ex
  obtain rfl:u=Value.ref a:=rx
  exact d_setItem hu I3 g ry rv fun s4 I4=>⟨σ,H4,I4,q3⟩
end
theorem dk_empty {P:Program} {w:World} {H:Hp} (h:Heap) (hb:sysModules < h.objs.size):ObjOk P w H (h.push { cls:=.type "dict",data:=.dict #[] }) h.objs.size (.dK []) :=
  ⟨Nat.zero_le _,beq_eq_false_iff_ne.mpr (Ne.symm (Nat.ne_of_lt hb)),[],.nil,Heap.DictOf.new h⟩
def tDNewK:TE:=fun _ H Q=>∀ p,H p=none→Q (.ref p) (upd H p (.dK []))
section
variable {X:Cx} {pos:Pos}
theorem pe_dnewK:PE X (.Dict [] [] pos) tDNewK:=fun pins s σ H Q I h =>
  wpAny_Dict_empty ⟨.ref s.heap.objs.size,_,I.laid (a:=s.heap.objs.size) (o:=.dK []) (t':=s.toks) (fun _ _ q=>Heap.get?_push_of_some _ q) (Nat.le_refl _) (dk_empty s.heap I.big),rfl,h _ (I.hok.fresh (Nat.le_refl _))⟩
end
def mergeK (kvs more:List (Key × V)):List (Key × V):=more.foldl (fun acc kv=>putK acc kv.1 kv.2) kvs
theorem KV.merge:∀ {more:List (Key × V)} {rs:List (Key × Value)} {kvs:List (Key × V)} {vs:List (Key × Value)},KV more rs→KV kvs vs→KV (mergeK kvs more) (merged vs rs):=by
  intro more rs kvs vs r
  unfold KV at r
  induction r generalizing kvs vs with
  | nil=>intro q; exact q
  | @cons p q ps qs h t ih =>
    intro r0
    have e:KV (putK kvs p.1 p.2) (stored vs q.1 q.2):=by
      have:=r0.put p.1 h.2
      rw [← h.1]; exact this
    exact ih e
theorem length_mergeK:∀ (more kvs:List (Key × V)),(mergeK kvs more).length≤kvs.length+more.length
  | [],kvs=>by show kvs.length≤kvs.length+0; omega
  | p :: r,kvs=>by
    have h1:=length_mergeK r (putK kvs p.1 p.2)
    have h2:=length_putK kvs p.1 p.2
    show (mergeK (putK kvs p.1 p.2) r).length≤_
    rw [List.length_cons]; omega
structure M1 (X:Cx) (o:Expr) (m:Str) (apos:Pos) (e:Expr) (cpos:Pos):Prop where
  base:attributeBase o m X.env (eval o X.env)=eval o X.env
  few:((backTo cpos (starEach [e] X.env)).all (fun x=>!x.1) && (backToKw cpos (keywordEach [] X.env)).all (fun x=>x.1.isSome)
    && decide (([e]:List Expr).length+([]:List Keyword).length+(if ([]:List Keyword).isEmpty then 0 else 1) < 30))=true
  line:(apos.endLine == cpos.line)=true
  trees:backTo cpos (starEach [e] X.env)=[(false,eval e X.env)]
structure M2 (X:Cx) (o:Expr) (m:Str) (apos:Pos) (e f:Expr) (cpos:Pos):Prop where
  base:attributeBase o m X.env (eval o X.env)=eval o X.env
  few:((backTo cpos (starEach [e,f] X.env)).all (fun x=>!x.1) && (backToKw cpos (keywordEach [] X.env)).all (fun x=>x.1.isSome)
    && decide (([e,f]:List Expr).length+([]:List Keyword).length+(if ([]:List Keyword).isEmpty then 0 else 1) < 30))=true
  line:(apos.endLine == cpos.line)=true
  trees:backTo cpos (starEach [e,f] X.env)=[(false,eval e X.env),(false,eval f X.env)]
section
variable {X:Cx} {pins:List (Addr × Obj)} {σ:St} {H:Hp} {s:Shared} {a:Addr} {y d:V} {u r:Value} {o:Option V} {A:Around} {E:Value→Shared→Prop}
end
section
variable {X:Cx} {o e f:Expr} {apos cpos:Pos} {td ty tx:TE}
end
section
variable {X:Cx} {pins:List (Addr × Obj)} {σ:St} {H:Hp} {s:Shared} {a:Addr} {kvs:List (Key × V)} {A:Around} {E:Value→Shared→Prop}
end
section
variable {X:Cx} {pins:List (Addr × Obj)} {σ:St} {H:Hp} {s:Shared} {a:Addr} {y:V} {u:Value} {A:Around} {E:Value→Shared→Prop}
end
end L2
set_option linter.all false
namespace MD
open PySem
abbrev kwD (d:Value):List (Str × Value):=[(Str.ofString "default",d)]
theorem args_d (a v:Value):argsOk "max" ⟨[a],kwD v⟩:=by
  unfold argsOk kwD
  kernel_rfl
section
variable {prog:Program} {w:World} {A:Around} {R:Result→Shared→Prop} {It:Addr} {fp wr:List Addr} {n:Nat} {Pr:Nat→Value→Prop} {Sx:Nat→Heap→Prop}
theorem nm:(toString "max" ++ toString ".loop" : String) = "max.loop":=by decide
theorem on (W:Walks prog w A.in1 It fp wr n Pr Sx) (bt:Nat→Nat→Bool) (cm:CmpOf prog w A.in1 .Gt Pr bt) (B:Addr) (nB:B ∉ fp) (d:Value) :
    ∀ (k j:Nat) (s:Shared) (best:Value) (c:Nat),n - (j+1)=k→j+1≤n→Sx (j+1) s.heap→Pr (argBest bt j) best →
    s.heap.get? B=some { cls:=.type "list",dict:=none,data:=.seq #[best,best] c,slots:=#[] } →
    (∀ v h' tk,Pr (argBest bt (n - 1)) v→(∀ b o,b ∉ wr→b≠B→s.heap.get? b=some o→h'.get? b=some o)→R (.ok (.ret v)) { s with heap:=h',toks:=tk }) →
    codeAny (model prog w) A (.builtin "max.loop" ⟨[.ref It,.none,.ref B],kwD d⟩) R s:=by
  have nW:B ∉ wr:=fun z=>nB (W.sub _ z)
  intro k
  induction k with
  | zero =>
    intro j s best c ek ej st pb eB fin
    have en:j+1=n:=by omega
    refine codeAny_builtin PySem.F.entry_max_loop ?_
    rw [Around.under_plainId (PySem.F.plain_max_loop) _]
    show wpAny _ A.in1 (seqItems? (.ref B) >>= _) _ _ s
    refine wpAny_bind (wpAny_seqItems eB rfl ?_)
    show wpAny _ A.in1 (tryCatch (pyNext (.ref It)) _ >>= _) _ _ s
    refine wpAny_bind (wpAny_tryCatch (W.done s _ _ (en ▸ st) fun h' tk kp=>?_))
    have eB':=kp B _ nW eB
    show wpAny _ A.in1 (updateSeq B (fun _=>#[]) >>= _) _ _ _
    refine wpAny_bind ?_
    refine wpAny_updateSeq eB' rfl (wpAny_bind (wpAny_letGo (wpAny_pure ?_)))
    exact fin best _ tk (by rw [← en]; exact pb) fun b o nb nS e=>(Heap.get?_update_other _ _ (Ne.symm nS)).trans (kp b o nb e)
  | succ k ih =>
    intro j s best c ek ej st pb eB fin
    have lt:j+1 < n:=by omega
    refine codeAny_builtin PySem.F.entry_max_loop ?_
    rw [Around.under_plainId (PySem.F.plain_max_loop) _]
    show wpAny _ A.in1 (seqItems? (.ref B) >>= _) _ _ s
    refine wpAny_bind (wpAny_seqItems eB rfl ?_)
    show wpAny _ A.in1 (tryCatch (pyNext (.ref It)) _ >>= _) _ _ s
    refine wpAny_bind (wpAny_tryCatch (W.item (j+1) s _ _ lt st fun v h' tk pv st' kp=>?_))
    have eB':=kp B _ nW eB
    show wpAny _ A.in1 (tryCatch (holding [v,v] (richCompare .Gt v best >>= _)) _ >>= _) _ _ _
    refine wpAny_bind (wpAny_tryCatch (wpAny_holding (wpAny_bind (cm (j+1) (argBest bt j) v best _ _ _ pv pb ?_))))
    refine wpAny_bind (wpAny_holding (wpAny_truthy_bool ?_))
    refine wpAny_bind (wpAny_letGo (wpAny_pure ?_))
    cases eb:bt (j+1) (argBest bt j) with
    | true =>
      rw [if_pos rfl]
      refine wpAny_bind ?_
      refine wpAny_updateSeq eB' rfl (wpAny_bind (wpAny_letGo ?_))
      rw [nm]
      refine wpAny_pure ⟨plainId_quiet PySem.F.plain_max_loop _,ih (j+1) _ v _ (by omega) lt (W.frame _ _ _ st' fun b bf o e=>?_) (by simp only [argBest,eb,if_true]; exact pv) (Heap.get?_update_self _ eB' rfl) fun v' h2 tk2 pv' kp2=>?_⟩
      · exact (Heap.get?_update_other _ _ (fun z:B=b=>nB (by rw [z]; exact bf))).trans e
      · exact fin v' h2 tk2 pv' fun b o nb nS e=>kp2 b o nb nS ((Heap.get?_update_other _ _ (Ne.symm nS)).trans (kp b o nb e))
    | false =>
      rw [if_neg Bool.false_ne_true]
      refine wpAny_bind (wpAny_letGo ?_)
      rw [nm]
      refine wpAny_pure ⟨plainId_quiet PySem.F.plain_max_loop _,ih (j+1) _ best c (by omega) lt st' (by simp only [argBest,eb,Bool.false_eq_true,if_false]; exact pb) eB' fun v' h2 tk2 pv' kp2=>?_⟩
      exact fin v' h2 tk2 pv' fun b o nb nS e=>kp2 b o nb nS (kp b o nb e)
theorem begin_ (W:Walks prog w A.in1 It fp wr n Pr Sx) (bt:Nat→Nat→Bool) (cm:CmpOf prog w A.in1 .Gt Pr bt) (B:Addr) (nB:B ∉ fp) (d:Value) {s:Shared} {c:Nat} (st:Sx 0 s.heap)
    (eB:s.heap.get? B=some { cls:=.type "list",dict:=none,data:=.seq #[] c,slots:=#[] })
    (none_:n=0→∀ h' tk,(∀ b o,b ∉ wr→s.heap.get? b=some o→h'.get? b=some o)→R (.ok (.ret d)) { s with heap:=h',toks:=tk })
    (fin:0 < n→∀ v h' tk,Pr (argBest bt (n - 1)) v→(∀ b o,b ∉ wr→b≠B→s.heap.get? b=some o→h'.get? b=some o)→R (.ok (.ret v)) { s with heap:=h',toks:=tk }) :
    codeAny (model prog w) A (.builtin "max.loop" ⟨[.ref It,.none,.ref B],kwD d⟩) R s:=by
  have nW:B ∉ wr:=fun z=>nB (W.sub _ z)
  refine codeAny_builtin PySem.F.entry_max_loop ?_
  rw [Around.under_plainId (PySem.F.plain_max_loop) _]
  show wpAny _ A.in1 (seqItems? (.ref B) >>= _) _ _ s
  refine wpAny_bind (wpAny_seqItems eB rfl ?_)
  show wpAny _ A.in1 (tryCatch (pyNext (.ref It)) _ >>= _) _ _ s
  by_cases h0:n=0
  · refine wpAny_bind (wpAny_tryCatch (W.done s _ _ (h0 ▸ st) fun h' tk kp=>?_))
    show wpAny _ A.in1 (rule _ >>= _) _ _ _
    exact wpAny_bind (wpAny_rule (wpAny_pure (none_ h0 h' tk kp)))
  · have hn:0 < n:=by omega
    refine wpAny_bind (wpAny_tryCatch (W.item 0 s _ _ hn st fun v h' tk pv st' kp=>?_))
    have eB':=kp B _ nW eB
    show wpAny _ A.in1 (updateSeq B (fun _=>#[v,v]) >>= _) _ _ _
    refine wpAny_bind ?_
    refine wpAny_updateSeq eB' rfl ?_
    rw [nm]
    refine wpAny_pure ⟨plainId_quiet PySem.F.plain_max_loop _,on W bt cm B nB d _ 0 _ v _ rfl hn (W.frame _ _ _ st' fun b bf o e=>?_) pv (Heap.get?_update_self _ eB' rfl) fun v' h2 tk2 pv' kp2=>?_⟩
    · exact (Heap.get?_update_other _ _ (fun z:B=b=>nB (by rw [z]; exact bf))).trans e
    · exact fin hn v' h2 tk2 pv' fun b o nb nS e=>kp2 b o nb nS ((Heap.get?_update_other _ _ (Ne.symm nS)).trans (kp b o nb e))
end
section
variable {prog:Program} {w:World} {A:Around} {E:Value→Shared→Prop} {s:Shared}
theorem tree_kw {id:String} {b:Builtin} {args:List Value} {kw:List (Str × Value)} {Q:Value→Shared→Prop} (h1:builtinKind id=none) (h2:plainId id=true) (h3:entryFor table id=some b) (h4:argsOk id ⟨args,kw⟩)
    (h:wpAny (model prog w) A.in1 (b ⟨args,kw⟩) (fun fin s'=>match fin with
      | .done f=>(match (Except.ok f:Result) with | .ok (.ret v)=>Q v s' | .ok _=>False | .error e=>E e s')
      | .again c'=>c'.quiet=true∧codeAny (model prog w) A c' (fun r s'=>match r with | .ok (.ret v)=>Q v s' | .ok _=>False | .error e=>E e s') s') E s):wpAny (model prog w) A (call (.builtin id) args kw) Q E s:=by
  refine wpAny_call (codeAny_call_builtin h2 h3 ?_)
  simp only [checkBuiltinCall,h1]
  cases e:Manifest.signature? id with
  | none=>exact wpAny_pure h
  | some sg =>
    have h4':Bind.checkArgs id sg ⟨args,kw⟩=pure ():=by simpa only [argsOk,e] using h4
    simp only [h4']
    exact wpAny_pure h
theorem call {x d:Value} {Q:Value→Shared→Prop}
    (h:wpAny (model prog w) A.in1 (pyIter x) (fun it s2=>∃ I fp wr n Pr Sx bt,it=.ref I∧Walks prog w A.in1 I fp wr n Pr Sx∧Sx 0 s2.heap∧(∀ b∈fp,b < s2.heap.objs.size)∧CmpOf prog w A.in1 .Gt Pr bt ∧
      (n=0→∀ h' tk,(∀ b o,b ∉ wr→s2.heap.get? b=some o→h'.get? b=some o)→Q d { s2 with heap:=h',toks:=tk }) ∧
      (0 < n→∀ v h' tk,Pr (argBest bt (n - 1)) v→(∀ b o,b ∉ wr→s2.heap.get? b=some o→h'.get? b=some o)→Q v { s2 with heap:=h',toks:=tk })) E s) :
    wpAny (model prog w) A (PySem.call (.builtin "max") [x] (kwD d)) Q E s:=by
  refine tree_kw PySem.F.kind_max PySem.F.plain_max PySem.F.entry_max (args_d _ _) ?_
  show wpAny _ A.in1 (Builtin.Builtins.bindParams "max" ["key", "default"] 0 ⟨[],kwD d⟩ >>= _) _ _ s
  refine wpAny_bind (wpAny_of_eq (show Builtin.Builtins.bindParams "max" ["key", "default"] 0 ⟨[],kwD d⟩=pure [none,some d] from rfl) ?_)
  refine wpAny_bind (wpAny_pure ?_)
  refine wpAny_bind (wpAny_mono h (fun it s2 h2=>?_) fun _ _ e=>e)
  obtain ⟨I,fp,wr,n,Pr,Sx,bt,rfl,W,st,hf,cm,q0,q1⟩:=h2
  refine wpAny_bind (wpAny_newObj_type ?_)
  have nB:s2.heap.objs.size ∉ fp:=fun z=>Nat.lt_irrefl _ (hf _ z)
  rw [nm]
  refine wpAny_pure ⟨plainId_quiet PySem.F.plain_max_loop _,begin_ W bt cm s2.heap.objs.size nB d (W.frame _ _ _ st fun b _ o e=>Heap.get?_push_of_some _ e) (Heap.get?_push_size _ rfl) (fun z h' tk kp=>?_) fun z v h' tk pv kp=>?_⟩
  · exact q0 z h' tk fun b o nb e=>kp b o nb (Heap.get?_push_of_some _ e)
  · exact q1 z v h' tk pv fun b o nb e=>kp b o nb (Nat.ne_of_lt (Heap.lt_size e)) (Heap.get?_push_of_some _ e)
end
end MD
set_option linter.all false
namespace MQ
open PySem
theorem no_keys:typeLookup (.type "list") "keys" = pure none:=am_miss_of_fast (by decide +kernel)
theorem ask {prog:Program} {w:World} {A:Around} {E:Value→Shared→Prop} {s:Shared} {a:Addr} {xs:Array Value} {k:Nat} {sl:Array (Option Value)} {Q:Option Value→Shared→Prop}
    (hx:s.heap.get? a=some { cls:=.type "list",dict:=none,data:=.seq xs k,slots:=sl }) (hA:A.handled=none)
    (h:∀ h' tk,(∀ b o,s.heap.get? b=some o→h'.get? b=some o)→Q none { s with heap:=h',toks:=tk }):wpAny (model prog w) A (getAttr? (.ref a) "keys") Q E s:=by
  obtain ⟨hp,g,d,tk,os⟩:=s
  have ty:∀ tk',(⟨hp,g,d,tk',os⟩:Shared).TypeIs (.ref a) "list":=fun _=>⟨_,hx,rfl⟩
  have f1:=sub_AttributeError
  have f3:=PySem.F.slot_list_getattribute.lookup
  have f4:=PySem.F.slot_list_getattribute.bind (.ref a)
  have f5:=am_list_getattr_none
  unfold getAttr? getAttrBy? getAttrBy
  repeat (any_goals (first | assumption | exact ty _ | ((with_reducible show wpAny _ _ (PySem.call (Value.builtin "list.__getattribute__") _ _) _ _ _); refine call_meets PySem.F.slot_list_getattribute (ty _) am_entry_list_getattribute (PySem.F.args_list_getattribute_2 _ _) (meets_getattribute_miss_list a xs k sl "keys" _ no_keys (by decide +kernel) (by decide +kernel)) ⟨hx,hA,fun h' tk' e ne=>?_⟩) | wp_step))
  obtain ⟨t',u',he⟩:=ne.there
  show wpAny _ _ (getattributeRaised _ _ _ _ _ _ _) _ _ _
  unfold getattributeRaised
  repeat (any_goals (first | assumption | wp_step))
  exact h _ _ ne.keeps
end MQ
set_option linter.all false
namespace DP
open PySem
theorem entry_loop:entryFor table "dict.update.loop" = some Builtin.«dict.update.loop»:=entryFor_of_tree (by kernel_rfl)
theorem plain_loop:plainId "dict.update.loop" = true:=by decide +kernel
section
variable {prog:Program} {w:World} {K:Type} [DecidableEq K] {knd:KeyKind prog w K} {A:Around} {R:Result→Shared→Prop} {It:Addr} {fp wr:List Addr} {n:Nat} {Pr:Nat→Value→Prop} {Sx:Nat→Heap→Prop}
def putFrom (ks:Nat→K) (vx:Nat→Value):Nat→Nat→List (K × Value)→List (K × Value)
  | _,0,kvs=>kvs
  | i,k+1,kvs=>putFrom ks vx (i+1) k (stored kvs (ks i) (vx i))
theorem stored_len (kvs:List (K × Value)) (k:K) (v:Value):(stored kvs k v).length≤kvs.length+1:=by
  unfold stored
  split
  · rw [List.length_map]; omega
  · simp
theorem fold (W:Walks prog w A.in1 It fp wr n Pr Sx) (d:Addr) (nd:d ∉ fp) (ks:Nat→K) (vx:Nat→Value) (h0:Heap)
    (pr:∀ i v,Pr i v→∃ (p:Addr) (u:Value) (m:Nat) (o:Obj),v=.ref p∧p ∉ wr∧p≠d∧h0.get? p=some o∧o.cls=.type "tuple"∧o.data=.seq #[u,vx i] m∧knd.is (ks i) u=true) :
    ∀ (k i:Nat) (c:Int) (t:Tok) (kvs:List (K × Value)) (s:Shared),n - i=k→i≤n→Sx i s.heap→(∀ b o,b ∉ wr→b≠d→h0.get? b=some o→s.heap.get? b=some o)→s.heap.DictOf knd d kvs→kvs.length+k≤sizeLine →
    (∀ h' tk,h'.DictOf knd d (putFrom ks vx i k kvs)→(∀ b o,b ∉ wr→b≠d→h0.get? b=some o→h'.get? b=some o)→(∀ b o,b ∉ wr→b≠d→s.heap.get? b=some o→h'.get? b=some o)→R (.ok (.ret .none)) { s with heap:=h',toks:=tk }) →
    codeAny (model prog w) A (.builtin "dict.update.loop" ⟨[.ref d,.ref It,.int c t,.none],[]⟩) R s:=by
  have dw:d ∉ wr:=fun z=>nd (W.sub _ z)
  intro k
  induction k with
  | zero =>
    intro i c t kvs s ek hi st kp hd hz fin
    have ei:i=n:=by omega
    subst ei
    refine codeAny_builtin entry_loop ?_
    rw [Around.under_plainId plain_loop _]
    show wpAny _ A.in1 (pyNext (.ref It) >>= _) _ _ s
    refine wpAny_bind (W.done s _ _ st fun h' tk kp'=>?_)
    show wpAny _ A.in1 (Builtin.Dict.addKeywords d [] >>= _) _ _ _
    obtain ⟨o,es,ep,ho,r⟩:=id hd
    exact wpAny_bind (wpAny_pure (wpAny_pure (fin h' tk ⟨o,es,ep,kp' d o dw ho,r⟩ (fun b o nb nd e=>kp' b o nb (kp b o nb nd e)) fun b o nb nd e=>kp' b o nb e)))
  | succ k ih =>
    intro i c t kvs s ek hi st kp hd hz fin
    have lt:i < n:=by omega
    refine codeAny_builtin entry_loop ?_
    rw [Around.under_plainId plain_loop _]
    show wpAny _ A.in1 (pyNext (.ref It) >>= _) _ _ s
    refine wpAny_bind (W.item i s _ _ lt st fun v h' tk pv st' kp'=>?_)
    obtain ⟨p,u,m,o,rfl,np,npd,ho,hc,hdat,hk⟩:=pr i v pv
    have ho':h'.get? p=some o:=kp' p o np (kp p o np npd ho)
    have hd':h'.DictOf knd d kvs:=by
      obtain ⟨od,es,ep,hod,r⟩:=id hd
      exact ⟨od,es,ep,kp' d od dw hod,r⟩
    refine wpAny_bind (wpAny_holding (wpAny_bind (wpAny_tryCatch ?_)))
    unfold Builtin.Dict.pairItems
    refine wpAny_bind (wpAny_typeOf (T:="tuple") ⟨o,ho',hc⟩ ?_)
    rw [if_pos (by decide)]
    refine wpAny_bind (wpAny_seqItems ho' hdat (wpAny_pure ?_))
    show wpAny _ _ (holding [u,vx i] (dictSet d u (vx i))) _ _ _
    refine wpAny_holding (wpAny_dictSet_pairs hk hd' (fun h2 hd2 sb=>?_) (by omega))
    refine wpAny_pure ⟨plainId_quiet plain_loop _,ih (i+1) _ _ _ _ (by omega) lt (W.frame _ _ _ st' fun b bf o e=>?_) (fun b o nb nbd e=>?_) hd2 ?_ fun h3 tk3 hd3 kp3 kq3=>?_⟩
    · exact (sb.2 b fun z=>nd (z ▸ bf)).trans e
    · exact (sb.2 b nbd).trans (kp' b o nb (kp b o nb nbd e))
    · have:=stored_len kvs (ks i) (vx i)
      omega
    · exact fin h3 tk3 hd3 kp3 fun b o nb nbd e=>kq3 b o nb nbd ((sb.2 b nbd).trans (kp' b o nb e))
end
end DP
set_option linter.all false
namespace DP
open PySem
section
variable {prog:Program} {w:World} {K:Type} [DecidableEq K] {knd:KeyKind prog w K} {A:Around} {E:Value→Shared→Prop} {s:Shared}
theorem call_pairs {l:Addr} {its:Array Value} {c:Nat} {sl:Array (Option Value)} {Q:Value→Shared→Prop} (hl:s.heap.get? l=some { cls:=.type "list",dict:=none,data:=.seq its c,slots:=sl }) (hh:A.handled=none) (ks:Nat→K) (vx:Nat→Value)
    (pr:∀ i v,its[i]?=some v→∃ (p:Addr) (u:Value) (m:Nat) (o:Obj),v=.ref p∧s.heap.get? p=some o∧o.cls=.type "tuple"∧o.data=.seq #[u,vx i] m∧knd.is (ks i) u=true) (hz:its.size≤sizeLine)
    (h:∀ h' tk,h'.DictOf knd s.heap.objs.size (putFrom ks vx 0 its.size [])→(∀ b o,s.heap.get? b=some o→h'.get? b=some o)→Q (.ref s.heap.objs.size) { s with heap:=h',toks:=tk }) :
    wpAny (model prog w) A (PySem.call (.type "dict") [.ref l]) Q E s:=by
  refine callType_codes (Q₁:=fun obj s1=>obj=.ref s.heap.objs.size∧s1={ s with heap:=s.heap.push { cls:=.type "dict",data:=.dict #[] } }) F.kt_called_dict (F.kt_typeCall_dict_1 _) F.entry_dict_init (kt_code_dict_new _ ⟨rfl,rfl⟩) ?_
  rintro obj s1 ⟨rfl,rfl⟩
  have new:(s.heap.push { cls:=.type "dict",data:=.dict #[] }).DictOf knd s.heap.objs.size []:=Heap.DictOf.new s.heap
  refine ⟨new.typeIs,F.args_dict_init_2 _ _,?_⟩
  unfold Builtin.«dict.__init__»
  refine wpAny_bind ?_
  unfold Builtin.Dict.selfAndRest
  refine wpAny_bind (wpAny_notOrdered_dict new.typeIs ?_)
  show wpAny _ _ (pure (s.heap.objs.size,[Value.ref l])) _ _ _
  refine wpAny_pure ?_
  show wpAny _ _ (Builtin.Dict.updateFrom "dict.__init__" s.heap.objs.size (.ref l) [] .none) _ _ _
  unfold Builtin.Dict.updateFrom
  have hl1:(s.heap.push { cls:=.type "dict",data:=.dict #[] }).get? l=some { cls:=.type "list",dict:=none,data:=.seq its c,slots:=sl }:=Heap.get?_push_of_some _ hl
  refine wpAny_bind (wpAny_typeOf (T:="list") ⟨_,hl1,rfl⟩ ?_)
  rw [if_pos (by decide)]
  refine wpAny_bind (MQ.ask hl1 hh fun h2 tk2 kp2=>?_)
  rw [if_pos (show (none:Option Value).isNone=true from rfl)]
  refine wpAny_bind (wpAny_rule (wpAny_bind (wpAny_pyIter_list (items:=its) ⟨_,kp2 _ _ hl1,rfl,_,rfl⟩ ?_)))
  have dl:s.heap.objs.size < h2.objs.size:=Heap.lt_size (kp2 _ _ (Heap.get?_push_size _ rfl))
  have ll:l < s.heap.objs.size:=Heap.lt_size hl
  have lh:l < h2.objs.size:=Nat.lt_trans ll dl
  refine wpAny_pure ⟨plainId_quiet plain_loop _,?_⟩
  refine fold (knd:=knd) (Walks.list (A:=A.in1.in1) hh h2.objs.size l (Nat.ne_of_lt lh) its) s.heap.objs.size ?nd ks vx h2 ?pr its.size 0 _ _ [] _ rfl (Nat.zero_le _) ?st ?kp ?dd ?zz ?fin
  case nd =>
    intro z
    rcases List.mem_cons.mp z with z | z
    · exact absurd z (Nat.ne_of_lt dl)
    · exact absurd (List.mem_singleton.mp z) (Nat.ne_of_gt ll)
  case pr =>
    intro i v hv
    obtain ⟨p,u,m,o,rfl,ho,hc,hd,hk⟩:=pr i v hv
    have lp:p < s.heap.objs.size:=Heap.lt_size ho
    exact ⟨p,u,m,o,rfl,fun z=>absurd (List.mem_singleton.mp z) (Nat.ne_of_lt (Nat.lt_trans lp dl)),Nat.ne_of_lt lp,kp2 _ _ (Heap.get?_push_of_some _ ho),hc,hd,hk⟩
  case st=>exact ⟨⟨_,Heap.get?_push_size _ rfl,rfl,rfl⟩,⟨_,Heap.get?_push_of_some _ (kp2 _ _ hl1),rfl,_,rfl⟩⟩
  case kp=>exact fun b o _ _ e=>Heap.get?_push_of_some _ e
  case dd=>exact (new.keep kp2).push _
  case zz=>simpa using hz
  case fin =>
    intro h' tk hd kp3 kq3
    refine ⟨rfl,h h' tk hd fun b o e=>?_⟩
    have lb:b < s.heap.objs.size:=Heap.lt_size e
    exact kp3 b o (fun z=>absurd (List.mem_singleton.mp z) (Nat.ne_of_lt (Nat.lt_trans lb dl))) (Nat.ne_of_lt lb) (kp2 _ _ (Heap.get?_push_of_some _ e))
end
end DP
set_option Elab.async false
set_option linter.all false
set_option maxRecDepth 100000
set_option maxHeartbeats 4000000
namespace L2
open PySem PySem.Spec PyProof.Rows
theorem KV.at_ {κ:Type} {kvs:List (κ × V)} {vs:List (κ × Value)} (r:KV kvs vs):∀ (i:Nat) (p:κ × Value),vs[i]?=some p→∃ q:κ × V,kvs[i]?=some q∧q.1=p.1∧RelV q.2 p.2:=by
  induction r with
  | nil=>intro i p h; simp at h
  | cons h1 h2 ih =>
    intro i p h
    cases i with
    | zero =>
      simp at h
      subst h
      exact ⟨_,rfl,h1⟩
    | succ i=>simpa using ih i p (by simpa using h)
def Prs (H:Hp):List V→List (Key × V)→Prop:=Paired fun v kv=>∃ p:Addr,v=.ref p∧H p=some (.tup [kV kv.1,kv.2])
theorem Prs.same {H H':Hp} (e:Same H H') {vs:List V} {kvs:List (Key × V)} (h:Prs H vs kvs):Prs H' vs kvs:=Paired.mapP h fun _ _ ⟨p,a,b⟩=>⟨p,a,e _ _ b⟩
theorem Prs.snoc {H:Hp} {v:V} {kv:Key × V} (hv:∃ p:Addr,v=.ref p∧H p=some (.tup [kV kv.1,kv.2])):∀ {vs:List V} {kvs:List (Key × V)},Prs H vs kvs→Prs H (vs++[v]) (kvs++[kv])
  | _,_,.nil=>.cons hv .nil
  | _,_,.cons h r=>.cons h (Prs.snoc hv r)
theorem Prs.len {H:Hp} {vs:List V} {kvs:List (Key × V)} (h:Prs H vs kvs):vs.length=kvs.length:=Paired.length h
theorem Prs.at_ {H:Hp} {vs:List V} {kvs:List (Key × V)} (r:Prs H vs kvs):∀ (i:Nat) (v:V),vs[i]?=some v→∃ (kv:Key × V) (p:Addr),kvs[i]?=some kv∧v=.ref p∧H p=some (.tup [kV kv.1,kv.2]):=by
  induction r with
  | nil=>intro i p h; simp at h
  | cons h1 h2 ih =>
    intro i v h
    cases i with
    | zero =>
      simp at h
      subst h
      obtain ⟨p,a,b⟩:=h1
      exact ⟨_,p,rfl,a,b⟩
    | succ i=>simpa using ih i v (by simpa using h)
theorem put_from {kvs:List (Key × V)} {ks:Nat→Key} {vx:Nat→Value}:∀ (n i:Nat) {a:List (Key × V)} {b:List (Key × Value)},KV a b→i+n=kvs.length→(∀ (j:Nat) (kv:Key × V),i≤j→kvs[j]?=some kv→ks j=kv.1∧RelV kv.2 (vx j)) →
    KV (mergeK a (kvs.drop i)) (DP.putFrom ks vx i n b)
  | 0,i,a,b,h,e,_=>by
    rw [List.drop_eq_nil_of_le (by omega)]
    exact h
  | n+1,i,a,b,h,e,hr=>by
    have hi:i < kvs.length:=by omega
    rw [List.drop_eq_getElem_cons hi]
    obtain ⟨e1,r1⟩:=hr i kvs[i] (Nat.le_refl _) (List.getElem?_eq_getElem hi)
    show KV (mergeK (putK a kvs[i].1 kvs[i].2) (kvs.drop (i+1))) (DP.putFrom ks vx (i+1) n (stored b (ks i) (vx i)))
    refine put_from n (i+1) ?_ (by omega) fun j kv hj=>hr j kv (by omega)
    rw [e1]
    exact h.put _ r1
def rDictOf:List V→Hp→VK→Prop:=fun xs H Q=>∃ (l:Addr) (vs:List V) (kvs:List (Key × V)),xs=[.ref l]∧H l=some (.lst vs)∧Prs H vs kvs∧∀ p,H p=none→Q (.ref p) (upd H p (.dK (mergeK [] kvs)))
theorem call_dict_of {X:Cx} (hc:X.calm=true):CallR X (.type "dict") rDictOf:=by
  intro pins s σ H xs us Q I r h
  obtain ⟨l,vs,kvs,rfl,hl,hp,q⟩:=h
  obtain ⟨u,rfl,rx⟩:=vals1 r
  cases rx
  obtain ⟨hz,its,c,rv,el,hget⟩:=I.lstM hl
  have hlen:=hp.len
  have key:∀ (i:Nat) (u:Value),its[i]?=some u→∃ (kv:Key × V) (p:Addr) (y z:Value) (m:Nat) (o:Obj),kvs[i]?=some kv∧u=.ref p∧s.heap.get? p=some o∧o.cls=.type "tuple"∧o.data=.seq #[y,z] m∧RelV (kV kv.1) y∧RelV kv.2 z:=fun i u hu=>by
    have hi:i < vs.length:=by
      have:=(List.getElem?_eq_some_iff.mp hu).1
      omega
    obtain ⟨u',hu',ru⟩:=rv.get (i:=i) (x:=vs[i]) (List.getElem?_eq_getElem hi)
    rw [hu] at hu'
    cases hu'
    obtain ⟨kv,p,e1,e2,e3⟩:=hp.at_ i vs[i] (List.getElem?_eq_getElem hi)
    rw [e2] at ru
    cases ru
    obtain ⟨its2,r2,tp,_⟩:=I.tuple (SqT.of (K:=X.K) e3)
    obtain ⟨y,z,ez,ry,rz⟩:=Vals.two r2
    obtain ⟨o,ho,hcl,m,hd⟩:=tp
    refine ⟨kv,p,y,z,m,o,e1,rfl,ho,hcl,?_,ry,rz⟩
    rw [hd,ez]
  have some_at:∀ i:Nat,∃ (k:Key) (v:Value),∀ u,its[i]?=some u→∃ (p:Addr) (y:Value) (m:Nat) (o:Obj),u=.ref p∧s.heap.get? p=some o∧o.cls=.type "tuple"∧o.data=.seq #[y,v] m∧keyIs k y=true∧∃ kv,kvs[i]?=some kv∧k=kv.1∧RelV kv.2 v:=fun i=>by
    cases e:its[i]? with
    | none=>exact ⟨.inl 0,.none,fun u z=>by cases z⟩
    | some u =>
      obtain ⟨kv,p,y,z,m,o,e1,e2,e3,e4,e5,e6,e7⟩:=key i u e
      refine ⟨kv.1,z,fun u' z'=>?_⟩
      cases z'
      have hk:=kV_is (P:=X.prog) (w:=X.w) e6
      exact ⟨p,y,m,o,e2,e3,e4,e5,hk,kv,e1,rfl,e7⟩
  have ch:=fun i=>(some_at i).choose_spec.choose_spec
  refine DP.call_pairs (knd:=mixKind X.prog X.w) hget (I.ok.hd hc) (fun i=>(some_at i).choose) (fun i=>(some_at i).choose_spec.choose) (fun i v hv=>?_) (by rw [List.size_toArray,← el]; exact hz) fun h' tk hd kp=>?_
  · obtain ⟨p,y,m,o,e2,e3,e4,e5,hk,_⟩:=ch i v (by simpa using hv)
    exact ⟨p,y,m,o,e2,e3,e4,e5,hk⟩
  · have hkv:KV (mergeK [] kvs) (DP.putFrom (fun i=>(some_at i).choose) (fun i=>(some_at i).choose_spec.choose) 0 its.toArray.size []):=by
      have:=put_from (kvs:=kvs) (ks:=fun i=>(some_at i).choose) (vx:=fun i=>(some_at i).choose_spec.choose) kvs.length 0 (a:=[]) (b:=[]) .nil (by omega) (fun j kv _ hj=>by
        have hjl:j < its.length:=by
          have:=(List.getElem?_eq_some_iff.mp hj).1
          omega
        obtain ⟨p,y,m,o,_,_,_,_,_,kv',e1,e2,e3⟩:=ch j its[j] (List.getElem?_eq_getElem hjl)
        rw [hj] at e1
        cases e1
        exact ⟨e2,e3⟩)
      rw [List.drop_zero] at this
      rw [List.size_toArray,← el,hlen]
      exact this
    have hml:(mergeK [] kvs).length≤sizeLine:=by
      have:=length_mergeK kvs []
      simp at this
      omega
    have I1:=I.laid (a:=s.heap.objs.size) (o:=.dK (mergeK [] kvs)) (t':=tk) kp (Nat.le_refl _) (dk_new hml (beq_eq_false_iff_ne.mpr (Nat.ne_of_gt I.big)) hkv hd)
    exact ⟨.ref s.heap.objs.size,_,I1,rfl,q _ I.fresh⟩
end L2
set_option Elab.async false
set_option linter.all false
set_option maxRecDepth 100000
set_option maxHeartbeats 4000000
namespace L2
open PySem PySem.Spec PyProof.Rows
theorem ints_at {ns:List Int} {its:List Value} (r:Vals (ns.map V.int) its) {i:Nat} {v:Value} (h:its.toArray[i]?=some v):∃ t,v=.int (ns.getD i 0) t:=by
  have h':its[i]?=some v:=by simpa using h
  have hl:=r.length
  have hi:i < its.length:=(List.getElem?_eq_some_iff.mp h').1
  have hb:i < ns.length:=by rw [List.length_map] at hl; omega
  obtain ⟨u,hu,ru⟩:=r.get (i:=i) (x:=V.int ns[i]) (by rw [List.getElem?_map,List.getElem?_eq_getElem hb]; rfl)
  rw [h'] at hu
  cases hu
  obtain ⟨t,rfl⟩:=ru
  refine ⟨t,?_⟩
  rw [List.getD_eq_getElem?_getD,List.getElem?_eq_getElem hb]
  rfl
end L2
set_option linter.all false
namespace M08
end M08
set_option linter.all false
namespace SLi
open PySem
theorem clip (a b n:Nat):Builtin.Str.strSliceIndices (some (a:Int)) (some (b:Int)) 1 n=Builtin.Str.strSliceIndices (some ((min a n:Nat):Int)) (some ((min b n:Nat):Int)) 1 n:=by
  have e1:¬ ((a:Int) < 0):=by omega
  have e2:¬ ((b:Int) < 0):=by omega
  have e3:¬ (((min a n:Nat):Int) < 0):=by omega
  have e4:¬ (((min b n:Nat):Int) < 0):=by omega
  have h1:max (0:Int) (min (a:Int) (n:Int))=max 0 (min ((min a n:Nat):Int) (n:Int)):=by omega
  have h2:max (0:Int) (min (b:Int) (n:Int))=max 0 (min ((min b n:Nat):Int) (n:Int)):=by omega
  simp only [Builtin.Str.strSliceIndices,e1,e2,e3,e4,if_false,h1,h2]
  rfl
theorem both (x:Str) {a b:Nat} (h:a≤b):Txt.slice x (some (a:Int)) (some (b:Int))=⟨((x.cps.toList.drop a).take (b - a)).toArray⟩:=by
  have hl:x.cps.toList.length=x.length:=by simp [Str.length]
  have e:Txt.slice x (some (a:Int)) (some (b:Int))=Txt.slice x (some ((min a x.length:Nat):Int)) (some ((min b x.length:Nat):Int)):=by
    unfold Txt.slice
    rw [clip]
  rw [e]
  have p:=StrLaws.sliceText_plain (x:=x) (i:=((min a x.length:Nat):Int)) (j:=((min b x.length:Nat):Int)) ⟨by omega,by omega,by omega⟩
  have p':Txt.slice x (some ((min a x.length:Nat):Int)) (some ((min b x.length:Nat):Int))=_:=p
  rw [p']
  congr 1
  have e1:(((min a x.length:Nat):Int)).toNat=min a x.length:=by omega
  have e2:(((min b x.length:Nat):Int) - ((min a x.length:Nat):Int)).toNat=min b x.length - min a x.length:=by omega
  rw [e1,e2]
  congr 1
  by_cases ha:a≤x.length
  · rw [Nat.min_eq_left ha]
    by_cases hb:b≤x.length
    · rw [Nat.min_eq_left hb]
    · rw [Nat.min_eq_right (by omega)]
      rw [List.take_of_length_le (by rw [List.length_drop]; omega),List.take_of_length_le (by rw [List.length_drop]; omega)]
  · rw [Nat.min_eq_right (by omega),List.drop_eq_nil_of_le (by omega),List.drop_eq_nil_of_le (by omega)]
    simp
theorem upto (x:Str) (b:Nat):Txt.slice x none (some (b:Int))=⟨(x.cps.toList.take b).toArray⟩:=by
  have e:Txt.slice x none (some (b:Int))=Txt.slice x (some ((0:Nat):Int)) (some (b:Int)):=by
    unfold Txt.slice
    rw [StrLaws.sliceIdx_none_lo]
    rfl
  rw [e,both x (Nat.zero_le b)]
  simp
theorem from_ (x:Str) (a:Nat):Txt.slice x (some (a:Int)) none=⟨(x.cps.toList.drop a).toArray⟩:=by
  have hl:x.cps.toList.length=x.length:=by simp [Str.length]
  have e:Txt.slice x (some (a:Int)) none=Txt.slice x (some (a:Int)) (some (x.length:Int)):=by
    unfold Txt.slice
    rw [StrLaws.sliceIdx_none_hi]
  rw [e]
  by_cases h:a≤x.length
  · rw [both x h,List.take_of_length_le (by rw [List.length_drop]; omega)]
  · have e2:Txt.slice x (some (a:Int)) (some (x.length:Int))=Txt.slice x (some ((x.length:Nat):Int)) (some (x.length:Int)):=by
      unfold Txt.slice
      rw [clip,clip x.length x.length]
      rw [Nat.min_eq_right (by omega:x.length≤a),Nat.min_self]
    rw [e2,both x (Nat.le_refl _),List.drop_eq_nil_of_le (by omega:x.cps.toList.length≤a),Nat.sub_self]
    simp
end SLi
set_option Elab.async false
set_option linter.all false
set_option maxRecDepth 100000
set_option maxHeartbeats 4000000
namespace L2
open PySem PySem.Spec PyProof.Rows M08
abbrev mkT (r:List Nat):V:=V.str ⟨r.toArray⟩
abbrev sD (r:List Nat):D:=.str ⟨r.toArray⟩
structure OkC (cs:List (List Nat)):Prop where
  few:cs.length≤100
  size:∀ c∈cs,1≤c.length∧c.length≤8
theorem at_T {cs:List (List Nat)} {i:Nat} (hi:i < cs.length):(cs.map mkT)[i]?=some (mkT cs[i]):=by
  rw [List.getElem?_map,List.getElem?_eq_getElem hi]
  rfl
theorem cat_T (a b:List Nat):(⟨a.toArray⟩:Str)++⟨b.toArray⟩=⟨(a++b).toArray⟩:=by
  show Str.mk (a.toArray++b.toArray)=_
  simp
theorem atI_zero {α:Type} (x:α) (xs:List α):atI (x :: xs) 0=some x:=atI_nat (xs:=x :: xs) (j:=0) rfl
end L2
set_option Elab.async false
set_option linter.all false
set_option maxRecDepth 100000
set_option maxHeartbeats 4000000
namespace L2
open PySem PySem.Spec PyProof.Rows M08
end L2
namespace M08
end M08
namespace M05
def nmN:Nat→Nat→List Nat
  | 0,_=>[]
  | f+1,r=>if r=0 then [] else nmN f ((r - 1) / 26)++[97+(r - 1) % 26]
theorem nmN_more:∀ (f g r:Nat),r≤f→r≤g→nmN f r=nmN g r
  | 0,g,r,h,_=>by
    have e:r=0:=by omega
    subst e
    cases g <;> simp [nmN]
  | f+1,0,r,_,h=>by
    have e:r=0:=by omega
    subst e
    simp [nmN]
  | f+1,g+1,r,h1,h2=>by
    unfold nmN
    by_cases e:r=0
    · simp [e]
    · rw [if_neg e,if_neg e,nmN_more f g ((r - 1) / 26) (by omega) (by omega)]
def nm (r:Nat):List Nat:=nmN r r
theorem nm_zero:nm 0=[]:=rfl
theorem nm_step {r:Nat} (h:r≠0):nm r=nm ((r - 1) / 26)++[97+(r - 1) % 26]:=by
  unfold nm
  obtain ⟨q,rfl⟩:∃ q,r=q+1:=⟨r - 1,by omega⟩
  show nmN (q+1) (q+1)=_
  rw [nmN,if_neg h,nmN_more q ((q+1 - 1) / 26) _ (by omega) (Nat.le_refl _)]
def dg:Nat→Nat→List Nat
  | 0,_=>[]
  | s+1,k=>dg s (k / 26)++[97+k % 26]
def sh:Nat→Nat
  | 0=>0
  | s+1=>26 * sh s+(if s=0 then 0 else 26)
theorem sh_one:sh 1=0:=rfl
theorem sh_succ (s:Nat) (h:s≠0):sh (s+1)=26 * sh s+26:=by
  show 26 * sh s+(if s=0 then 0 else 26)=_
  rw [if_neg h]
theorem nm_len:∀ (b r:Nat),r < sh (b+1)+1→(nm r).length≤b∨False
  | 0,r,h=>by
    have e:r=0:=by rw [sh_one] at h; omega
    subst e
    exact .inl (by rw [nm_zero]; exact Nat.le_refl _)
  | b+1,r,h=>by
    by_cases e:r=0
    · subst e
      exact .inl (by rw [nm_zero]; exact Nat.zero_le _)
    · rw [nm_step e,List.length_append]
      have e0:=sh_succ (b+1) (by omega)
      rcases nm_len b ((r - 1) / 26) (by omega) with q | q
      · exact .inl (by show _+1≤b+1; omega)
      · exact q.elim
end M05
set_option linter.all false
namespace M05
theorem least {F:Nat→Prop}:∀ N:Nat,(∃ m,m≤N∧F m)→∃ m,m≤N∧F m∧∀ j,j < m→¬ F j
  | 0,⟨m,h,f⟩=>⟨m,h,f,fun j hj=>by omega⟩
  | N+1,⟨m,h,f⟩=>by
    by_cases hx:∃ m,m≤N∧F m
    · obtain ⟨m',h',f',g'⟩:=least N hx
      exact ⟨m',by omega,f',g'⟩
    · have em:m=N+1:=by
        by_cases z:m≤N
        · exact absurd ⟨m,z,f⟩ hx
        · omega
      subst em
      exact ⟨N+1,Nat.le_refl _,f,fun j hj z=>hx ⟨j,by omega,z⟩⟩
end M05
set_option Elab.async false
set_option linter.all false
set_option maxRecDepth 100000
set_option maxHeartbeats 4000000
namespace L2
open PySem PySem.Spec PyProof.Rows
def rCat2:R2:=fun x y H Q=>∃ (a b:Addr) (xs ys:List V),x=.ref a∧y=.ref b∧H a=some (.tup xs)∧H b=some (.tup ys)∧xs.length+ys.length≤sizeLine∧∀ (q:Addr) (H':Hp),Same H H'→H' q=some (.tup (xs++ys))→Q (.ref q) H'
theorem op_catT2 {X:Cx}:OpR X (binaryOp .Add) rCat2:=by
  intro pins s σ H x y v u Q I rx ry h
  obtain ⟨a,b,xs,ys,rfl,rfl,ha,hb,hz,q⟩:=h
  cases xs with
  | cons x1 xs =>
    refine op_catT pins s σ H (.ref a) (.ref b) v u Q I rx ry ⟨a,b,_,_,rfl,rfl,SqT.of ha,SqT.of hb,by simp,hz,fun z=>?_,fun z p hp=>q p _ (same_new hp _) upd_same⟩
    refine q a H (Same.refl H) ?_
    rw [ha,z,List.append_nil]
  | nil =>
    cases rx
    cases ry
    obtain ⟨its,r1,p1,_⟩:=I.tuple (SqT.of (K:=X.K) ha)
    obtain ⟨its2,r2,p2,_⟩:=I.tuple (SqT.of (K:=X.K) hb)
    cases r1
    obtain ⟨⟨cls,dd,data,sl⟩,ho,hc,n,hd⟩:=id p1
    obtain ⟨⟨cls2,dd2,data2,sl2⟩,ho2,hc2,n2,hd2⟩:=id p2
    simp only at hc hd hc2 hd2
    subst hc hd hc2 hd2
    refine concat_meets ⟨_,ho,rfl⟩ ⟨_,ho2,rfl⟩ noFill_tuple_add seq_tuple_add PySem.F.slot_tuple_add PySem.F.entry_tuple_add (PySem.F.args_tuple_add_2 _ _) (tuple_addW0 a b _ its2.toArray n n2 dd dd2 sl sl2 rfl) ⟨ho,ho2,?_⟩
    exact ⟨.ref b,H,I,rfl,q b H (Same.refl H) hb⟩
theorem inV_str (a:Str):∀ xs:List Str,inV (.str a) (xs.map V.str)=decide (a∈xs)
  | []=>rfl
  | x :: xs=>by
    have ih:=inV_str a xs
    unfold inV at ih ⊢
    rw [List.map_cons,List.any_cons,ih]
    show (x == a || decide (a∈xs))=_
    rw [Bool.eq_iff_iff,Bool.or_eq_true,decide_eq_true_eq,decide_eq_true_eq,List.mem_cons,beq_iff_eq]
    constructor
    · rintro (h | h)
      · exact .inl h.symm
      · exact .inr h
    · rintro (h | h)
      · exact .inl h.symm
      · exact .inr h
theorem flat_strs (xs:List Str):(xs.map V.str).all flatV=true:=by
  rw [List.all_eq_true]
  intro v hv
  obtain ⟨x,_,rfl⟩:=List.mem_map.mp hv
  rfl
end L2
set_option Elab.async false
set_option linter.all false
set_option maxRecDepth 100000
set_option maxHeartbeats 4000000
namespace ET
open PySem
open Sem (wp)
open AutoSeq1 (wpAny_loadPart')
theorem drawsT {prog:Program} {w:World} {A:Around} (hd:A.handled=none) (it t:Addr) (ne:t≠it) (its:Array Value) :
    Draws prog w A it [it,t] its.size (fun i v=>its[i]?=some v) (fun i h=>h.IsTupleIter it t i∧h.IsTuple t its) where
  live:=fun _ _ st=>by
    obtain ⟨⟨o,ho,_⟩,_⟩:=st
    exact ⟨o,ho⟩
  frame:=fun _ _ _ st k=>⟨st.1.at fun o e=>k it (by simp) o e,st.2.at fun o e=>k t (by simp) o e⟩
  item:=fun i s Q E hi st q=>by
    refine ZT.tup_item st.1 st.2 (x:=its[i]) (by simp [hi]) fun g ti sb=>?_
    exact q _ g s.toks (by simp [hi]) ⟨ti,st.2.extBut sb.extBut ne⟩ sb
  done:=fun s Q E st q=>ZT.tup_end hd st.1 st.2 (by simp) q
theorem enum_newT (t:Addr) (us:Array Value):Meets (Builtin.«enumerate.__new__» ⟨[.type "enumerate",.ref t],[]⟩) (fun _ R s=>s.heap.IsTuple t us ∧
      R (.ok (.ret (.ref (s.heap.push { cls:=.type "tuple_iterator",data:=.fields #[.ref t,.int 0 0] }).objs.size)))
        { s with heap:=(s.heap.push { cls:=.type "tuple_iterator",data:=.fields #[.ref t,.int 0 0] }).push { cls:=.type "enumerate",data:=.fields #[.none,.bool false,.ref s.heap.objs.size,rawInt 0,.none,.none] } }):=by
  refine .of_wp fun prog w A R s h=>?_
  obtain ⟨hp,g,d,tk,os⟩:=s
  obtain ⟨u1,h⟩:=h
  have u1':Heap.IsTuple (Shared.heap ⟨hp,g,d,tk,os⟩) t us:=u1
  have sub:=sub_enumerate
  wp_walk
  refine wpAny_stack_any fun st=>wpAny_pure ?_
  split
  · rename_i c _ _ _ _ _
    cases (c == Value.type "enumerate")
    all_goals
      wp_walk using wpAny_pyIter_tuple u1'
      exact ⟨_,rfl,h⟩
  · wp_walk using wpAny_pyIter_tuple u1'
    exact ⟨_,rfl,h⟩
theorem call_enumT {prog:Program} {w:World} {A:Around} {E:Value→Shared→Prop} {s:Shared} {t:Addr} {us:Array Value} {Q:Value→Shared→Prop} (u1:s.heap.IsTuple t us)
    (k:∀ g,IsEnum g (s.heap.objs.size+1) s.heap.objs.size 0 .none→g.IsTupleIter s.heap.objs.size t 0→(∀ c o,s.heap.get? c=some o→g.get? c=some o)→Q (.ref (s.heap.objs.size+1)) { s with heap:=g }) :
    wpAny (model prog w) A (call (.type "enumerate") [.ref t]) Q E s:=by
  refine callType_new F.called_enumerate (by decide) (F.typeCall_enumerate_1 _) (F.newCall_enumerate_1 _) (fun obj=>F.args_object_init_2 obj _) F.entry_enumerate_new (enum_newT t us) ⟨u1,?_⟩
  have n1:(ZT.zh1 s.heap t).objs.size=s.heap.objs.size+1:=Heap.size_push ..
  have p1:((ZT.zh1 s.heap t).push { cls:=.type "enumerate",data:=.fields #[.none,.bool false,.ref s.heap.objs.size,rawInt 0,.none,.none] }).get? (ZT.zh1 s.heap t).objs.size=some _:=Heap.get?_push_size _ rfl
  rw [n1] at p1
  show _∧_
  rw [n1]
  exact ⟨⟨_,p1,rfl⟩,k _ p1 ⟨_,Heap.get?_push_of_some _ (Heap.get?_push_size _ rfl),rfl,rfl⟩ fun c o q=>Heap.get?_push_of_some _ (Heap.get?_push_of_some _ q)⟩
theorem enum_endT {prog:Program} {w:World} {A:Around} {E:Value→Shared→Prop} {s:Shared} {e it t:Addr} {i:Nat} {j:Int} {us:Array Value} {old:Value} {Q:Option Value→Shared→Prop} (hd:A.handled=none)
    (ee:IsEnum s.heap e it j old) (ti:s.heap.IsTupleIter it t i) (tt:s.heap.IsTuple t us) (tx:us[i]?=none) (k:∀ g,Heap.ExtBut it s.heap g→Q none { s with heap:=g }):wpAny (model prog w) A (pyNext (.ref e)) Q E s:=by
  have ty:s.TypeIs (.ref e) "enumerate":=⟨_,ee,rfl⟩
  unfold pyNext
  refine wpAny_bind (wpAny_attempt (wpAny_callSpecial?_slot (name:=Str.ofString "__next__") ty F.slot_enumerate_next (wpAny_call_entry F.slot_enumerate_next ty F.entry_enumerate_next ?_ (F.args_enumerate_next_1 _))))
  show wpAny _ _ (field (.ref e) 2 >>= _) _ _ _
  refine wpAny_bind (wpAny_field ee rfl (x:=.ref it) rfl (wpAny_bind (ZT.tup_end hd ti tt tx fun g x eb hx=>?_)))
  obtain ⟨o,ho,c⟩:=hx
  exact wpAny_bind (wpAny_isInstance (T:="StopIteration") (b:=true) ⟨o,ho,c⟩ isSubtype_stop (wpAny_pure (k _ eb)))
end ET
namespace L2
open PySem PySem.Spec PyProof.Rows
def IteT (K:PySem.W.Frag) (a:Addr):It :=
  ⟨fun i H=>∃ xs x,SqT K H a xs∧xs[i]?=some x,fun i H v H'=>∃ t x,v=.ref t∧H t=none∧H'=upd H t (.tup [.int (i:Nat),x])∧∀ xs,SqT K H a xs→xs[i]?=some x,fun i H=>∃ xs,SqT K H a xs∧xs.length≤i⟩
theorem turn_enumT {P:Program} {w:World} {K:PySem.W.Frag} {elts:List Expr} {k1:Nat} {p1:Pos} (a e it:Addr) (hne:e≠it) (hae:a≠e) (hai:a≠it) :
    Turn P w K (.Tuple elts k1 p1) (IteT K a) [e,it] e (fun i h=>(∃ old,IsEnum h e it ((i:Nat):Int) old)∧h.IsTupleIter it a i) where
  mem:=by simp
  obj:=fun i h st b hb=>by
    obtain ⟨⟨old,he⟩,o,ho,c,d⟩:=st
    have hb':b=e∨b=it:=by simpa using hb
    rcases hb' with rfl | rfl
    · exact ⟨_,he,fun v z=>by
        have z':Data.fields _=Data.cell v:=z
        cases z'⟩
    · exact ⟨o,ho,fun v z=>by rw [d] at z; cases z⟩
  keep:=fun i h h' st k=>by
    obtain ⟨⟨old,he⟩,hit⟩:=st
    exact ⟨⟨old,k e (by simp) _ he⟩,hit.at fun o q=>k it (by simp) o q⟩
  item:=by
    intro X hP hw hK hc i pins s σ H E I hf st hg
    subst hP hw hK
    obtain ⟨xs,x,hq,hx⟩:=hg
    obtain ⟨its,rv,p,hz⟩:=I.tuple hq
    obtain ⟨u,hu,ru⟩:=rv.get hx
    obtain ⟨⟨old,he⟩,hit⟩:=st
    have fe:=hf e (by simp)
    have fi:=hf it (by simp)
    obtain ⟨oi,hoi,_⟩:=id hit
    have pT:s.heap.IsTuple a its.toArray:=p
    have hlt:i < its.toArray.size:=by
      have:=(List.getElem?_eq_some_iff.mp hu).1
      simpa using this
    refine wpAny_pyNext_enum_itemD (ET.drawsT (A:=X.A.in1) (I.ok.hd hc) it a hai its.toArray) he ⟨hit,pT⟩ hlt hne (by simp [hne,Ne.symm hae]) fun x' h1 tk hx' heo hst1 ht1 hz1 hk1=>?_
    have ex:x'=u:=by
      have:its.toArray[i]?=some u:=by simpa using hu
      exact Option.some.inj (hx'.symm.trans this)
    subst ex
    refine ⟨_,rfl,wpAny_letOwnedTupleGo_enum heo fun h2 he2 hs2=>?_⟩
    have hs2':Heap.SameBut e h1 h2:=hs2
    have hel:e < s.heap.objs.size:=Heap.lt_size he
    have I1:Inv X pins σ (upd H s.heap.objs.size (.tup [.int (i:Nat),x])) { s with heap:=h2,toks:=tk+1 } :=
      I.turnedT (its:=[.int i tk,x']) (fun b o h1' h2' q=>hs2'.extBut b o h1' (hk1 b o h1' h2' q)) fe fi ⟨_,he⟩ ⟨_,hoi⟩ (.cons ⟨_,rfl⟩ (.cons ru .nil)) (by show 2≤sizeLine; decide) ((hs2'.2 _ (Nat.ne_of_gt hel)).trans ht1)
    refine ⟨.ref s.heap.objs.size,_,I1,rfl,⟨s.heap.objs.size,x,rfl,I.fresh,rfl,fun ys hy=>by rw [I.tuple_inj hy hq]; exact hx⟩,⟨⟨x',?_⟩,hst1.1.extBut hs2'.extBut (Ne.symm hne)⟩,fun b hb=>?_⟩
    · have e3:(((i+1:Nat)):Int)=(i:Int)+1:=by push_cast; rfl
      rw [e3]
      exact he2
    · have hb':b=e∨b=it:=by simpa using hb
      have hbl:b≠s.heap.objs.size:=by
        rcases hb' with rfl | rfl
        · exact Nat.ne_of_lt (Heap.lt_size he)
        · exact Nat.ne_of_lt (Heap.lt_size hoi)
      rw [upd_ne hbl]
      exact (hf b hb).1
  done:=by
    intro X hP hw hK hc i pins s σ H E I hf st hg
    subst hP hw hK
    obtain ⟨xs,hq,hx⟩:=hg
    obtain ⟨its,rv,p,hz⟩:=I.tuple hq
    obtain ⟨⟨old,he⟩,hit⟩:=st
    obtain ⟨f0,f1,f2,f3,f4,f5⟩:=hf it (by simp)
    have hl:=rv.length
    have pT:s.heap.IsTuple a its.toArray:=p
    exact ET.enum_endT (I.ok.hd hc) he hit pT (by simp; omega) fun h' eb=>⟨rfl,I.turned (t':=s.toks) (fun b o hb e=>eb b o hb e) f0 f1 f3 f4 f5⟩
  self:=fun A i s Q E st h=>by
    obtain ⟨⟨old,he⟩,hit⟩:=st
    exact wpAny_pyIter_enum he h
def iEnumT (K:PySem.W.Frag) (ta:TA):TI:=fun σ H R=>ta σ H fun vs H1=>∃ a,vs=[.ref a]∧(∃ xs,SqT K H1 a xs)∧R (IteT K a) H1
theorem pi_enumT {X:Cx} {elts:List Expr} {k1:Nat} {p1:Pos} {a:Expr} {ta:TA} {p pos:Pos} (hg:Gl X "enumerate") (hm:X.mg "enumerate" = none) (ha:PA X [a] ta) (hs:starEach [a] X.env=[(false,eval a X.env)]:=by rfl)
    (hb:bootBuiltins "enumerate" = some (.type "enumerate"):=by first | exact boot_enumerate | exact PySem.boot_enumerate | rfl):PI X (.Tuple elts k1 p1) (.Call (.Name "enumerate" p) [a] [] pos) (iEnumT X.K ta):=by
  intro pins s σ H R I h
  refine Call_ (ld_blt I hg hm hb (PyProof.Rows.callWith_type1 (thn (ha pos pins s σ H _ I h) fun us s1 ⟨vs,H1,I1,r1,q1⟩=>?_) hs rfl))
  obtain ⟨l,e,⟨xs,hq⟩,q⟩:=q1
  subst e
  cases r1 with
  | cons r rr =>
    cases rr
    cases r
    obtain ⟨its,rv,pl,hz⟩:=I1.tuple hq
    have pT:s1.heap.IsTuple l its.toArray:=pl
    have hll:l < s1.heap.objs.size:=by
      obtain ⟨o,ho,_⟩:=pT
      exact Heap.lt_size ho
    refine ET.call_enumT pT fun h' he hit hk=>?_
    refine wpAny_pyIter_enum he ?_
    have I2:Inv X pins σ H1 { s1 with heap:=h' }:=I1.kept (t':=s1.toks) hk
    refine ⟨s1.heap.objs.size+1,[s1.heap.objs.size+1,s1.heap.objs.size],_,_,H1,rfl,I2,turn_enumT l _ _ (Nat.succ_ne_self _) (Nat.ne_of_lt (Nat.lt_succ_of_lt hll)) (Nat.ne_of_lt hll),⟨⟨_,he⟩,hit⟩,fun b hb=>?_,q⟩
    have hb':b=s1.heap.objs.size+1∨b=s1.heap.objs.size:=by simpa using hb
    rcases hb' with rfl | rfl
    · exact I1.fpOk (Nat.le_succ _) (I1.hok.fresh (Nat.le_succ _))
    · exact I1.fpOk (Nat.le_refl _) (I1.hok.fresh (Nat.le_refl _))
theorem getItem_tuple_all {prog:Program} {w:World} {A:Around} {E:Value→Shared→Prop} {s:Shared} {t sl:Addr} {items:Array Value} {vl vu:Value} {lo hi:Option Int} {Q:Value→Shared→Prop} (ht:IsTup s.heap t items) (hs:s.heap.IsSliceOf sl vl vu .none) (pl:IsPart vl lo) (pu:IsPart vu hi)
    (hw:HT.sIx items.size 0 lo=0∧HT.sIx items.size items.size hi=items.size) (h:Q (.ref t) s):wpAny (model prog w) A (getItem (.ref t) (.ref sl)) Q E s:=by
  obtain ⟨os,hos,hcs,hds⟩:=id hs
  have hTs:s.TypeIs (.ref sl) "slice":=⟨os,hos,hcs⟩
  unfold getItem
  try with_reducible refine wpAny_holding ?_
  first | refine wpAny_bind (wpAny_pure ?_) | skip
  refine wpAny_bind (wpAny_sequenceKey ht.typeIs (by decide) ?_)
  refine wpAny_bind (wpAny_callSpecial?_slot (name:=Str.ofString "__getitem__") ht.typeIs PyProof.Rows.slot_tuple_getitem
    (wpAny_call_entry PyProof.Rows.slot_tuple_getitem ht.typeIs PyProof.Rows.entry_tuple_getitem ?_ (PyProof.Rows.args_tuple_getitem _ _)))
  show wpAny _ _ (Builtin.Tuple.tupleItemsOf (.ref t) >>= _) _ _ s
  refine wpAny_bind (PyProof.Rows.tupleItemsOf_ ht ?_)
  refine wpAny_bind (wpAny_typeOf hTs ?_)
  rw [if_pos (by decide)]
  refine wpAny_bind (HT.sliceApplied_gen hs pl pu ?_)
  have hno:(((HT.sIx items.size 0 lo:Nat):Int) == 0 && (1:Int) == 1 && (HT.sIx items.size items.size hi - HT.sIx items.size 0 lo) == items.size)=true:=by
    rw [hw.1,hw.2]
    simp
  show wpAny _ _ (if (((HT.sIx items.size 0 lo:Nat):Int) == 0 && (1:Int) == 1 && (HT.sIx items.size items.size hi - HT.sIx items.size 0 lo) == items.size)=true then _ else _) _ _ s
  rw [if_pos hno]
  refine wpAny_bind (m:=Builtin.Tuple.tupleIsExact _) (wpAny_bind (wpAny_typeOf ht.typeIs (wpAny_pure ?_)))
  rw [if_pos (by decide)]
  exact wpAny_bind (wpAny_rule (wpAny_pure ⟨_,rfl,wpAny_pure h⟩))
def rSlTw (K:PySem.W.Frag):V→Option Int→Option Int→Hp→VK→Prop:=fun x lo hi H Q=>∃ a xs,x=.ref a∧H a=some (.tup xs)∧∀ (p:Addr) (H':Hp),Same H H'→H' p=some (.tup (cutV xs lo hi))→Q (.ref p) H'
theorem sl_tupW {X:Cx}:SlR X (rSlTw X.K):=by
  intro pins s σ H x v vl vu lo hi sl Q I rx hs pl pu h
  obtain ⟨a,xs,rfl,hx,q⟩:=h
  by_cases hw:HT.sIx xs.length 0 lo=0∧HT.sIx xs.length xs.length hi=xs.length
  · cases rx
    obtain ⟨its,r,ht,hz⟩:=I.tuple (SqT.of hx)
    have hlen:its.toArray.size=xs.length:=by rw [List.size_toArray]; exact r.length.symm
    refine ⟨"tuple",_,PyProof.Rows.slot_tuple_getitem.lookup,ht.typeIs,?_⟩
    refine getItem_tuple_all ht hs pl pu (by rw [hlen]; exact hw) ⟨.ref a,H,I,rfl,q a H (Same.refl H) ?_⟩
    rw [hx]
    unfold cutV
    rw [hw.1,hw.2,List.drop_zero,Nat.sub_zero,List.take_length]
  · exact sl_tup pins s σ H _ v vl vu lo hi sl Q I rx hs pl pu ⟨a,xs,rfl,SqT.of hx,hw,fun p hp=>q p _ (same_new hp _) upd_same⟩
end L2
set_option Elab.async false
set_option linter.all false
set_option maxRecDepth 100000
set_option maxHeartbeats 4000000
namespace L2
open PySem PySem.Spec PyProof.Rows
end L2
set_option Elab.async false
set_option linter.all false
set_option maxRecDepth 100000
set_option maxHeartbeats 4000000
namespace DR
open PySem PySem.W
open Sem (wp)
def Raw (g:Heap) (d:Addr) (es:Array DictEntry) (ep:Nat):Prop:=∃ o,g.get? d=some o∧o.ExactDict∧o.data=.dict es ep
section
variable {prog:Program} {w:World} {A:Around} {E:Value→Shared→Prop} {s:Shared} {it dd:Addr} {es:Array DictEntry} {i ep:Nat}
theorem Raw.typeIs (r:Raw s.heap dd es ep):s.TypeIs (.ref dd) "dict":=by
  obtain ⟨o,eo,ec,ed⟩:=r
  exact ⟨o,eo,ec.1⟩
theorem Raw.lt {g:Heap} (r:Raw g dd es ep):dd < g.objs.size:=by
  obtain ⟨o,eo,_⟩:=r
  exact Heap.lt_size eo
theorem Raw.at {g g':Heap} (r:Raw g dd es ep) (k:∀ o,g.get? dd=some o→g'.get? dd=some o):Raw g' dd es ep:=by
  obtain ⟨o,eo,x⟩:=r
  exact ⟨o,k o eo,x⟩
end
end DR
namespace L2
open PySem PySem.Spec PyProof.Rows
def rNotInP:R2:=fun x y H Q=>∃ (b l:Addr) (us:List V) (ps:List (Str × Str)) (p:Str × Str),x=.ref b∧y=.ref l∧H l=some (.lst us)∧H b=some (.tup [.str p.1,.str p.2])∧us.length=ps.length ∧
  (∀ (i:Nat) (u:V) (q:Str × Str),us[i]?=some u→ps[i]?=some q→∃ a:Addr,u=.ref a∧H a=some (.tup [.str q.1,.str q.2]))∧Q (.bl (!decide (p∈ps))) H
theorem pair_eqAt {X:Cx} {pins:List (Addr × Obj)} {σ:St} {H:Hp} {s:Shared} {A:Around} {a b:Addr} {p q:Str × Str} (I:Inv X pins σ H s) (hu:A.units < cLine) (ha:H a=some (.tup [.str q.1,.str q.2])) (hb:H b=some (.tup [.str p.1,.str p.2])) :
    SeqAt.EqAt A s (.ref a) (.ref b) (decide (q=p)):=by
  by_cases hab:a=b
  · subst hab
    rw [ha] at hb
    have e:q=p:=by
      injection hb with hb
      injection hb with hb
      injection hb with h1 h2
      injection h1 with h1
      injection h2 with h2
      injection h2 with h2
      exact Prod.ext h1 h2
    rw [decide_eq_true e]
    exact SeqAt.EqAt.same _
  · obtain ⟨its,r1,p1,_⟩:=I.tuple (SqT.of (K:=X.K) ha)
    obtain ⟨its2,r2,p2,_⟩:=I.tuple (SqT.of (K:=X.K) hb)
    obtain ⟨u1,u2,rfl,⟨t1,rfl⟩,⟨t2,rfl⟩⟩:=vals2 r1
    obtain ⟨v1,v2,rfl,⟨t3,rfl⟩,⟨t4,rfl⟩⟩:=vals2 r2
    have key:=SeqAt.EqAt.of_refs hab (SeqAt.RcAt.tuples (A:=A) (s:=s) (e:=fun j=>if j=0 then q.1 == p.1 else q.2 == p.2) p1 p2 hu fun j h1 h2=>?_)
    · have e:((List.range (min ([.str q.1 t1,.str q.2 t2]:List Value).toArray.size ([.str p.1 t3,.str p.2 t4]:List Value).toArray.size)).all (fun j=>if j=0 then q.1 == p.1 else q.2 == p.2) && ([.str q.1 t1,.str q.2 t2]:List Value).toArray.size == ([.str p.1 t3,.str p.2 t4]:List Value).toArray.size)=decide (q=p):=by
        show ((List.range 2).all _ && (2:Nat) == 2)=_
        rw [Bool.eq_iff_iff]
        simp [List.range_succ,Prod.ext_iff]
      rw [← e]
      exact key
    · match j,h1,h2 with
      | 0,_,_=>exact SeqAt.EqAt.str_str q.1 t1 p.1 t3
      | 1,_,_=>exact SeqAt.EqAt.str_str q.2 t2 p.2 t4
      | j+2,h1,_ =>
        have h1':j+2 < 2:=h1
        omega
open Classical in
theorem op_notInP {X:Cx} (hu:X.A.units+1 < cLine):OpR X (compareOp .NotIn) rNotInP:=by
  intro pins s σ H x y v u Q I rx ry h
  obtain ⟨b,l,us,ps,p,rfl,rfl,hl,hb,hlen,hat,q⟩:=h
  cases rx
  cases ry
  obtain ⟨its,r,pl,hz⟩:=I.list (SqL.of (K:=X.K) hl)
  have hil:=r.length
  have hel:∀ w∈its,∃ (a:Addr) (c:Str × Str),w=.ref a∧H a=some (.tup [.str c.1,.str c.2])∧c∈ps:=fun w hw=>by
    obtain ⟨i,hi,rfl⟩:=List.getElem_of_mem hw
    have hui:us[i]?=some us[i]:=List.getElem?_eq_getElem (by omega)
    have hpi:ps[i]?=some ps[i]:=List.getElem?_eq_getElem (by omega)
    obtain ⟨a,e1,e2⟩:=hat i _ _ hui hpi
    obtain ⟨w',hw',rw'⟩:=r.get hui
    rw [e1] at rw'
    cases rw'
    rw [List.getElem?_eq_getElem hi] at hw'
    exact ⟨a,ps[i],Option.some.inj hw',e2,List.getElem_mem _⟩
  have tinj:∀ {c d:Str × Str} {a:Addr},H a=some (.tup [.str c.1,.str c.2])→H a=some (.tup [.str d.1,.str d.2])→c=d:=fun {c d a} h1 h2=>by
    rw [h1] at h2
    injection h2 with h2
    injection h2 with h2
    injection h2 with a1 a2
    injection a1 with a1
    injection a2 with a2
    injection a2 with a2
    exact Prod.ext a1 a2
  refine SeqAt.notIn_listAt (fun w=>decide (∃ a:Addr,w=.ref a∧H a=some (.tup [.str p.1,.str p.2]))) pl.isList (fun w hw=>?_) ⟨.bl _,H,I,rfl,?_⟩
  · obtain ⟨a,c,rfl,ha,_⟩:=hel w (by simpa using hw)
    have e:decide (∃ a':Addr,Value.ref a=.ref a'∧H a'=some (.tup [.str p.1,.str p.2]))=decide (c=p):=by
      rw [decide_eq_decide]
      constructor
      · rintro ⟨a',e1,e2⟩
        cases e1
        exact tinj ha e2
      · rintro rfl
        exact ⟨a,rfl,ha⟩
    rw [e]
    exact pair_eqAt I (by first | exact hu | (simp only [Around.in1]; omega) | omega) ha hb
  · have e:its.toArray.any (fun w=>decide (∃ a:Addr,w=.ref a∧H a=some (.tup [.str p.1,.str p.2])))=decide (p∈ps):=by
      rw [List.any_toArray,Bool.eq_iff_iff,List.any_eq_true,decide_eq_true_eq]
      constructor
      · rintro ⟨w,hw,hd⟩
        obtain ⟨a,rfl,ha⟩:=of_decide_eq_true hd
        obtain ⟨a',c,e1,e2,e3⟩:=hel _ hw
        cases e1
        rw [tinj ha e2]
        exact e3
      · intro hp
        obtain ⟨i,hi,ei⟩:=List.getElem_of_mem hp
        have hui:us[i]?=some us[i]:=List.getElem?_eq_getElem (by omega)
        obtain ⟨a,e1,e2⟩:=hat i _ _ hui (List.getElem?_eq_getElem hi)
        obtain ⟨w',hw',rw'⟩:=r.get hui
        rw [e1] at rw'
        cases rw'
        refine ⟨.ref a,List.mem_of_getElem? hw',decide_eq_true ⟨a,rfl,?_⟩⟩
        rw [← ei]
        exact e2
    rw [e]
    exact q
end L2
set_option Elab.async false
set_option linter.all false
set_option maxRecDepth 100000
set_option maxHeartbeats 4000000
namespace SX
open PySem PySem.Spec PyProof.Rows
def have_ {K:Type} [DecidableEq K] (val:Nat→K) (i:Nat) (k:K):Bool:=((List.range i).map val).any fun y=>decide (y=k)
theorem have_succ {K:Type} [DecidableEq K] (val:Nat→K) (i:Nat) (k:K):have_ val (i+1) k=(have_ val i k || decide (k=val i)):=by
  unfold have_
  rw [List.range_succ,List.map_append,List.any_append]
  congr 1
  simp [eq_comm]
def many {K:Type} [DecidableEq K] (val:Nat→K):Nat→Nat
  | 0=>0
  | i+1=>if have_ val i (val i)=true then many val i else many val i+1
theorem many_le {K:Type} [DecidableEq K] (val:Nat→K):∀ i,many val i≤i
  | 0=>Nat.le_refl _
  | i+1=>by
    have:=many_le val i
    unfold many
    split <;> omega
section
variable {prog:Program} {w:World} {A:Around} {R:Result→Shared→Prop} {I:Addr} {fp wr:List Addr} {G:Array GenState→Array GenState→Prop} {n:Nat} {P:Nat→Value→Prop} {St:Nat→Shared→Prop} {K:Type} [DecidableEq K] {knd:KeyKind prog w K}
theorem fill (W:WalksS prog w A.in1 I fp wr G n P St) (S:Addr) (nf:S ∉ fp) (val:Nat→K) (hv:∀ i v,P i v→knd.is (val i) v=true∧v.scannable=true) (room:n+1 < scanBound) :
    ∀ (k i:Nat) (s:Shared),n - i=k→i≤n→St i s→s.heap.SetOf knd S (have_ val i) (many val i)→(∀ s',Moved (S :: wr) G s s'→s'.heap.SetOf knd S (have_ val n) (many val n)→R (.ok (.ret .none)) s') →
      codeAny (model prog w) A (.builtin "set.update.loop" ⟨[.ref S,.ref I],[]⟩) R s:=by
  have nw:S ∉ wr:=fun z=>nf (W.sub _ z)
  have sub:∀ b∈wr,b∈S :: wr:=fun b z=>List.mem_cons_of_mem _ z
  intro k
  induction k with
  | zero =>
    intro i s ek le st hS q
    have e:i=n:=by omega
    subst e
    refine codeAny_builtin F.entry_set_update_loop ?_
    rw [Around.under_plainId F.plain_set_update_loop _]
    show wpAny _ A.in1 (pyNext (.ref I) >>= _) _ _ _
    refine wpAny_bind (W.done s _ _ st fun s' mv=>?_)
    show wpAny _ A.in1 (ret Value.none) _ _ _
    refine wpAny_pure (q s' (mv.mono sub) ?_)
    obtain ⟨o,es,ep,t,eo,rest⟩:=hS
    exact ⟨o,es,ep,t,mv.heap S _ nw eo,rest⟩
  | succ k ih =>
    intro i s ek le st hS q
    have lt:i < n:=by omega
    refine codeAny_builtin F.entry_set_update_loop ?_
    rw [Around.under_plainId F.plain_set_update_loop _]
    show wpAny _ A.in1 (pyNext (.ref I) >>= _) _ _ _
    refine wpAny_bind (W.item i s _ _ lt st fun v s' hP st' mv=>?_)
    obtain ⟨hk,hsc⟩:=hv i v hP
    have hS':s'.heap.SetOf knd S (have_ val i) (many val i):=by
      obtain ⟨o,es,ep,tb,eo,rest⟩:=hS
      exact ⟨o,es,ep,tb,mv.heap S _ nw eo,rest⟩
    show wpAny _ A.in1 (holding [v] (setAdd S v) >>= _) _ _ _
    refine wpAny_bind (wpAny_holding ?_)
    unfold setAdd
    refine wpAny_holding (wpAny_bind (knd.pyHash hk ?_))
    refine wpAny_setAddHashed_of (knd:=knd) (s:={ s' with toks:=s'.toks+1 }) hk hsc hS' (Nat.lt_of_le_of_lt (Nat.succ_le_succ (many_le val i)) (by omega)) fun g sb hS2=>?_
    have hSi:g.SetOf knd S (have_ val (i+1)) (many val (i+1)):=by
      have e:(fun k'=>have_ val i k' || decide (k'=val i))=have_ val (i+1):=funext fun k'=>(have_succ val i k').symm
      rw [← e]
      exact hS2
    refine wpAny_pure ⟨plainId_quiet F.plain_set_update_loop _,ih (i+1) _ (by omega) lt (W.frame _ s' _ _ st' (Nat.le_succ _) fun b hb o e=>?_) hSi fun s'' mv2 hS''=>?_⟩
    · rw [sb.2 b fun z=>nf (z ▸ hb)]
      exact e
    · refine q s'' (Moved.trans W.gtrans ((mv.mono sub).then_heap (Nat.le_succ _) fun b o hb e=>?_) mv2) hS''
      rw [sb.2 b fun z=>hb (by rw [z]; exact List.mem_cons_self)]
      exact e
end
set_option maxHeartbeats 6400000 in
theorem call_set_list {prog:Program} {w:World} {A:Around} {E:Value→Shared→Prop} {s:Shared} {K:Type} [DecidableEq K] {knd:KeyKind prog w K} {l:Addr} {items:Array Value} {val:Nat→K} {Q:Value→Shared→Prop}
    (hd:A.handled=none) (tl:s.heap.IsList l items) (hv:∀ i v,items[i]?=some v→knd.is (val i) v=true∧v.scannable=true) (room:items.size+1 < scanBound)
    (q:∀ (g:Heap) (tk:Nat),g.SetOf knd s.heap.objs.size (have_ val items.size) (many val items.size)→(∀ b o,b < s.heap.objs.size→s.heap.get? b=some o→g.get? b=some o)→Q (.ref s.heap.objs.size) { s with heap:=g,toks:=tk }) :
    wpAny (model prog w) A (call (.type "set") [.ref l]) Q E s:=by
  obtain ⟨c,tl',hmro⟩:=PySem.F.called_set.mro
  have hmade:=PySem.F.called_set.made
  have hsub:=PySem.F.called_set.sub
  refine wpAny_call (codeAny_of_tree ?_)
  show wpAny _ _ (callAny (.type "set") _) _ _ _
  refine wpAny_pure ⟨Code.quiet_builtin _ (by decide +kernel),codeAny_builtin PySem.F.entry_type_call ?_⟩
  rw [Around.under_plain (weight_type_call_type "set" [.ref l] []) rfl]
  have h1:=PySem.F.called_set.notType
  have h2:=PySem.F.called_set.canCreate
  have hct:=PySem.F.typeCall_set_1 (.ref l)
  repeat (any_goals (first | assumption | wp_step))
  refine codeAny_mono (code_set_new_1 (.ref l) (E:=E) (Q₁:=fun ob s₁=>∃ led:Bool,ob=.ref s.heap.objs.size∧s₁={ s with heap:=s.heap.push { cls:=.type "set",dict:=none,data:=.set #[] 0 (.fresh 0 0 led) } }) fun led=>⟨led,rfl,rfl⟩) fun r s₁ hr=>?_
  cases r with
  | error e=>exact hr
  | ok fl =>
    cases fl with
    | ret ob =>
      obtain ⟨led,rfl,rfl⟩:=hr
      have eS:(s.heap.push { cls:=.type "set",dict:=none,data:=.set #[] 0 (.fresh 0 0 led) }).get? s.heap.objs.size=some { cls:=.type "set",dict:=none,data:=.set #[] 0 (.fresh 0 0 led) }:=Heap.get?_push_size _ rfl
      have tS:Shared.TypeIs { s with heap:=s.heap.push { cls:=.type "set",dict:=none,data:=.set #[] 0 (.fresh 0 0 led) } } (.ref s.heap.objs.size) "set":=⟨_,eS,rfl⟩
      have hli:=PySem.F.called_set.init.lookup
      have hbi:=PySem.F.called_set.init.bind (.ref s.heap.objs.size)
      repeat (any_goals (first | assumption | wp_step))
      refine codeAny_mono (codeAny_call_builtin (R:=wants (fun r s₂=>r=.none∧∃ g tk,s₂={ s with heap:=g,toks:=tk }∧g.SetOf knd s.heap.objs.size (have_ val items.size) (many val items.size) ∧
          (∀ b o,b < s.heap.objs.size→s.heap.get? b=some o→g.get? b=some o)) E) PySem.F.called_set.init.plain PySem.F.entry_set_init (check_set_init_1 tS ?_)) fun r₂ s₂ hr₂=>?_
      · obtain ⟨⟨oc,od,odt,osl⟩,eol,ecl,nl,edl⟩:=tl
        simp only at ecl edl
        subst ecl
        subst edl
        have eol':(s.heap.push { cls:=.type "set",dict:=none,data:=.set #[] 0 (.fresh 0 0 led) }).get? l=some { cls:=.type "list",dict:=od,data:=.seq items nl,slots:=osl }:=Heap.get?_push_of_some _ eol
        have hsls:=PySem.F.sub_list_set
        have hslf:=PySem.F.sub_list_frozenset
        have hne:(Value.type "list" == Value.type "dict")=false:=by decide
        have tl1:(s.heap.push { cls:=.type "set",dict:=none,data:=.set #[] 0 (.fresh 0 0 led) }).IsList l items:=⟨_,eol',rfl,nl,rfl⟩
        unfold Builtin.«set.__init__» noKeywords Builtin.Frozenset.updateFrom
        generalize hPI:pyIter=PI
        wp_walk
        subst hPI
        refine wpAny_pyIter_list tl1 (wpAny_bind (wpAny_runValue ?_))
        have lS:l < s.heap.objs.size:=Heap.lt_size eol
        have hd3:A.in1.in1.in1.handled=none:=by simp [hd]
        have neI:l≠(s.heap.push { cls:=.type "set",dict:=none,data:=.set #[] 0 (.fresh 0 0 led) }).objs.size:=by
          rw [Heap.size_push]
          exact Nat.ne_of_lt (Nat.lt_succ_of_lt lS)
        have nf:s.heap.objs.size ∉ [(s.heap.push { cls:=.type "set",dict:=none,data:=.set #[] 0 (.fresh 0 0 led) }).objs.size,l]:=by
          rw [Heap.size_push]
          simp only [List.mem_cons,List.mem_singleton,List.not_mem_nil,or_false,not_or]
          exact ⟨Nat.ne_of_lt (Nat.lt_succ_self _),Nat.ne_of_gt lS⟩
        refine fill ((Walks.list hd3 _ l neI items).toS) s.heap.objs.size nf val hv room (items.size - 0) 0 _ (by omega) (Nat.zero_le _) ⟨⟨_,Heap.get?_push_size _ rfl,rfl,rfl⟩,tl1.push _⟩ ?hS0 ?hR
        case hS0 =>
          have eg:((s.heap.push { cls:=.type "set",dict:=none,data:=.set #[] 0 (.fresh 0 0 led) }).push { cls:=.type "list_iterator",data:=.fields #[.ref l,.int 0 0] }).get? s.heap.objs.size=some { cls:=.type "set",dict:=none,data:=.set #[] 0 (.fresh 0 0 led) }:=Heap.get?_push_of_some _ eS
          exact (setObjOf_fresh (knd:=knd) led).setOf eg (by unfold scanBound; omega)
        case hR =>
          intro s' mv hS'
          obtain ⟨g,gg,d',tk',os'⟩:=s'
          have e1:gg=s.gens:=mv.gens
          have e2:d'=s.drawn:=mv.drawn
          have e3:os'=s.os:=mv.os
          subst e1
          subst e2
          subst e3
          show wpAny _ _ _ _ _ _
          refine wpAny_pure ?_
          show wpAny _ _ (ret Value.none) _ _ _
          refine wpAny_pure ⟨rfl,g,tk',rfl,hS',fun b o hb e=>?_⟩
          have hb2:b≠(s.heap.push { cls:=.type "set",dict:=none,data:=.set #[] 0 (.fresh 0 0 led) }).objs.size:=by
            rw [Heap.size_push]
            exact Nat.ne_of_lt (Nat.lt_succ_of_lt hb)
          exact mv.heap b o (by simp only [List.mem_cons,List.mem_singleton,List.not_mem_nil,or_false,not_or]; exact ⟨Nat.ne_of_lt hb,hb2⟩) (Heap.get?_push_of_some _ (Heap.get?_push_of_some _ e))
      · cases r₂ with
        | error e=>exact hr₂
        | ok fl₂ =>
          cases fl₂ with
          | ret r =>
            obtain ⟨rfl,g,tk,rfl,hS',hk'⟩:=hr₂
            repeat (any_goals (first | assumption | wp_step))
            exact q _ _ hS' hk'
          | _=>exact hr₂.elim
    | _=>exact hr.elim
end SX
set_option Elab.async false
set_option linter.all false
set_option maxRecDepth 100000
set_option maxHeartbeats 4000000
namespace L2
open PySem PySem.Spec PyProof.Rows
end L2
set_option Elab.async false
set_option linter.all false
set_option maxRecDepth 100000
set_option maxHeartbeats 4000000
namespace L2
open PySem PySem.Spec PyProof.Rows
end L2
set_option Elab.async false
set_option linter.all false
set_option maxRecDepth 100000
set_option maxHeartbeats 4000000
namespace ZZ
open PySem
open Sem (wp)
section
variable {prog:Program} {w:World} {A:Around} {E:Value→Shared→Prop} {s:Shared}
end
end ZZ
namespace L2
open PySem PySem.Spec PyProof.Rows
end L2
set_option Elab.async false
set_option linter.all false
set_option maxRecDepth 100000
set_option maxHeartbeats 4000000
namespace L2
open PySem PySem.Spec PyProof.Rows
end L2
set_option Elab.async false
set_option linter.all false
set_option maxRecDepth 100000
set_option maxHeartbeats 4000000
namespace L2
open PySem PySem.Spec PyProof.Rows
theorem ps_setC0 {X:Cx} {ix:Nat} {xn:Str} {pos' spos:Pos} {elt tg iter:Expr} {ifs:List Expr} {scope:Scope} {pos:Pos} {wi:TI} {g:TG} {tc:TT} {te:TE} (hN:X.N.Nodup) (hix:X.N[ix]?=some xn) (hxl:X.env.scope.names.lookup xn=some .local) (N:List Str) (lift:St→St) (hc:X.calm=true) (hi:PI X tg iter wi)
    (hkind:scope.kind=.function) (hcell:∀ y∈scope.names,y.2≠.cell) (hfree:∀ y∈scope.names,y.2=.free→X.env.kindOf y.1=some .cell∨X.env.kindOf y.1=some .free)
    (hnames:∀ y∈scope.names,y.2=.local→scope.names.lookup y.1=some .local)
    (hlen:∀ σ:St,σ.length=X.N.length→(lift σ).length=N.length)
    (hσ:∀ (σ:St) (i:Nat) (x:Str) (v:V),σ.length=X.N.length→N[i]?=some x→(lift σ)[i]?=some (some v)→scope.names.lookup x=some .free∧∃ j:Nat,X.N[j]?=some x∧σ[j]?=some (some v))
    (hg:∀ cl C s H ex pn E,PG (blockCx X scope N cl C s H ex pn E) tg g) (ht:∀ cl C s H ex pn E,PIfs (blockCx X scope N cl C s H ex pn E) ifs tc) (he:∀ cl C s H ex pn E,PE (blockCx X scope N cl C s H ex pn E) elt te)
    (hs:∀ x,foldedSetIterable iter X.env x=pure x) (hsw:swapsWith (.ListComp elt [⟨tg,iter,ifs,0⟩] scope pos) (some (.Name xn pos')) spos.line X.env=pure true) :
    PS X (.Assign [.Name xn pos'] (.ListComp elt [⟨tg,iter,ifs,0⟩] scope pos) spos) (tAsg (tComp wi g tc te lift) (gName ix)):=by
  intro pins s σ H D I h
  rw [exec_Assign_Name_used _ _ _ _ hsw]
  refine wpAny_bind (wpAny_standAt (wpAny_bind ?_))
  suffices key:wpAny (model X.prog X.w) X.A (comprehension (.ListComp elt [⟨tg,iter,ifs,0⟩] scope pos) scope X.env (firstIterPos [⟨tg,iter,ifs,0⟩] pos) (newList []) (firstAsync [⟨tg,iter,ifs,0⟩]) (firstIter [⟨tg,iter,ifs,0⟩] X.env) (some (assign (.Name xn pos') X.env))) (fun _ s''=>∃ σ' H',Inv X pins σ' H' s''∧D.nx σ' H') X.xe s by
    show wpAny _ _ (comprehension _ _ _ _ _ _ _ _ >>= fun _=>pure ()) _ _ _
    exact wpAny_bind (thn key fun _ s' q=>wpAny_pure (wpAny_pure q))
  obtain ⟨cl,hclos,hcl1,hcl2⟩:=closure_of (scope:=scope) (env:=X.env) fun y hy hf=>I.ok.has y.1 (hfree y hy hf)
  refine wpAny_comprehension_free (use:=some (assign (.Name xn pos') X.env)) rfl hs hclos hkind hnames (thn (hi pins s σ H _ I h) fun v s1 h1=>thn h1 fun itv s2 h2=>?_)
  obtain ⟨it,fp,tn,J,H2,e,I2,T,st2,f2,q⟩:=h2
  subst e
  refine wpAny_newObj_type (wpAny_newFunctionEnv hcell (by intro y hy; simp at hy) (fun h₁ hns₁ hsb₁=>?_) hkind)
  have I3:Inv X pins σ (upd H2 s2.heap.objs.size (.lst [])) { s2 with heap:=s2.heap.push { cls:=.type "list",data:=.seq ([]:List Value).toArray } }:=I2.lnew (its:=[]) (t':=s2.toks) .nil (Nat.zero_le _)
  have fr:H2 s2.heap.objs.size=none:=I2.fresh
  have hold:∀ b o,(s2.heap.push { cls:=.type "list",data:=.seq ([]:List Value).toArray }).get? b=some o→h₁.get? b=some o:=fun b o e=>hsb₁.extBut b o (Nat.ne_of_lt (Heap.lt_size e)) (Heap.get?_push_of_some _ e)
  have f3:∀ b∈fp,FpOk X pins (upd H2 s2.heap.objs.size (.lst [])) b:=fun b hb=>by
    obtain ⟨o,eo,_⟩:=T.obj 0 _ st2 b hb
    exact ⟨by rw [upd_ne (Nat.ne_of_lt (Heap.lt_size eo))]; exact (f2 b hb).1,(f2 b hb).2⟩
  have fo:∀ b∈fp,∃ o,(s2.heap.push { cls:=.type "list",data:=.seq ([]:List Value).toArray }).get? b=some o:=fun b hb=>by
    obtain ⟨o,eo,_⟩:=T.obj 0 _ st2 b hb
    exact ⟨o,Heap.get?_push_of_some _ eo⟩
  generalize hP:s2.heap.push { cls:=.type "list",data:=.seq ([]:List Value).toArray }=P at *
  obtain ⟨W,⟨m0,w0⟩,turn⟩:=q s2.heap.objs.size fr
  generalize hL:s2.heap.objs.size=L at *
  let R:Result→Shared→Prop:=compPost (model X.prog X.w) X.A X.xe (some (assign (.Name xn pos') X.env)) (fun _ s''=>∃ σ' H',Inv X pins σ' H' s''∧D.nx σ' H') (.ref L) P.objs.size
  let Y:Cx:=blockCx X scope N cl P.objs.size { s2 with heap:=P } (upd H2 L (.lst [])) fp (X.pn++pins) (notedBy (model X.prog X.w) X.A (compEnvC scope cl P.objs.size X.env) fun e s'=>R (.error e) s')
  have IY:Inv Y [] (lift σ) (upd H2 L (.lst [])) { s2 with heap:=h₁,toks:=s2.toks+([]:List (Str × Value)).length } :=
    block_ok (s:={ s2 with heap:=P }) I3 hkind hcell hfree hcl1 hcl2 f3 fo (hlen σ I.len) (fun i x v=>hσ σ i x v I.len) hns₁ hold
  have stY:tn 0 h₁:=T.keep _ _ _ st2 fun b hb o e=>hold b o (by rw [← hP]; exact Heap.get?_push_of_some _ e)
  have fC:∀ b∈fp,b≠P.objs.size∧(b∈fp):=fun b hb=>by
    obtain ⟨o,eo⟩:=fo b hb
    exact ⟨Nat.ne_of_lt (Heap.lt_size eo),hb⟩
  have fpY:∀ {H':Hp},(∀ b∈fp,H' b=none)→∀ b∈fp,FpOk Y [] H' b:=fun {H'} hn b hb=>by
    refine ⟨hn b hb,(fC b hb).1,fun z=>?_,.inl hb,fun x c ex=>(f3 b hb).2.2.2.2.1 x c (hcl2 _ _ ex),fun p hp=>?_⟩
    · rcases List.mem_cons.mp (I3.stkSub b z) with y | y
      · exact (f3 b hb).2.1 y
      · exact (f3 b hb).2.2.1 y
    · have hp':p∈(X.pn++pins)++[]:=hp
      rw [List.append_nil] at hp'
      exact (f3 b hb).2.2.2.2.2 p hp'
  have loop:∀ s4:Shared,s4={ s2 with heap:=h₁,toks:=s2.toks+([]:List (Str × Value)).length } →
      codeAny (model X.prog X.w) X.A (.compLoop (.ListComp elt [⟨tg,iter,ifs,0⟩] scope pos) 0 (.ref it) (.ref L) (compEnvC scope cl P.objs.size X.env)) R s4:=by
    rintro s4 rfl
    refine codeAny_compLoop_any (fun n s'=>∃ i σ' H',Inv Y [] σ' H' s'∧tn i s'.heap∧(∀ b∈fp,H' b=none)∧W i n σ' H') ?_ m0 ⟨0,_,_,IY,stY,fun b hb=>(f3 b hb).1,w0⟩
    rintro n s5 ⟨i,σ5,H5,I5,st5,fr5,w5⟩
    rcases turn i n σ5 H5 w5 with ⟨stop,qn⟩ | ⟨go,Nx,hNx,step⟩
    · refine thn (T.done Y rfl rfl rfl hc i [] s5 σ5 H5 Y.xe I5 (fpY fr5) st5 stop) fun r s6 ⟨hr,I6⟩=>?_
      subst hr
      show R (.ok .next) s6
      obtain ⟨m6,hn6,_⟩:=id I6.loc
      have IX:Inv X pins σ H5 s6:=I3.call' (s':=s6) (ch:=fp) I6.os I6.base I6.hok I6.bare fun b hb=>⟨(f3 b hb).2.2.2.1,(f3 b hb).2.1,(f3 b hb).2.2.2.2.1,(f3 b hb).2.2.2.2.2⟩
      have nC:∀ x c,X.env.cells.lookup x=some c→c≠P.objs.size:=fun x c ec z=>by
        obtain ⟨v0,qv⟩:=I3.cell x c ec
        exact absurd qv.lt (by rw [z]; exact Nat.lt_irrefl _)
      have nP:∀ p∈X.pn++pins,p.1≠P.objs.size:=fun p hp z=>by
        have z0:=Heap.lt_size (I3.pin p hp).1
        exact absurd z0 (by rw [z]; exact Nat.lt_irrefl _)
      show wpAny _ _ (assign (.Name xn pos') X.env (.ref L)) _ _ _
      refine wpAny_assign_Name (store_ok2 IX hN hix (.inl hxl) (v:=.ref L) rfl (fun s7 I7 hsb=>?_) (.inr hxl))
      obtain ⟨a7,sb7,ha7⟩:=hsb
      have na7:P.objs.size≠a7:=by
        rcases ha7 with z | z
        · rw [z]
          exact Nat.ne_of_gt I3.lt
        · exact (nC _ _ z).symm
      refine ⟨m6,hn6.at' fun o e=>(sb7.2 _ na7).trans e,fun h' sb=>⟨_,H5,I7.turned (t':=s7.toks) (it:=P.objs.size) (fun b o hb e=>(sb.2 b hb).trans e) I6.free (Nat.ne_of_gt I3.lt) (.inr I3.sz) nC nP,qn⟩⟩
    · refine thn (T.item Y rfl rfl rfl hc i [] s5 σ5 H5 Y.xe I5 (fpY fr5) st5 go) fun r s6 ⟨u,hr,h6⟩=>?_
      subst hr
      refine thn h6 fun _ s7 ⟨x,H7,I7,r7,y7,st7,fr7⟩=>?_
      have I7':=I7.pinned (fpY fr7) (T.obj _ _ st7)
      refine thn (hg _ _ _ _ _ _ _ _ s7 σ5 H7 x u _ I7' r7 (step x H7 y7)) fun _ s8 ⟨σ8,H8,I8,q8⟩=>?_
      refine thn (ht _ _ _ _ _ _ _ _ s8 σ8 H8 _ I8 q8) fun ok s9 ⟨H9,I9,q9⟩=>?_
      have again:∀ {sx:Shared} {Hx:Hp},Inv Y ([]++pinsAt fp s7.heap) σ8 Hx sx→Nx σ8 Hx→∃ m,m < n∧∃ i σ' H',Inv Y [] σ' H' sx∧tn i sx.heap∧(∀ b∈fp,H' b=none)∧W i m σ' H':=fun {sx Hx} Ix nx=>by
        obtain ⟨m',hm,wx⟩:=hNx σ8 Hx nx
        refine ⟨m',hm,i+1,σ8,Hx,Ix.unpinned,T.keep _ _ _ st7 fun b hb o e=>(Ix.pin (b,o) (List.mem_append_right _ (List.mem_append_right _ (mem_pinsAt hb e)))).1,fun b hb=>?_,wx⟩
        obtain ⟨o,e,d⟩:=T.obj _ _ st7 b hb
        exact (Ix.pin (b,o) (List.mem_append_right _ (List.mem_append_right _ (mem_pinsAt hb e)))).2.1
      cases ok with
      | false =>
        rw [if_neg Bool.false_ne_true] at q9 ⊢
        exact again I9 q9
      | true =>
        rw [if_pos rfl] at q9 ⊢
        refine thn (he _ _ _ _ _ _ _ _ s9 σ8 H9 _ I9 q9) fun y s10 ⟨v10,H10,I10,r10,ys,hys,hz,q10⟩=>?_
        refine thn (mt_append (X:=Y) _ s10 σ8 H10 (.ref L) [v10] (.ref L) [y] (fun _ H'=>Nx σ8 H') I10 rfl (.cons r10 .nil) ⟨L,ys,v10,rfl,rfl,hys,hz,q10⟩) fun _ s11 ⟨_,H11,I11,_,q11⟩=>?_
        exact again I11 q11
  exact codeAny_compStart_list (loop _ rfl) (T.self X.A 0 _ _ _ stY (loop _ rfl))
theorem ps_setC {X:Cx} {ix:Nat} {xn:Str} {pos' spos:Pos} {elt tg iter:Expr} {ifs:List Expr} {scope:Scope} {pos:Pos} {wi:TI} {g:TG} {tc:TT} {te:TE} (hN:X.N.Nodup) (hix:X.N[ix]?=some xn) (hxl:X.env.scope.names.lookup xn=some .local) (XN:List Str) (sc:Scope) (N:List Str) (js:List (Option Nat)) (hXN:X.N=XN) (hsc:X.env.scope=sc) (hc:X.calm=true) (hi:PI X tg iter wi)
    (hkind:scope.kind=.function) (hchk:chkLift N js XN scope.names=true) (hcell:∀ y∈scope.names,y.2≠.cell) (hfree:∀ y∈scope.names,y.2=.free→sc.names.lookup y.1=some .cell∨sc.names.lookup y.1=some .free)
    (hnames:∀ y∈scope.names,y.2=.local→scope.names.lookup y.1=some .local)
    (hg:∀ cl C s H ex pn E,PG (blockCx X scope N cl C s H ex pn E) tg g) (ht:∀ cl C s H ex pn E,PIfs (blockCx X scope N cl C s H ex pn E) ifs tc) (he:∀ cl C s H ex pn E,PE (blockCx X scope N cl C s H ex pn E) elt te)
    (hs:∀ x,foldedSetIterable iter X.env x=pure x:=by intro _; rfl) (hsw:swapsWith (.ListComp elt [⟨tg,iter,ifs,0⟩] scope pos) (some (.Name xn pos')) spos.line X.env=pure true:=by rfl) :
    PS X (.Assign [.Name xn pos'] (.ListComp elt [⟨tg,iter,ifs,0⟩] scope pos) spos) (tAsg (tComp wi g tc te (liftBy js)) (gName ix)):=by
  subst hXN
  subst hsc
  exact ps_setC0 hN hix hxl N (liftBy js) hc hi hkind hcell hfree hnames (fun σ _=>chk_len hchk σ) (fun σ i x v _ h1 h2=>chk_at hchk σ i x v h1 h2) hg ht he hs hsw
end L2
set_option Elab.async false
set_option linter.all false
set_option maxRecDepth 100000
set_option maxHeartbeats 1000000
namespace SO
open PySem PySem.W PyProof.Rows
variable {O:KeyOrd} {key:Nat→O.α} {N:Nat}
def KN (key:Nat→O.α) (p:Array Nat) (i:Nat):O.α:=key (p.getD i 0)
def SortedN (key:Nat→O.α) (p:Array Nat) (k:Nat):Prop:=∀ i j,i≤j→j < k→O.kle (KN key p i) (KN key p j)
def FallN (key:Nat→O.α) (p:Array Nat) (k:Nat):Prop:=∀ i j,i≤j→j < k→O.kle (KN key p j) (KN key p i)
def InN (N:Nat) (p:Array Nat):Prop:=p.toList.Perm (List.range N)
theorem InN.size {p:Array Nat} (h:InN N p):p.size=N:=by simpa using h.length_eq
theorem InN.lt {p:Array Nat} (h:InN N p) {i:Nat} (hi:i < N):p.getD i 0 < N:=by
  have hs:i < p.size:=by rw [h.size]; exact hi
  have e:p.getD i 0=p[i]:=by simp [Array.getD,hs]
  rw [e]
  exact List.mem_range.mp (h.mem_iff.mp (by simp))
theorem InN.of {p q:Array Nat} (h:InN N p) (g:q.Perm p):InN N q:=(Array.perm_iff_toList_perm.mp g).trans h
theorem KN_congr {p q:Array Nat} {i j:Nat} (h:p[i]?=q[j]?):KN key p i=KN key q j:=by
  unfold KN
  rw [Array.getD_eq_getD_getElem?,Array.getD_eq_getD_getElem?,h]
theorem KN_bubble {p:Array Nat} {src d:Nat} (hs:src < p.size) (hd:d≤src) (k:Nat) :
    KN key (bubble p src d) k=if k=src - d then KN key p src else if src - d < k∧k≤src then KN key p (k - 1) else KN key p k:=by
  have e:=getElem?_bubble hs d hd k
  by_cases h1:k=src - d
  · rw [if_pos h1] at e ⊢; exact KN_congr e
  · rw [if_neg h1] at e ⊢
    by_cases h2:src - d < k∧k≤src
    · rw [if_pos h2] at e ⊢; exact KN_congr e
    · rw [if_neg h2] at e ⊢; exact KN_congr e
theorem KN_rev {p:Array Nat} {i j:Nat} (hj:j≤p.size) (k:Nat):KN key (kas_rev p i j) k=if i≤k∧k < j then KN key p (i+j - 1 - k) else KN key p k:=by
  have e:=getElem?_mirror_all (i:=i) hj k
  unfold kas_rev
  by_cases h1:i≤k∧k < j
  · rw [if_pos h1] at e ⊢; exact KN_congr e
  · rw [if_neg h1] at e ⊢; exact KN_congr e
theorem KN_rev_equal {p:Array Nat} {i j:Nat} (hj:j≤p.size) (heq:∀ k,i≤k→k < j→KN key p k=KN key p (j - 1)) (k:Nat):KN key (kas_rev p i j) k=KN key p k:=by
  rw [KN_rev hj]
  split
  · rw [heq _ (by omega) (by omega),heq k (by omega) (by omega)]
  · rfl
theorem InN.rev {p:Array Nat} (h:InN N p) (i j:Nat):InN N (kas_rev p i j):=h.of (mirror_perm _ _ _ _)
section
variable {cmp:Nat→Nat→(Bool→Shared→Prop)→Shared→Prop} {s:Shared}
def Cmp (key:Nat→O.α) (N:Nat) (cmp:Nat→Nat→(Bool→Shared→Prop)→Shared→Prop) (s:Shared):Prop :=
  ∀ (i j:Nat) (C:Bool→Shared→Prop),i < N→j < N→C (O.blt (key i) (key j)) s→cmp i j C s
theorem ask {α:Type} {p:Array Nat} {i j:Nat} {k:Bool→KasT α} {G:α→Shared→Prop} (hc:Cmp key N cmp s) (hp:InN N p) (hi:i < N) (hj:j < N)
    (h:(k (O.blt (KN key p i) (KN key p j))).kasWp cmp G s):(KasT.ask (p.getD i 0) (p.getD j 0) k).kasWp cmp G s :=
  hc _ _ _ (hp.lt hi) (hp.lt hj) h
theorem asc {p:Array Nat} {G:Nat→Shared→Prop} {nrem:Nat} (hc:Cmp key N cmp s) (hp:InN N p) (hN:nrem≤N):∀ (f n:Nat),1≤n→n+f=nrem→SortedN key p n →
    (∀ m,n≤m→m≤nrem→SortedN key p m→(m=nrem∨O.klt (KN key p m) (KN key p (m - 1)))→G m s)→(kas_asc p f n).kasWp cmp G s
  | 0,n,h1,hf,hs,h=>h n (Nat.le_refl _) (by omega) hs (.inl (by omega))
  | f+1,n,h1,hf,hs,h=>by
    unfold kas_asc
    refine ask hc hp (by omega) (by omega) ?_
    cases hl:O.blt (KN key p n) (KN key p (n - 1)) with
    | true =>
      rw [if_pos rfl]
      exact h n (Nat.le_refl _) (by omega) hs (.inr hl)
    | false =>
      rw [if_neg (by simp)]
      refine asc hc hp hN f (n+1) (by omega) (by omega) (fun i j hij hj=>?_) fun m a b c d=>h m (by omega) b c d
      by_cases hjx:j < n
      · exact hs i j hij hjx
      · have hj':j=n:=by omega
        subst hj'
        by_cases hi':i=j
        · subst hi'; exact KeyOrd.kle_refl _
        · exact KeyOrd.kle_trans (hs i (j - 1) (by omega) (by omega)) hl
theorem desc {G:Array Nat × Nat × Nat→Shared→Prop} {nrem:Nat} (hc:Cmp key N cmp s) (hN:nrem≤N):∀ (f:Nat) (p:Array Nat) (n q:Nat),InN N p→1≤n→n+f=nrem→FallN key p n→q+1≤n →
    (∀ i,n - (q+1)≤i→i < n→KN key p i=KN key p (n - 1)) →
    (∀ p m q,InN N p→n≤m→m≤nrem→FallN key p m→q+1≤m→(∀ i,m - (q+1)≤i→i < m→KN key p i=KN key p (m - 1))→G (p,m,q) s)→(kas_desc f p n q).kasWp cmp G s
  | 0,p,n,q,hp,h1,hf,hs,hq,he,h=>h p n q hp (Nat.le_refl _) (by omega) hs hq he
  | f+1,p,n,q,hp,h1,hf,hs,hq,he,h=>by
    unfold kas_desc
    have hsz:n≤p.size:=by rw [hp.size]; omega
    refine ask hc hp (by omega) (by omega) ?_
    cases hl:O.blt (KN key p n) (KN key p (n - 1)) with
    | true =>
      rw [if_pos rfl]
      have step1:∀ xs:Array Nat,(∀ k,KN key xs k=KN key p k)→FallN key xs (n+1):=by
        intro xs hk i j hij hj
        rw [hk,hk]
        by_cases hjx:j < n
        · exact hs i j hij hjx
        · have hj':j=n:=by omega
          subst hj'
          by_cases hi':i=j
          · subst hi'; exact KeyOrd.kle_refl _
          · exact KeyOrd.kle_trans (KeyOrd.kle_of_klt hl) (hs i (j - 1) (by omega) (by omega))
      by_cases hneq:q > 0
      · rw [if_pos hneq]
        exact desc hc hN f _ (n+1) 0 (hp.rev _ _) (by omega) (by omega) (step1 _ (KN_rev_equal hsz he)) (by omega) (fun i a b=>by congr 1; omega) fun p m q x a b c d e=>h p m q x (by omega) b c d e
      · rw [if_neg hneq]
        exact desc hc hN f _ (n+1) 0 hp (by omega) (by omega) (step1 _ fun _=>rfl) (by omega) (fun i a b=>by congr 1; omega) fun p m q x a b c d e=>h p m q x (by omega) b c d e
    | false =>
      rw [if_neg (by simp)]
      refine ask hc hp (by omega) (by omega) ?_
      cases hg:O.blt (KN key p (n - 1)) (KN key p n) with
      | true =>
        rw [if_pos rfl]
        exact h p n q hp (Nat.le_refl _) (by omega) hs hq he
      | false =>
        rw [if_neg (by simp)]
        have heqx:KN key p n=KN key p (n - 1):=KeyOrd.kle_antisymm hg hl
        refine desc hc hN f p (n+1) (q+1) hp (by omega) (by omega) (fun i j hij hj=>?_) (by omega) (fun i a b=>?_) fun p m q x a b c d e=>h p m q x (by omega) b c d e
        · by_cases hjx:j < n
          · exact hs i j hij hjx
          · have hj':j=n:=by omega
            subst hj'
            by_cases hi':i=j
            · subst hi'; exact KeyOrd.kle_refl _
            · rw [heqx]; exact hs i (j - 1) (by omega) (by omega)
        · rw [show n+1 - 1=n by omega]
          by_cases hix:i=n
          · subst hix; rfl
          · rw [heqx]; exact he i (by omega) (by omega)
theorem tail3 {p:Array Nat} {n nrem:Nat} {G:Nat × Array Nat→Shared→Prop} (hc:Cmp key N cmp s) (hp:InN N p) (hN:nrem≤N) (h1:1≤n) (hn:n≤nrem) (hs:FallN key p n)
    (h:∀ m q,InN N q→1≤m→m≤nrem→SortedN key q m→G (m,q) s):(kas_tail3 n nrem p).kasWp cmp G s:=by
  unfold kas_tail3
  rw [KasT.kasWp_bind]
  have hsz:n≤p.size:=by rw [hp.size]; omega
  refine asc (nrem:=nrem) hc (hp.rev _ _) hN _ n h1 (by omega) (fun i j hij hj=>?_) fun m a b c _=>h m _ (hp.rev _ _) (by omega) b c
  rw [KN_rev hsz,KN_rev hsz,if_pos (by omega),if_pos (by omega)]
  exact hs _ _ (by omega) (by omega)
theorem descPart {p:Array Nat} {n nrem:Nat} {G:Nat × Array Nat→Shared→Prop} (hc:Cmp key N cmp s) (hp:InN N p) (hN:nrem≤N) (hn:n+1≤nrem) (hs:FallN key p (n+1))
    (h:∀ m q,InN N q→1≤m→m≤nrem→SortedN key q m→G (m,q) s):(kas_descPart n nrem p).kasWp cmp G s:=by
  unfold kas_descPart
  rw [KasT.kasWp_bind]
  refine desc (nrem:=nrem) hc hN _ p (n+1) 0 hp (by omega) (by omega) hs (by omega) (fun i a b=>by congr 1; omega) fun p' m q hp' hm1 hm2 hf hq he=>?_
  dsimp only
  have hsz:m≤p'.size:=by rw [hp'.size]; omega
  by_cases hneq:q > 0
  · rw [if_pos hneq]
    refine tail3 hc (hp'.rev _ _) hN (by omega) hm2 (fun i j hij hj=>?_) h
    rw [KN_rev_equal hsz he,KN_rev_equal hsz he]
    exact hf i j hij hj
  · rw [if_neg hneq]
    exact tail3 hc hp' hN (by omega) hm2 hf h
theorem count {p:Array Nat} {nrem:Nat} {G:Nat × Array Nat→Shared→Prop} (hc:Cmp key N cmp s) (hp:InN N p) (hN:nrem≤N) (h1:1≤nrem)
    (h:∀ m q,InN N q→1≤m→m≤nrem→SortedN key q m→G (m,q) s):(kas_count nrem p).kasWp cmp G s:=by
  unfold kas_count
  rw [KasT.kasWp_bind]
  refine asc (nrem:=nrem) hc hp hN _ 1 (Nat.le_refl _) (by omega) (fun i j hij hj=>by have:i=j:=(by omega); subst this; exact KeyOrd.kle_refl _) fun n hn1 hn2 hsn hor=>?_
  by_cases hnn:n=nrem
  · rw [if_pos (by simpa using hnn)]
    exact h n p hp hn1 hn2 hsn
  · rw [if_neg (by simpa using hnn)]
    have hlt:O.klt (KN key p n) (KN key p (n - 1)):=hor.resolve_left hnn
    by_cases hgt:n > 1
    · rw [if_pos hgt]
      refine ask hc hp (by omega) (by omega) ?_
      cases hrose:O.blt (KN key p 0) (KN key p (n - 1)) with
      | true =>
        rw [if_pos rfl]
        exact h n p hp hn1 hn2 hsn
      | false =>
        rw [if_neg (by simp)]
        have hsz:n≤p.size:=by rw [hp.size]; omega
        have hall:∀ k,0≤k→k < n→KN key p k=KN key p (n - 1):=by
          intro k _ hk
          have a1:=hsn 0 k (by omega) hk
          have a2:=hsn k (n - 1) (by omega) (by omega)
          exact KeyOrd.kle_antisymm a2 (KeyOrd.kle_trans hrose a1)
        refine descPart hc (hp.rev _ _) hN (by omega) (fun i j hij hj=>?_) h
        rw [KN_rev_equal hsz hall,KN_rev_equal hsz hall]
        by_cases hjn:j < n
        · rw [hall i (by omega) (by omega),hall j (by omega) hjn]; exact KeyOrd.kle_refl _
        · have hj':j=n:=by omega
          subst hj'
          by_cases hi':i=j
          · subst hi'; exact KeyOrd.kle_refl _
          · rw [hall i (by omega) (by omega)]; exact KeyOrd.kle_of_klt hlt
    · rw [if_neg hgt]
      have hn1':n=1:=by omega
      subst hn1'
      refine descPart hc hp hN (by omega) (fun i j hij hj=>?_) h
      by_cases hi':i=j
      · subst hi'; exact KeyOrd.kle_refl _
      · have hi0:i=0:=by omega
        have hj1:j=1:=by omega
        subst hi0; subst hj1
        exact KeyOrd.kle_of_klt hlt
theorem place {p:Array Nat} {k:Nat} {G:Nat→Shared→Prop} (hc:Cmp key N cmp s) (hp:InN N p) (hk:k < N) (hs:SortedN key p k):∀ (f l r:Nat),l≤r→r≤k→r - l≤f →
    (∀ i,i < l→O.kle (KN key p i) (KN key p k))→(∀ i,r≤i→i < k→O.klt (KN key p k) (KN key p i)) →
    (∀ l,l≤k→(∀ i,i < l→O.kle (KN key p i) (KN key p k))→(∀ i,l≤i→i < k→O.klt (KN key p k) (KN key p i))→G l s)→(kas_place p k f l r).kasWp cmp G s
  | 0,l,r,hlr,hrk,hf,hlo,hhi,h=>by
    have e:l=r:=by omega
    subst e
    exact h l hrk hlo hhi
  | f+1,l,r,hlr,hrk,hf,hlo,hhi,h=>by
    unfold kas_place
    by_cases hge:l ≥ r
    · rw [if_pos hge]
      have e:l=r:=by omega
      subst e
      exact h l hrk hlo hhi
    · rw [if_neg hge]
      refine ask hc hp hk (by omega) ?_
      cases hl:O.blt (KN key p k) (KN key p ((l+r) / 2)) with
      | true =>
        rw [if_pos rfl]
        exact place hc hp hk hs f l ((l+r) / 2) (by omega) (by omega) (by omega) hlo (fun i a b=>KeyOrd.klt_of_klt_of_kle hl (hs _ _ a b)) h
      | false =>
        rw [if_neg (by simp)]
        exact place hc hp hk hs f ((l+r) / 2+1) r (by omega) (by omega) (by omega) (fun i a=>KeyOrd.kle_trans (hs i ((l+r) / 2) (by omega) (by omega)) hl) hhi h
theorem bin {n:Nat} {G:Array Nat→Shared→Prop} (hc:Cmp key N cmp s) (hN:n≤N):∀ (f:Nat) (p:Array Nat) (k:Nat),InN N p→k+f=n→SortedN key p k →
    (∀ p,InN N p→SortedN key p n→G p s)→(kas_bin f p k).kasWp cmp G s
  | 0,p,k,hp,hf,hs,h=>h p hp (by rw [show n=k by omega]; exact hs)
  | f+1,p,k,hp,hf,hs,h=>by
    unfold kas_bin
    rw [KasT.kasWp_bind]
    refine place hc hp (by omega) hs k 0 k (by omega) (Nat.le_refl _) (by omega) (fun i a=>by omega) (fun i a b=>by omega) fun l hlk hlo hhi=>?_
    refine bin hc hN f _ (k+1) (hp.of (bubble_perm _ _ _)) (by omega) (fun i j hij hj=>?_) h
    have hks:k < p.size:=by rw [hp.size]; omega
    rw [KN_bubble hks (by omega),KN_bubble hks (by omega),show k - (k - l)=l by omega]
    repeat' split
    all_goals first
      | (exfalso; omega)
      | exact KeyOrd.kle_refl _
      | exact hlo _ (by omega)
      | exact KeyOrd.kle_of_klt (hhi _ (by omega) (by omega))
      | exact hs _ _ (by omega) (by omega)
theorem sort {G:Array Nat→Shared→Prop} (hc:Cmp key N cmp s) (h1:1≤N) (h:∀ p,InN N p→SortedN key p N→G p s):(kas_sort N).kasWp cmp G s:=by
  unfold kas_sort
  rw [KasT.kasWp_bind]
  refine count hc (show InN N _ by unfold InN; simp) (Nat.le_refl _) h1 fun m q hq hm1 hm2 hs=>?_
  dsimp only
  by_cases hlt:m < N
  · rw [if_pos hlt,show max m 1=m by omega]
    exact bin hc (Nat.le_refl _) _ q m hq (by omega) hs h
  · rw [if_neg hlt]
    obtain rfl:m=N:=by omega
    exact h q hq hs
end
section
variable {prog:Program} {w:World} {A:Around} {E:Value→Shared→Prop} {s:Shared}
def Keeps (h h':Heap):Prop:=∀ b o,h.get? b=some o→h'.get? b=some o
end
end SO
set_option Elab.async false
set_option linter.all false
set_option maxRecDepth 100000
set_option maxHeartbeats 4000000
namespace PySem.SeqAt
open AutoSeq1 (wpAny_loadPart')
open MeetsSeq MeetsSeq2 MeetsSeq3 SeqRoads2
def LtAt (A:Around) (s:Shared) (y x:Value) (b:Bool):Prop :=
  ∀ (prog:Program) (w:World) (E:Value→Shared→Prop) (Q:Value→Shared→Prop),Q (.bool b) s→wpAny (model prog w) A (richCompare .Lt y x) Q E s
def lexR (e f:Nat→Bool) (fin:Bool):List Nat→Bool
  | []=>fin
  | i :: r=>if e i=true then lexR e f fin r else f i
theorem tuple_ltAt (l b:Addr) (items items2:Array Value) (n n2:Nat) (dd dd2:Option Addr) (sl sl2:Array (Option Value)) (e f:Nat→Bool) :
    Meets (Builtin.«tuple.__lt__» ⟨[.ref l,.ref b],[]⟩)
      (fun A R s=>s.heap.get? l=some { cls:=.type "tuple",dict:=dd,data:=.seq items n,slots:=sl }∧s.heap.get? b=some { cls:=.type "tuple",dict:=dd2,data:=.seq items2 n2,slots:=sl2 } ∧
        (∀ j (h1:j < items.size) (h2:j < items2.size),EqAt A.in1 s items[j] items2[j] (e j))∧(∀ j (h1:j < items.size) (h2:j < items2.size),e j=false→LtAt A.in1 s items[j] items2[j] (f j)) ∧
        R (.ok (.ret (.bool (lexR e f (decide (items.size < items2.size)) (List.range (min items.size items2.size)))))) s) :=
  .of_wp fun prog w A R s h=>by
    obtain ⟨hp,g,d,tk,os⟩:=s; obtain ⟨hl,hb,he,hf,h⟩:=h
    have f2:=AutoSeq1.sub_tuple_tuple
    have hZ:(items.toList.zip items2.toList).length=min items.size items2.size:=by simp
    wp_walk using wpAny_loadPart' hl,wpAny_loadPart' hb,wpAny_forIn_list _ (fun rest b s'=>b.1=none∧s'=⟨hp,g,d,tk,os⟩∧∃ i,rest=(items.toList.zip items2.toList).drop i ∧
      R (.ok (.ret (.bool (lexR e f (decide (items.size < items2.size)) ((List.range (min items.size items2.size)).drop i))))) ⟨hp,g,d,tk,os⟩) _
    case turn =>
      rintro ⟨y,x⟩ rest b s' ⟨hb',rfl,i,hz,hR⟩
      have hlt:i < (items.toList.zip items2.toList).length:=by
        rcases Nat.lt_or_ge i (items.toList.zip items2.toList).length with h' | h'
        · exact h'
        · rw [List.drop_of_length_le h'] at hz; cases hz
      have hm:i < min items.size items2.size:=hZ ▸ hlt
      have h1:i < items.size:=Nat.lt_of_lt_of_le hm (Nat.min_le_left _ _)
      have h2:i < items2.size:=Nat.lt_of_lt_of_le hm (Nat.min_le_right _ _)
      rw [List.drop_eq_getElem_cons hlt] at hz
      injection hz with hyx hrest
      have hy:y=items[i]:=by have:=congrArg Prod.fst hyx; simpa using this
      have hx:x=items2[i]:=by have:=congrArg Prod.snd hyx; simpa using this
      subst hy hx
      have hd:(List.range (min items.size items2.size)).drop i=i :: (List.range (min items.size items2.size)).drop (i+1):=by simp [List.drop_eq_getElem_cons,hm]
      rw [hd] at hR
      refine wpAny_bind (he i h1 h2 prog w _ _ ?_)
      cases hy:e i with
      | true =>
        have hR':R (.ok (.ret (.bool (lexR e f (decide (items.size < items2.size)) ((List.range (min items.size items2.size)).drop (i+1)))))) ⟨hp,g,d,tk,os⟩:=by
          have:lexR e f (decide (items.size < items2.size)) (i :: (List.range (min items.size items2.size)).drop (i+1))=lexR e f (decide (items.size < items2.size)) ((List.range (min items.size items2.size)).drop (i+1)):=by
            show (if e i=true then _ else _)=_
            rw [if_pos hy]
          rw [this] at hR
          exact hR
        wp_walk
        exact ⟨rfl,rfl,i+1,hrest,hR'⟩
      | false =>
        have hR':R (.ok (.ret (.bool (f i)))) ⟨hp,g,d,tk,os⟩:=by
          have:lexR e f (decide (items.size < items2.size)) (i :: (List.range (min items.size items2.size)).drop (i+1))=f i:=by
            show (if e i=true then _ else _)=_
            rw [if_neg (by simp [hy])]
          rw [this] at hR
          exact hR
        simp only [Bool.not_false,if_true]
        refine wpAny_bind (wpAny_rule (wpAny_bind (hf i h1 h2 hy prog w _ _ ?_)))
        wp_walk
        exact ⟨_,rfl,hR'⟩
    case fin =>
      rintro ⟨b1,b2⟩ s' ⟨hb',rfl,i,hz,hR⟩
      simp only at hb'
      subst hb'
      have hge:min items.size items2.size≤i:=by
        rcases Nat.lt_or_ge i (items.toList.zip items2.toList).length with h' | h'
        · rw [List.drop_eq_getElem_cons h'] at hz; cases hz
        · exact hZ ▸ h'
      rw [List.drop_of_length_le (by simpa using hge)] at hR
      wp_walk
      exact ⟨_,rfl,by simpa [Builtin.Tuple.tupleCompareSizes,lexR] using hR⟩
    case h =>
      exact ⟨rfl,rfl,0,rfl,by simpa using h⟩
section
variable {A:Around} {s:Shared}
theorem LtAt.tuples {l b:Addr} {items items2:Array Value} {e f:Nat→Bool} (hl:s.heap.IsTuple l items) (hb:s.heap.IsTuple b items2) (hu:A.units < cLine)
    (he:∀ j (h1:j < items.size) (h2:j < items2.size),EqAt A.in1 s items[j] items2[j] (e j)) (hf:∀ j (h1:j < items.size) (h2:j < items2.size),e j=false→LtAt A.in1 s items[j] items2[j] (f j)) :
    LtAt A s (.ref l) (.ref b) (lexR e f (decide (items.size < items2.size)) (List.range (min items.size items2.size))):=fun prog w E Q h=>by
  obtain ⟨⟨cls,dd,data,sl⟩,ho,hc,n,hd⟩:=id hl
  obtain ⟨⟨cls2,dd2,data2,sl2⟩,ho2,hc2,n2,hd2⟩:=id hb
  simp only at hc hd hc2 hd2
  subst hc hd hc2 hd2
  exact richCompare_meets_room (op:=.Lt) ⟨_,ho,rfl⟩ ⟨_,ho2,rfl⟩ F.slot_tuple_lt F.entry_tuple_lt (F.args_tuple_lt_2 _ _) (tuple_ltAt l b items items2 n n2 dd dd2 sl sl2 e f)
    ⟨ho,ho2,he,hf,show Value.bool (lexR e f (decide (items.size < items2.size)) (List.range (min items.size items2.size)))≠Value.notImplemented∧Q (.bool (lexR e f (decide (items.size < items2.size)) (List.range (min items.size items2.size)))) s from ⟨(fun x=>nomatch x),h⟩⟩ hu
end
end PySem.SeqAt
set_option Elab.async false
set_option linter.all false
set_option maxRecDepth 100000
set_option maxHeartbeats 400000
namespace L2
open PySem PySem.Spec PyProof.Rows
def rankD:D→Nat
  | .non=>0 | .bl _=>1 | .int _=>2 | .str _=>3 | .tup _=>4
open Classical in
noncomputable def eqD (a b:D):Bool:=decide (a=b)
theorem str_ext {x y:Str} (e:x.cps.toList=y.cps.toList):x=y:=by
  cases x; cases y
  simp only at e
  congr
  exact Array.toList_inj.mp e
theorem eqD_eq {a b:D} (h:eqD a b=true):a=b:=@of_decide_eq_true _ (Classical.propDecidable _) h
theorem eqD_self (d:D):eqD d d=true:=@decide_eq_true _ (Classical.propDecidable _) rfl
theorem eqD_iff {a b:D}:eqD a b=true↔a=b:=⟨eqD_eq,fun h=>by subst h; exact eqD_self _⟩
theorem eqD_no {a b:D} (h:eqD a b=false):a≠b:=fun e=>by
  rw [eqD_iff.mpr e] at h
  cases h
def klt:D→D→Bool
  | .bl a=>fun e=>match e with | .bl b=>!a && b | _=>false
  | .int a=>fun e=>match e with | .int b=>decide (a < b) | _=>false
  | .str x=>fun e=>match e with | .str y=>decide (x.cps.toList < y.cps.toList) | _=>false
  | _=>fun _=>false
def dlt0 (a b:D):Bool:=decide (rankD a < rankD b) || klt a b
mutual
noncomputable def dlt:D→D→Bool
  | .tup xs=>fun e=>match e with | .tup ys=>dltL xs ys | _=>false
  | .non=>dlt0 .non
  | .bl b=>dlt0 (.bl b)
  | .int i=>dlt0 (.int i)
  | .str x=>dlt0 (.str x)
noncomputable def dltL:List D→List D→Bool
  | []=>fun ys=>match ys with | []=>false | _ :: _=>true
  | x :: xs=>fun ys=>match ys with | []=>false | y :: ys=>if eqD x y=true then dltL xs ys else dlt x y
end
theorem dlt_int (a b:Int):dlt (.int a) (.int b)=decide (a < b):=rfl
theorem dlt_str (x y:Str):dlt (.str x) (.str y)=decide (x.cps.toList < y.cps.toList):=rfl
theorem dlt_tt (xs ys:List D):dlt (.tup xs) (.tup ys)=dltL xs ys:=rfl
theorem dltL_nc (y:D) (ys:List D):dltL [] (y :: ys)=true:=rfl
theorem dltL_cn (x:D) (xs:List D):dltL (x :: xs) []=false:=rfl
theorem dltL_cc (x y:D) (xs ys:List D):dltL (x :: xs) (y :: ys)=if eqD x y=true then dltL xs ys else dlt x y:=rfl
theorem str_tri {x y:Str} (h1:¬ x.cps.toList < y.cps.toList) (h2:¬ y.cps.toList < x.cps.toList):x=y :=
  str_ext (List.le_antisymm (List.not_lt.mp h2) (List.not_lt.mp h1))
theorem ff {P:Prop} (h:false=true):P:=Bool.noConfusion h
theorem klt_e {P:D→D→Prop} (h1:P (.bl false) (.bl true)) (h2:∀ i j:Int,i < j→P (.int i) (.int j)) (h3:∀ x y:Str,x.cps.toList < y.cps.toList→P (.str x) (.str y)):∀ {a b:D},klt a b=true→P a b:=by
  intro a b h
  cases a with
  | bl p =>
    cases b with
    | bl q=>cases p <;> cases q <;> first | exact h1 | exact ff h
    | non=>exact ff h
    | int _=>exact ff h
    | str _=>exact ff h
    | tup _=>exact ff h
  | int p =>
    cases b with
    | int q=>exact h2 p q (of_decide_eq_true h)
    | non=>exact ff h
    | bl _=>exact ff h
    | str _=>exact ff h
    | tup _=>exact ff h
  | str p =>
    cases b with
    | str q=>exact h3 p q (of_decide_eq_true h)
    | non=>exact ff h
    | bl _=>exact ff h
    | int _=>exact ff h
    | tup _=>exact ff h
  | non=>exact ff h
  | tup _=>exact ff h
theorem klt_rank {a b:D} (h:klt a b=true):rankD a=rankD b∧rankD a < 4:=klt_e (P:=fun a b=>rankD a=rankD b∧rankD a < 4) ⟨rfl,by decide⟩ (fun _ _ _=>⟨rfl,by show 2 < 4; decide⟩) (fun _ _ _=>⟨rfl,by show 3 < 4; decide⟩) h
theorem klt_tr {a b c:D} (h:klt a b=true):klt b c=true→klt a c=true:=klt_e (P:=fun a b=>klt b c=true→klt a c=true) (fun h=>by cases c <;> exact ff h)
  (fun i j hij h=>by
    cases c with
    | int k=>exact decide_eq_true (Int.lt_trans hij (of_decide_eq_true h))
    | _=>exact ff h)
  (fun x y hxy h=>by
    cases c with
    | str z=>exact decide_eq_true (List.lt_trans hxy (of_decide_eq_true h))
    | _=>exact ff h) h
theorem dlt0_e {a b:D} (h:dlt0 a b=true):rankD a < rankD b∨klt a b=true:=(Bool.or_eq_true _ _ ▸ h:_∨_).imp of_decide_eq_true id
theorem dlt0_r {a b:D} (h:rankD a < rankD b):dlt0 a b=true:=by unfold dlt0; rw [decide_eq_true h]; rfl
theorem dlt0_k {a b:D} (h:klt a b=true):dlt0 a b=true:=by unfold dlt0; rw [h,Bool.or_true]
theorem dlt_0:∀ {a:D} (b:D),rankD a < 4→dlt a b=dlt0 a b
  | .non,_,_=>rfl
  | .bl _,_,_=>rfl
  | .int _,_,_=>rfl
  | .str _,_,_=>rfl
  | .tup _,_,h=>absurd h (by show ¬ 4 < 4; decide)
theorem tup_lt {xs:List D} {b:D} (h:dlt (.tup xs) b=true):∃ ys,b=.tup ys∧dltL xs ys=true:=by
  cases b with
  | tup ys=>exact ⟨ys,rfl,h⟩
  | _=>exact ff h
theorem tup_of {a:D} (h:¬ rankD a < 4):∃ xs,a=.tup xs:=by
  cases a with
  | tup xs=>exact ⟨xs,rfl⟩
  | non=>exact absurd (show 0 < 4 by decide) h
  | bl _=>exact absurd (show 1 < 4 by decide) h
  | int _=>exact absurd (show 2 < 4 by decide) h
  | str _=>exact absurd (show 3 < 4 by decide) h
theorem dlt_rank {a b:D} (h:dlt a b=true):rankD a≤rankD b:=by
  by_cases ha:rankD a < 4
  · rw [dlt_0 b ha] at h
    rcases dlt0_e h with h | h
    · omega
    · exact Nat.le_of_eq (klt_rank h).1
  · obtain ⟨xs,rfl⟩:=tup_of ha
    obtain ⟨ys,rfl,_⟩:=tup_lt h
    exact Nat.le_refl _
theorem tr0 {a b c:D} (ha:rankD a < 4) (h1:dlt a b=true) (h2:dlt b c=true):dlt a c=true:=by
  rw [dlt_0 _ ha] at h1 ⊢
  have hr:=dlt_rank h2
  rcases dlt0_e h1 with h | h
  · exact dlt0_r (Nat.lt_of_lt_of_le h hr)
  · have hk:=klt_rank h
    rw [dlt_0 _ (by rw [← hk.1]; exact hk.2)] at h2
    rcases dlt0_e h2 with q | q
    · exact dlt0_r (by rw [hk.1]; exact q)
    · exact dlt0_k (klt_tr h q)
theorem tot0:∀ {a:D} (b:D),rankD a < 4→dlt a b=false→dlt b a=false→a=b:=by
  intro a b ha h1 h2
  rw [dlt_0 _ ha] at h1
  have k1:¬ rankD a < rankD b:=fun z=>by rw [dlt0_r z] at h1; cases h1
  have hb:rankD b < 4:=by omega
  rw [dlt_0 _ hb] at h2
  have k2:¬ rankD b < rankD a:=fun z=>by rw [dlt0_r z] at h2; cases h2
  have q1:klt a b=false:=by
    cases h:klt a b with
    | false=>rfl
    | true=>rw [dlt0_k h] at h1; cases h1
  have q2:klt b a=false:=by
    cases h:klt b a with
    | false=>rfl
    | true=>rw [dlt0_k h] at h2; cases h2
  have e:rankD a=rankD b:=by omega
  clear h1 h2 k1 k2 hb
  cases a with
  | non=>cases b <;> first | rfl | exact absurd e (Nat.ne_of_beq_eq_false rfl)
  | bl p =>
    cases b with
    | bl q=>cases p <;> cases q <;> first | rfl | exact ff q1.symm | exact ff q2.symm
    | _=>exact absurd e (Nat.ne_of_beq_eq_false rfl)
  | int p =>
    cases b with
    | int q=>exact congrArg D.int (Int.le_antisymm (Int.not_lt.mp (of_decide_eq_false q2)) (Int.not_lt.mp (of_decide_eq_false q1)))
    | _=>exact absurd e (Nat.ne_of_beq_eq_false rfl)
  | str p =>
    cases b with
    | str q=>exact congrArg D.str (str_tri (of_decide_eq_false q1) (of_decide_eq_false q2))
    | _=>exact absurd e (Nat.ne_of_beq_eq_false rfl)
  | tup _=>exact absurd ha (by show ¬ 4 < 4; decide)
mutual
theorem dlt_irr:∀ d:D,dlt d d=false
  | .non=>rfl
  | .bl b=>by cases b <;> rfl
  | .int i=>decide_eq_false (Int.lt_irrefl i)
  | .str x=>decide_eq_false (List.lt_irrefl _)
  | .tup xs=>dltL_irr xs
theorem dltL_irr:∀ ds:List D,dltL ds ds=false
  | []=>rfl
  | d :: ds=>by rw [dltL_cc,if_pos (eqD_self d)]; exact dltL_irr ds
end
mutual
theorem dlt_tot:∀ a b:D,dlt a b=false→dlt b a=false→a=b
  | .non,b,h1,h2=>tot0 b (by show 0 < 4; decide) h1 h2
  | .bl x,b,h1,h2=>tot0 b (by show 1 < 4; decide) h1 h2
  | .int x,b,h1,h2=>tot0 b (by show 2 < 4; decide) h1 h2
  | .str x,b,h1,h2=>tot0 b (by show 3 < 4; decide) h1 h2
  | .tup xs,b,h1,h2=>by
    by_cases hb:rankD b < 4
    · exact (tot0 (.tup xs) hb h2 h1).symm
    · obtain ⟨ys,rfl⟩:=tup_of hb
      exact congrArg D.tup (dltL_tot xs ys h1 h2)
theorem dltL_tot:∀ a b:List D,dltL a b=false→dltL b a=false→a=b
  | [],[],_,_=>rfl
  | [],_ :: _,h1,_=>ff h1.symm
  | _ :: _,[],_,h2=>ff h2.symm
  | x :: xs,y :: ys,h1,h2=>by
    rw [dltL_cc] at h1 h2
    cases he:eqD x y with
    | true =>
      have e:=eqD_eq he
      subst e
      rw [if_pos he] at h1 h2
      rw [dltL_tot xs ys h1 h2]
    | false =>
      rw [if_neg (fun z=>eqD_no he (eqD_eq z))] at h1
      rw [if_neg (fun z=>eqD_no he (eqD_eq z).symm)] at h2
      exact absurd (dlt_tot x y h1 h2) (eqD_no he)
end
mutual
theorem dlt_tr:∀ a b c:D,dlt a b=true→dlt b c=true→dlt a c=true
  | .non,b,c,h1,h2=>tr0 (by show 0 < 4; decide) h1 h2
  | .bl x,b,c,h1,h2=>tr0 (by show 1 < 4; decide) h1 h2
  | .int x,b,c,h1,h2=>tr0 (by show 2 < 4; decide) h1 h2
  | .str x,b,c,h1,h2=>tr0 (by show 3 < 4; decide) h1 h2
  | .tup xs,b,c,h1,h2=>by
    obtain ⟨ys,rfl,q1⟩:=tup_lt h1
    obtain ⟨zs,rfl,q2⟩:=tup_lt h2
    exact dltL_tr xs ys zs q1 q2
theorem dltL_tr:∀ a b c:List D,dltL a b=true→dltL b c=true→dltL a c=true
  | [],[],_,h1,_=>ff h1
  | [],_ :: _,[],_,h2=>ff h2
  | [],_ :: _,_ :: _,_,_=>rfl
  | _ :: _,[],_,h1,_=>ff h1
  | _ :: _,_ :: _,[],_,h2=>ff h2
  | x :: xs,y :: ys,z :: zs,h1,h2=>by
    rw [dltL_cc] at h1 h2 ⊢
    cases hxy:eqD x y with
    | true =>
      have e:=eqD_eq hxy
      subst e
      rw [if_pos hxy] at h1
      cases hxz:eqD x z with
      | true =>
        rw [if_pos hxz] at h2
        rw [if_pos rfl]
        exact dltL_tr xs ys zs h1 h2
      | false =>
        rw [if_neg (fun z=>eqD_no hxz (eqD_eq z))] at h2
        rw [if_neg Bool.false_ne_true]
        exact h2
    | false =>
      rw [if_neg (fun z=>eqD_no hxy (eqD_eq z))] at h1
      cases hyz:eqD y z with
      | true =>
        have e:=eqD_eq hyz
        subst e
        rw [if_neg (fun z=>eqD_no hxy (eqD_eq z))]
        exact h1
      | false =>
        rw [if_neg (fun z=>eqD_no hyz (eqD_eq z))] at h2
        have g:=dlt_tr x y z h1 h2
        rw [if_neg]
        · exact g
        · intro z'
          have e:=eqD_eq z'
          subst e
          rw [dlt_irr] at g
          cases g
end
noncomputable def ordD:KeyOrd where
  α:=D
  blt:=dlt
  irrefl:=dlt_irr
  trans:=dlt_tr
  negTrans:=fun a b c h=>by
    cases h1:dlt a b with
    | true=>exact .inl rfl
    | false =>
      cases h2:dlt b a with
      | true=>exact .inr (dlt_tr b a c h2 h)
      | false =>
        have e:=dlt_tot a b h1 h2
        subst e
        exact .inr h
  total:=dlt_tot
end L2
set_option Elab.async false
set_option linter.all false
set_option maxRecDepth 100000
set_option maxHeartbeats 200000
namespace L2
open PySem PySem.Spec PyProof.Rows
def UpD (ds:List D):Prop:=ds.Pairwise fun a b=>dlt b a=false
theorem upD_unique {xs ys:List D} (hx:UpD xs) (hy:UpD ys) (h:xs.Perm ys):xs=ys :=
  h.eq_of_pairwise (fun a b _ _ h1 h2=>dlt_tot a b h2 h1) hx hy
mutual
def Sim:D→D→Prop
  | .int _=>fun e=>match e with | .int _=>True | _=>False
  | .str _=>fun e=>match e with | .str _=>True | _=>False
  | .tup xs=>fun e=>match e with | .tup ys=>SimL xs ys | _=>False
  | _=>fun _=>False
def SimL:List D→List D→Prop
  | []=>fun _=>True
  | x :: xs=>fun ys=>match ys with | []=>True | y :: ys=>Sim x y∧SimL xs ys
end
theorem Sim_t {xs ys:List D} (h:SimL xs ys):Sim (.tup xs) (.tup ys):=h
theorem Sim_t' {xs ys:List D} (h:Sim (.tup xs) (.tup ys)):SimL xs ys:=h
theorem SimL_c {x y:D} {xs ys:List D} (h:Sim x y) (k:SimL xs ys):SimL (x :: xs) (y :: ys):=⟨h,k⟩
theorem SimL_c' {x y:D} {xs ys:List D} (h:SimL (x :: xs) (y :: ys)):Sim x y∧SimL xs ys:=h
theorem SimL_n (ys:List D):SimL [] ys:=trivial
theorem SimL_m (xs:List D):SimL xs []:=by cases xs <;> exact trivial
theorem SimL.at_:∀ {xs ys:List D} {i:Nat} {x y:D},SimL xs ys→xs[i]?=some x→ys[i]?=some y→Sim x y
  | [],_,i,x,y,_,hx,_=>by simp at hx
  | _ :: _,[],i,x,y,_,_,hy=>by simp at hy
  | a :: xs,b :: ys,0,x,y,h,hx,hy=>by
    simp at hx hy
    subst hx; subst hy
    exact (SimL_c' h).1
  | a :: xs,b :: ys,i+1,x,y,h,hx,hy=>by
    exact SimL.at_ (i:=i) (SimL_c' h).2 (by simpa using hx) (by simpa using hy)
mutual
theorem Den.det {H:Hp}:∀ {d e:D} {v:V},Den H v d→Den H v e→d=e
  | .non,e,v,h1,h2=>by
    have:v=.non:=h1
    subst this
    cases e with
    | non=>rfl
    | tup ds=>obtain ⟨p,vs,z,_⟩:=den_tup h2; cases z
    | bl b=>exact absurd (show V.non=.bl b from h2) (fun z=>nomatch z)
    | int b=>exact absurd (show V.non=.int b from h2) (fun z=>nomatch z)
    | str b=>exact absurd (show V.non=.str b from h2) (fun z=>nomatch z)
  | .bl b,e,v,h1,h2=>by
    have:v=.bl b:=h1
    subst this
    cases e with
    | bl c=>have z:V.bl b=.bl c:=h2; cases z; rfl
    | tup ds=>obtain ⟨p,vs,z,_⟩:=den_tup h2; cases z
    | non=>exact absurd (show V.bl b=.non from h2) (fun z=>nomatch z)
    | int c=>exact absurd (show V.bl b=.int c from h2) (fun z=>nomatch z)
    | str c=>exact absurd (show V.bl b=.str c from h2) (fun z=>nomatch z)
  | .int b,e,v,h1,h2=>by
    have:v=.int b:=h1
    subst this
    cases e with
    | int c=>have z:V.int b=.int c:=h2; cases z; rfl
    | tup ds=>obtain ⟨p,vs,z,_⟩:=den_tup h2; cases z
    | non=>exact absurd (show V.int b=.non from h2) (fun z=>nomatch z)
    | bl c=>exact absurd (show V.int b=.bl c from h2) (fun z=>nomatch z)
    | str c=>exact absurd (show V.int b=.str c from h2) (fun z=>nomatch z)
  | .str b,e,v,h1,h2=>by
    have:v=.str b:=h1
    subst this
    cases e with
    | str c=>have z:V.str b=.str c:=h2; cases z; rfl
    | tup ds=>obtain ⟨p,vs,z,_⟩:=den_tup h2; cases z
    | non=>exact absurd (show V.str b=.non from h2) (fun z=>nomatch z)
    | bl c=>exact absurd (show V.str b=.bl c from h2) (fun z=>nomatch z)
    | int c=>exact absurd (show V.str b=.int c from h2) (fun z=>nomatch z)
  | .tup ds,e,v,h1,h2=>by
    obtain ⟨p,vs,rfl,hp,hd⟩:=den_tup h1
    cases e with
    | tup es =>
      obtain ⟨q,us,z,hq,he⟩:=den_tup h2
      cases z
      rw [hp] at hq
      cases hq
      rw [DenL.det hd he]
    | non=>exact absurd (show V.ref p=.non from h2) (fun z=>nomatch z)
    | bl c=>exact absurd (show V.ref p=.bl c from h2) (fun z=>nomatch z)
    | int c=>exact absurd (show V.ref p=.int c from h2) (fun z=>nomatch z)
    | str c=>exact absurd (show V.ref p=.str c from h2) (fun z=>nomatch z)
theorem DenL.det {H:Hp}:∀ {ds es:List D} {vs:List V},DenL H vs ds→DenL H vs es→ds=es
  | [],[],_,_,_=>rfl
  | [],_ :: _,[],_,h=>h.elim
  | [],_ :: _,_ :: _,h,_=>h.elim
  | _ :: _,[],[],h,_=>h.elim
  | _ :: _,[],_ :: _,_,h=>h.elim
  | _ :: _,_ :: _,[],h,_=>h.elim
  | d :: ds,e :: es,v :: vs,h1,h2=>by rw [Den.det h1.1 h2.1,DenL.det h1.2 h2.2]
end
open SeqAt (lexR)
theorem lexR_map (e f:Nat→Bool) (fin:Bool):∀ r:List Nat,lexR e f fin (r.map Nat.succ)=lexR (fun i=>e (i+1)) (fun i=>f (i+1)) fin r
  | []=>rfl
  | i :: r=>by
    show (if e (i+1)=true then lexR e f fin (r.map Nat.succ) else f (i+1))=_
    rw [lexR_map e f fin r]
    rfl
theorem lexR_dlt:∀ xs ys:List D,lexR (fun j=>eqD (xs.getD j .non) (ys.getD j .non)) (fun j=>dlt (xs.getD j .non) (ys.getD j .non)) (decide (xs.length < ys.length)) (List.range (min xs.length ys.length))=dltL xs ys
  | [],[]=>rfl
  | [],y :: ys=>by rw [dltL_nc]; simp [lexR]
  | x :: xs,[]=>by rw [dltL_cn]; simp [lexR]
  | x :: xs,y :: ys=>by
    have ih:=lexR_dlt xs ys
    rw [dltL_cc,show min (x :: xs).length (y :: ys).length=min xs.length ys.length+1 by simp only [List.length_cons]; omega,List.range_succ_eq_map]
    show (if eqD x y=true then lexR _ _ _ ((List.range (min xs.length ys.length)).map Nat.succ) else dlt x y)=_
    rw [lexR_map]
    have ed:decide ((x :: xs).length < (y :: ys).length)=decide (xs.length < ys.length):=by simp
    rw [ed]
    cases he:eqD x y with
    | true =>
      rw [if_pos rfl,if_pos rfl]
      simpa using ih
    | false =>
      rw [if_neg (by simp),if_neg (by simp)]
theorem allR_eq:∀ xs ys:List D,((List.range (min xs.length ys.length)).all (fun j=>eqD (xs.getD j .non) (ys.getD j .non)) && xs.length == ys.length)=eqD (.tup xs) (.tup ys):=by
  intro xs ys
  rw [Bool.eq_iff_iff,eqD_iff]
  constructor
  · intro h
    simp only [Bool.and_eq_true,List.all_eq_true,List.mem_range,beq_iff_eq] at h
    obtain ⟨h1,h2⟩:=h
    congr 1
    apply List.ext_getElem h2
    intro i a b
    have:=eqD_iff.mp (h1 i (by omega))
    simpa [List.getD_eq_getElem?_getD,a,b] using this
  · intro h
    injection h with h
    subst h
    simp [eqD_iff]
end L2
set_option Elab.async false
set_option linter.all false
set_option maxRecDepth 100000
set_option maxHeartbeats 200000
namespace L2
open PySem PySem.Spec PyProof.Rows
section
variable {X:Cx} {pins:List (Addr × Obj)} {σ:St} {H:Hp} {s:Shared}
theorem tup_keep {h h':Heap} {a:Addr} {its:Array Value} (k:SO.Keeps h h') (t:h.IsTuple a its):h'.IsTuple a its:=by
  obtain ⟨o,e,r⟩:=t
  exact ⟨o,k _ _ e,r⟩
theorem eq_intD {s':Shared} {i j:Int} {A:Around} {x y:V} {v u:Value} (hx:Den H x (.int i)) (hy:Den H y (.int j)) (rx:RelV x v) (ry:RelV y u):SeqAt.EqAt A s' v u (eqD (.int i) (.int j)):=by
  have e1:x=.int i:=hx
  have e2:y=.int j:=hy
  subst e1
  subst e2
  obtain ⟨t,rfl⟩:=rx
  obtain ⟨t',rfl⟩:=ry
  have key:=SeqAt.EqAt.int_int (A:=A) (s:=s') i t j t'
  have e:(i == j)=eqD (.int i) (.int j):=by
    rw [Bool.eq_iff_iff,eqD_iff,beq_iff_eq]
    exact ⟨fun z=>by rw [z],fun z=>by injection z⟩
  rw [← e]
  exact key
theorem eq_strD {s':Shared} {i j:Str} {A:Around} {x y:V} {v u:Value} (hx:Den H x (.str i)) (hy:Den H y (.str j)) (rx:RelV x v) (ry:RelV y u):SeqAt.EqAt A s' v u (eqD (.str i) (.str j)):=by
  have e1:x=.str i:=hx
  have e2:y=.str j:=hy
  subst e1
  subst e2
  obtain ⟨t,rfl⟩:=rx
  obtain ⟨t',rfl⟩:=ry
  have key:=SeqAt.EqAt.str_str (A:=A) (s:=s') i t j t'
  have e:(i == j)=eqD (.str i) (.str j):=by
    rw [Bool.eq_iff_iff,eqD_iff,beq_iff_eq]
    exact ⟨fun z=>by rw [z],fun z=>by injection z⟩
  rw [← e]
  exact key
theorem lt_intD {s':Shared} {i j:Int} {A:Around} {x y:V} {v u:Value} (hx:Den H x (.int i)) (hy:Den H y (.int j)) (rx:RelV x v) (ry:RelV y u):SeqAt.LtAt A s' v u (dlt (.int i) (.int j)):=by
  have e1:x=.int i:=hx
  have e2:y=.int j:=hy
  subst e1
  subst e2
  obtain ⟨t,rfl⟩:=rx
  obtain ⟨t',rfl⟩:=ry
  intro prog w E Q h
  rw [dlt_int] at h
  exact PyProof.Rows.lt_int h
theorem lt_strD {s':Shared} {i j:Str} {A:Around} {x y:V} {v u:Value} (hx:Den H x (.str i)) (hy:Den H y (.str j)) (rx:RelV x v) (ry:RelV y u):SeqAt.LtAt A s' v u (dlt (.str i) (.str j)):=by
  have e1:x=.str i:=hx
  have e2:y=.str j:=hy
  subst e1
  subst e2
  obtain ⟨t,rfl⟩:=rx
  obtain ⟨t',rfl⟩:=ry
  intro prog w E Q h
  rw [dlt_str] at h
  exact PyProof.Rows.lt_str h
def CmpD (H:Hp) (s':Shared) (n:Nat):Prop :=
  ∀ (d e:D) (A:Around) (x y:V) (v u:Value),Shal n d→Shal n e→Sim d e→Den H x d→Den H y e→RelV x v→RelV y u→A.units+n < cLine→SeqAt.EqAt A s' v u (eqD d e)∧SeqAt.LtAt A s' v u (dlt d e)
theorem cmpD_tup (I:Inv X pins σ H s) {s':Shared} (kp:SO.Keeps s.heap s'.heap) {n:Nat} (ih:CmpD H s' n) {ds es:List D} {A:Around} {x y:V} {v u:Value} (hs:Shal (n+1) (.tup ds)) (hs2:Shal (n+1) (.tup es))
    (hm:Sim (.tup ds) (.tup es)) (hx:Den H x (.tup ds)) (hy:Den H y (.tup es)) (rx:RelV x v) (ry:RelV y u) (hu:A.units+(n+1) < cLine):SeqAt.EqAt A s' v u (eqD (.tup ds) (.tup es))∧SeqAt.LtAt A s' v u (dlt (.tup ds) (.tup es)):=by
  obtain ⟨a,vs,rfl,ha,hda⟩:=den_tup hx
  obtain ⟨b,us,rfl,hb,hdb⟩:=den_tup hy
  cases rx
  cases ry
  obtain ⟨its,r1,p1,_⟩:=I.tuple (SqT.of (K:=X.K) ha)
  obtain ⟨its2,r2,p2,_⟩:=I.tuple (SqT.of (K:=X.K) hb)
  have l1:=hda.len
  have l2:=hdb.len
  have m1:=r1.length
  have m2:=r2.length
  replace hm:=Sim_t' hm
  have both:∀ j (h1:j < its.toArray.size) (h2:j < its2.toArray.size),SeqAt.EqAt A.in1 s' its.toArray[j] its2.toArray[j] (eqD (ds.getD j .non) (es.getD j .non))∧SeqAt.LtAt A.in1 s' its.toArray[j] its2.toArray[j] (dlt (ds.getD j .non) (es.getD j .non)):=by
    intro j h1 h2
    have hj1:j < vs.length:=by simpa [m1] using h1
    have hj2:j < us.length:=by simpa [m2] using h2
    obtain ⟨d1,g1,b1⟩:=hda.at_ (List.getElem?_eq_getElem hj1)
    obtain ⟨d2,g2,b2⟩:=hdb.at_ (List.getElem?_eq_getElem hj2)
    obtain ⟨w1,hw1,rw1⟩:=r1.get (List.getElem?_eq_getElem hj1)
    obtain ⟨w2,hw2,rw2⟩:=r2.get (List.getElem?_eq_getElem hj2)
    have q1:its.toArray[j]=w1:=by
      have:=(List.getElem?_eq_some_iff.mp hw1).2
      simpa using this
    have q2:its2.toArray[j]=w2:=by
      have:=(List.getElem?_eq_some_iff.mp hw2).2
      simpa using this
    rw [q1,q2]
    rw [List.getD_eq_getElem?_getD,List.getD_eq_getElem?_getD,g1,g2]
    have s1:=(hs.2 ds rfl).2 d1 (List.mem_of_getElem? g1)
    have s2:=(hs2.2 es rfl).2 d2 (List.mem_of_getElem? g2)
    exact ih d1 d2 A.in1 _ _ _ _ s1 s2 (hm.at_ g1 g2) b1 b2 rw1 rw2 (by first | (simp only [Around.in1]; omega) | omega)
  constructor
  · by_cases hab:a=b
    · subst hab
      have e:=Den.det hx hy
      rw [eqD_iff.mpr e]
      exact SeqAt.EqAt.same _
    · have key:=SeqAt.EqAt.of_refs hab (SeqAt.RcAt.tuples (A:=A) (s:=s') (e:=fun j=>eqD (ds.getD j .non) (es.getD j .non)) (tup_keep kp p1) (tup_keep kp p2) (by omega) fun j h1 h2=>(both j h1 h2).1)
      have q:=allR_eq ds es
      rw [show ds.length=its.toArray.size by simp; omega,show es.length=its2.toArray.size by simp; omega] at q
      rw [q] at key
      exact key
  · have key:=SeqAt.LtAt.tuples (A:=A) (s:=s') (e:=fun j=>eqD (ds.getD j .non) (es.getD j .non)) (f:=fun j=>dlt (ds.getD j .non) (es.getD j .non)) (tup_keep kp p1) (tup_keep kp p2) (by omega)
      (fun j h1 h2=>(both j h1 h2).1) (fun j h1 h2 _=>(both j h1 h2).2)
    have q:=lexR_dlt ds es
    rw [show ds.length=its.toArray.size by simp; omega,show es.length=its2.toArray.size by simp; omega] at q
    rw [q] at key
    rw [dlt_tt]
    exact key
theorem sim_cases {P:D→D→Prop} (hi:∀ i j,P (.int i) (.int j)) (hs:∀ i j,P (.str i) (.str j)) (ht:∀ xs ys,SimL xs ys→P (.tup xs) (.tup ys)):∀ {d e:D},Sim d e→P d e:=by
  intro d e h
  cases d <;> cases e <;> first | exact hi _ _ | exact hs _ _ | exact ht _ _ (Sim_t' h) | exact False.elim h
theorem cmpD (I:Inv X pins σ H s) {s':Shared} (kp:SO.Keeps s.heap s'.heap):∀ n:Nat,CmpD H s' n:=by
  intro n
  induction n with
  | zero =>
    intro d e A x y v u hs hs2 hm
    revert hs hs2
    refine sim_cases (P:=fun d e=>Shal 0 d→Shal 0 e→Den H x d→Den H y e→RelV x v→RelV y u→A.units+0 < cLine→SeqAt.EqAt A s' v u (eqD d e)∧SeqAt.LtAt A s' v u (dlt d e)) ?_ ?_ ?_ hm
    · exact fun i j _ _ hx hy rx ry _=>⟨eq_intD hx hy rx ry,lt_intD hx hy rx ry⟩
    · exact fun i j _ _ hx hy rx ry _=>⟨eq_strD hx hy rx ry,lt_strD hx hy rx ry⟩
    · exact fun xs ys _ hs _ _ _ _ _ _=>absurd rfl (hs.2 xs)
  | succ n ih =>
    intro d e A x y v u hs hs2 hm
    revert hs hs2
    refine sim_cases (P:=fun d e=>Shal (n+1) d→Shal (n+1) e→Den H x d→Den H y e→RelV x v→RelV y u→A.units+(n+1) < cLine→SeqAt.EqAt A s' v u (eqD d e)∧SeqAt.LtAt A s' v u (dlt d e)) ?_ ?_ ?_ hm
    · exact fun i j _ _ hx hy rx ry _=>⟨eq_intD hx hy rx ry,lt_intD hx hy rx ry⟩
    · exact fun i j _ _ hx hy rx ry _=>⟨eq_strD hx hy rx ry,lt_strD hx hy rx ry⟩
    · exact fun xs ys hm hs hs2 hx hy rx ry hu=>cmpD_tup I kp ih hs hs2 (Sim_t hm) hx hy rx ry hu
end
end L2
set_option Elab.async false
set_option linter.all false
set_option maxRecDepth 100000
set_option maxHeartbeats 400000
namespace SO
open PySem PySem.W PyProof.Rows
section
variable {prog:Program} {w:World} {A:Around} {E:Value→Shared→Prop} {s:Shared}
theorem collect_seq {l:Addr} {c:String} {vs:List Value} {o:Obj} {n:Nat} {Q:List Value→Shared→Prop} (ho:s.heap.get? l=some o) (hc:o.cls=.type c) (hcc:c = "list"∨c = "tuple") (hd:o.data=.seq vs.toArray n)
    (h:Q vs { s with heap:=(s.heap.push (seqObj "list" #[] 0)).update s.heap.objs.size (Obj.mapSeq (· ++ vs.toArray)) }) (hsz:vs.length≤sizeLine) :
    wpAny (model prog w) A (collect (.ref l)) Q E s:=by
  unfold collect
  refine wpAny_bind (wpAny_runValue (codeAny_builtin entry_proto_collect' ?_))
  show wpAny _ _ (do again (.builtin "list.__iadd__" ⟨[← newList [],.ref l],[]⟩)) _ _ s
  refine wpAny_bind (wpAny_newList (wpAny_pure ⟨Code.quiet_builtin _ (by decide +kernel),codeAny_builtin entry_list_iadd' ?_⟩))
  show wpAny _ _ (Builtin.List.listExtendWith (.ref s.heap.objs.size) (.ref l) (.ref s.heap.objs.size)) _ _ { s with heap:=s.heap.push (seqObj "list" #[] 0) }
  unfold Builtin.List.listExtendWith
  have ho':(s.heap.push (seqObj "list" #[] 0)).get? l=some o:=Heap.get?_push_of_some _ ho
  refine wpAny_bind (wpAny_typeOf (T:=c) ⟨o,ho',hc⟩ ?_)
  rw [if_pos (by rcases hcc with rfl | rfl <;> simp)]
  refine wpAny_bind (listItems_at ho' hd ?_)
  refine wpAny_bind (listItems_at (xs:=#[]) (n:=0) (Heap.get?_push_size _ rfl) rfl ?_)
  rw [if_neg (by simp)]
  refine wpAny_bind (listUpdate_at (xs:=#[]) (n:=0) (Heap.get?_push_size _ rfl) rfl ?_ (Nat.zero_le _) (by show (#[]++vs.toArray).size≤sizeLine+1; simp only [Array.size_append,List.size_toArray,List.length_nil]; omega))
  refine wpAny_pure ?_
  show wpAny (model prog w) A (do
      let o ← load s.heap.objs.size
      match o.data with
      | .seq xs _=>pure xs.toList
      | _=>unsupported "internal:collect") Q E { s with heap:=(s.heap.push (seqObj "list" #[] 0)).update s.heap.objs.size (Obj.mapSeq (· ++ vs.toArray)) }
  refine wpAny_bind (wpAny_load (get?_update_seq (Heap.get?_push_size _ rfl) _) ?_)
  show wpAny _ _ (pure ((#[]:Array Value)++vs.toArray).toList) Q E _
  rw [show ((#[]:Array Value)++vs.toArray).toList=vs by simp]
  exact wpAny_pure h
theorem katlex {b fin:Bool} {Q:Bool→Shared→Prop} {e f:Nat→Bool}:∀ (l:List (Value × Value)) (i:Nat),(∀ j p q,l[j]?=some (p,q)→SeqAt.EqAt A s p q (e (i+j))) →
    (∀ j p q,l[j]?=some (p,q)→e (i+j)=false→∀ (Q:Bool→Shared→Prop) (E:Value→Shared→Prop),Q (f (i+j)) s→wpAny (model prog w) A (oneLt' (b && (i+j) == 0) p q) Q E s) →
    Q (SeqAt.lexR e f fin (List.range' i l.length)) s→KatLex prog w A b fin Q l i s
  | [],i,_,_,h=>kat_nil h
  | (p,q) :: l,i,he,hf,h=>by
    refine kat_cons ((he 0 p q rfl) prog w _ _ ?_)
    rw [Nat.add_zero]
    have h':Q (if e i=true then SeqAt.lexR e f fin (List.range' (i+1) l.length) else f i) s:=h
    cases hy:e i with
    | true =>
      rw [hy,if_pos rfl] at h'
      exact kat_yes (katlex l (i+1) (fun j p q z=>by rw [show i+1+j=i+(j+1) by omega]; exact he (j+1) p q (by simpa using z)) (fun j p q z=>by rw [show i+1+j=i+(j+1) by omega]; exact hf (j+1) p q (by simpa using z)) h')
    | false =>
      rw [hy,if_neg (by simp)] at h'
      exact kat_no (by have:=hf 0 p q rfl (by simpa using hy) Q (fun _ _=>False) (by simpa using h'); simpa using this)
end
end SO
namespace L2
open PySem PySem.Spec PyProof.Rows
open SeqAt (lexR)
def Hom (ds:List D):Prop:=(∀ a∈ds,∀ b∈ds,Sim a b)∧((∀ d∈ds,∃ i,d=.int i)∨(∀ d∈ds,∃ x,d=.str x)∨(∀ d∈ds,∃ e r,d=.tup (e :: r)))
theorem denL_map {H:Hp} {vs:List V} {ds:List D} (h:DenL H vs ds):∀ l:List Nat,(∀ i∈l,i < ds.length)→DenL H (l.map fun i=>vs.getD i .non) (l.map fun i=>ds.getD i .non)
  | [],_=>trivial
  | i :: l,hl=>by
    refine ⟨?_,denL_map h l fun j hj=>hl j (.tail _ hj)⟩
    have hi:i < vs.length:=by rw [h.len]; exact hl i (.head _)
    obtain ⟨d,hd,r⟩:=h.at_ (List.getElem?_eq_getElem hi)
    dsimp only
    rw [List.getD_eq_getElem?_getD,List.getD_eq_getElem?_getD,hd,List.getElem?_eq_getElem hi]
    exact r
theorem vals_map {vs:List V} {its:List Value} (h:Vals vs its):∀ l:List Nat,(∀ i∈l,i < vs.length)→Vals (l.map fun i=>vs.getD i .non) (l.map fun i=>its.getD i Value.none)
  | [],_=>.nil
  | i :: l,hl=>by
    refine .cons ?_ (vals_map h l fun j hj=>hl j (.tail _ hj))
    have hi:i < vs.length:=hl i (.head _)
    obtain ⟨d,hd,r⟩:=h.get (List.getElem?_eq_getElem hi)
    dsimp only
    rw [List.getD_eq_getElem?_getD,List.getD_eq_getElem?_getD,hd,List.getElem?_eq_getElem hi]
    exact r
section
variable {X:Cx} {pins:List (Addr × Obj)} {σ:St} {H:Hp} {s:Shared}
theorem at3 {vs:List V} {ds:List D} {its:List Value} (hd:DenL H vs ds) (r:Vals vs its) {i:Nat} (hi:i < ds.length):∃ (x:V) (v:Value),vs[i]?=some x∧its[i]?=some v∧its.getD i Value.none=v∧Den H x (ds.getD i .non)∧RelV x v∧ds.getD i .non∈ds:=by
  have hv:i < vs.length:=by rw [hd.len]; exact hi
  obtain ⟨d,g,b⟩:=hd.at_ (List.getElem?_eq_getElem hv)
  obtain ⟨u,hu,ru⟩:=r.get (List.getElem?_eq_getElem hv)
  have e:ds.getD i .non=d:=by rw [List.getD_eq_getElem?_getD,g]; rfl
  rw [e]
  exact ⟨_,u,List.getElem?_eq_getElem hv,hu,by rw [List.getD_eq_getElem?_getD,hu]; rfl,b,ru,List.mem_of_getElem? g⟩
theorem one_false {s':Shared} {prog:Program} {w:World} {A:Around} {v u:Value} {b:Bool} (h:SeqAt.LtAt A s' v u b) (Q:Bool→Shared→Prop) (E:Value→Shared→Prop) (q:Q b s'):wpAny (model prog w) A (oneLt' false v u) Q E s' :=
  PySem.W.kat_one v u (h prog w E _ q)
theorem one_true {s':Shared} {prog:Program} {w:World} {A:Around} {x y:V} {d e:D} {v u:Value} (hm:Sim d e) (hd:Den H x d) (he:Den H y e) (rx:RelV x v) (ry:RelV y u) (nt:∀ ds,d≠.tup ds) (Q:Bool→Shared→Prop) (E:Value→Shared→Prop) (q:Q (dlt d e) s') :
    wpAny (model prog w) A (oneLt' true v u) Q E s':=by
  revert hd he nt q
  refine sim_cases (P:=fun d e=>Den H x d→Den H y e→(∀ ds,d≠.tup ds)→Q (dlt d e) s'→wpAny (model prog w) A (oneLt' true v u) Q E s') ?_ ?_ ?_ hm
  · intro i j hx hy _ q
    have e1:x=.int i:=hx
    have e2:y=.int j:=hy
    subst e1
    subst e2
    obtain ⟨t,rfl⟩:=rx
    obtain ⟨t',rfl⟩:=ry
    rw [dlt_int] at q
    exact oneLt_int q
  · intro i j hx hy _ q
    have e1:x=.str i:=hx
    have e2:y=.str j:=hy
    subst e1
    subst e2
    obtain ⟨t,rfl⟩:=rx
    obtain ⟨t',rfl⟩:=ry
    rw [dlt_str] at q
    exact oneLt_str q
  · intro xs ys _ _ _ nt _
    exact absurd rfl (nt xs)
theorem looks_of {M:Model} {x:V} {v:Value} {d:D} (I:Inv X pins σ H s) {h':Heap} (kp:SO.Keeps s.heap h') (hd:Den H x d) (rx:RelV x v):(∀ i,d=.int i→PySem.W.Looks M h' (typeOf v) (.type "int"))∧(∀ i,d=.str i→PySem.W.Looks M h' (typeOf v) (.type "str")) ∧
    (∀ ds,d=.tup ds→PySem.W.Looks M h' (typeOf v) (.type "tuple")):=by
  refine ⟨fun i e=>?_,fun i e=>?_,fun ds e=>?_⟩
  · subst e
    have e1:x=.int i:=hd
    subst e1
    obtain ⟨t,rfl⟩:=rx
    exact PySem.W.Looks.of_pure rfl
  · subst e
    have e1:x=.str i:=hd
    subst e1
    obtain ⟨t,rfl⟩:=rx
    exact PySem.W.Looks.of_pure rfl
  · subst e
    obtain ⟨a,vs,rfl,ha,hda⟩:=den_tup hd
    cases rx
    obtain ⟨its,r1,⟨o,eo,ec,_⟩,_⟩:=I.tuple (SqT.of (K:=X.K) ha)
    rw [← ec]
    exact (PySem.W.Looks.ld (kp _ _ eo)).andThen .now
def tyD:D→Value
  | .int _=>.type "int"
  | .str _=>.type "str"
  | _=>.type "tuple"
theorem tyD_sim {d e:D} (h:Sim d e):tyD d=tyD e:=sim_cases (P:=fun d e=>tyD d=tyD e) (fun _ _=>rfl) (fun _ _=>rfl) (fun _ _ _=>rfl) h
theorem tyD_self (d:D):(tyD d == tyD d)=true:=by cases d <;> rfl
theorem tyD_tup {d e:D} (hm:Sim d e) (h:(tyD d != .type "tuple")=true):∀ ds,d≠.tup ds:=by
  intro ds z
  subst z
  exact absurd (show (Value.type "tuple" != Value.type "tuple")=true from h) (by decide)
theorem looks_ty {M:Model} {x:V} {v:Value} {d e:D} (I:Inv X pins σ H s) {h':Heap} (kp:SO.Keeps s.heap h') (hm:Sim d e) (hd:Den H x d) (rx:RelV x v):PySem.W.Looks M h' (typeOf v) (tyD d):=by
  obtain ⟨a,b,c⟩:=looks_of (M:=M) I kp hd rx
  revert a b c
  exact sim_cases (P:=fun d e=>(∀ i,d=.int i→PySem.W.Looks M h' (typeOf v) (.type "int"))→(∀ i,d=.str i→PySem.W.Looks M h' (typeOf v) (.type "str"))→(∀ ds,d=.tup ds→PySem.W.Looks M h' (typeOf v) (.type "tuple"))→PySem.W.Looks M h' (typeOf v) (tyD d))
    (fun i _ a _ _=>a i rfl) (fun i _ _ b _=>b i rfl) (fun xs _ _ _ _ c=>c xs rfl) hm
theorem kat_tups (I:Inv X pins σ H s) {h':Heap} (kp:SO.Keeps s.heap h'):∀ {vs:List V} {ds:List D} {its:List Value},DenL H vs ds→Vals vs its→(∀ d∈ds,∃ e r,d=.tup (e :: r)) →
    ∃ fs,PySem.W.KatTups h' its fs∧fs.length=its.length∧∀ v∈fs,∃ (x:V) (d:D) (r:List D),Den H x d∧RelV x v∧D.tup (d :: r)∈ds
  | [],[],_,_,.nil,_=>⟨[],trivial,rfl,fun v hv=>by cases hv⟩
  | x :: vs,d :: ds,_,hd,.cons r rr,ht=>by
    obtain ⟨fs,k,l,m⟩:=kat_tups I kp hd.2 rr fun d hd=>ht d (.tail _ hd)
    obtain ⟨e,r0,rfl⟩:=ht d (.head _)
    obtain ⟨a,ws,rfl,ha,hda⟩:=den_tup hd.1
    cases r
    obtain ⟨its1,r1,⟨o,eo,ec,n,ed⟩,_⟩:=I.tuple (SqT.of (K:=X.K) ha)
    match ws,its1,hda,r1,ed with
    | w0 :: ws,_ :: its1,hda,.cons q0 q,ed =>
      refine ⟨_ :: fs,PySem.W.KatTups.cons (kp _ _ eo) ec ed (by simp; rfl) k,by simp [l],fun v hv=>?_⟩
      rcases List.mem_cons.mp hv with rfl | hv
      · exact ⟨w0,e,r0,hda.1,q0,.head _⟩
      · obtain ⟨x,d,r,z1,z2,z3⟩:=m v hv
        exact ⟨x,d,r,z1,z2,.tail _ z3⟩
    | [],_,hda,_,_=>exact hda.elim
end
end L2
set_option Elab.async false
set_option linter.all false
set_option maxRecDepth 100000
set_option maxHeartbeats 400000
namespace PySem.SeqAt
open AutoSeq1 (wpAny_loadPart')
open MeetsSeq MeetsSeq2 MeetsSeq3 SeqRoads2
theorem list_extend_tup (l:Addr) (items:Array Value) (n:Nat) (b:Addr) (items2:Array Value) (n2:Nat) (dd:Option Addr) (sl:Array (Option Value)) (hs0:¬(!items.isEmpty && Builtin.List.listTooLong (items.size+items2.size))=true) (hs1:items.size≤sizeLine) (hs2:items.size+items2.size≤sizeLine+1) :
    Meets (Builtin.«list.extend» ⟨[.ref l,.ref b],[]⟩) (fun _ R s=>s.heap.get? l=some { cls:=.type "list",dict:=none,data:=.seq items n,slots:=#[] }∧s.heap.get? b=some { cls:=.type "tuple",dict:=dd,data:=.seq items2 n2,slots:=sl }∧R (.ok (.ret Value.none)) { s with heap:=s.heap.update l (Obj.mapSeq fun x=>x++items2),toks:=s.toks }) :=
  .of_wp fun prog w A R s h=>by
    obtain ⟨hp,g,d,tk,os⟩:=s; obtain ⟨hl,hb,h⟩:=h; have f2:=AutoSeq1.sub_tuple_tuple
    have hz':(items++items2).size≤sizeLine+1:=by rw [Array.size_append]; exact hs2
    wp_walk using (wpAny_updateSeq hl rfl (hz:=hs1) (_hz':=hz')),wpAny_loadPart' hl,wpAny_loadPart' hb; exact ⟨_,rfl,h⟩
end PySem.SeqAt
namespace L2
open PySem PySem.Spec PyProof.Rows
def rExtendT (K:PySem.W.Frag):V→List V→Hp→VK→Prop:=fun x vs H Q=>∃ (l b:Addr) (xs zs:List V),x=.ref l∧vs=[.ref b]∧H l=some (.lst xs)∧SqT K H b zs∧xs.length+zs.length≤sizeLine∧Q .non (upd H l (.lst (xs++zs)))
theorem mt_extendT {X:Cx}:MtM X "list.extend" (rExtendT X.K):=by
  intro pins s σ H x vs v us Q I rx rv h
  obtain ⟨l,b,xs,zs,rfl,rfl,hH,hB,hz,q⟩:=h
  cases rx
  obtain ⟨u,rfl,ru⟩:=rv.one
  cases ru
  obtain ⟨z,its,n,r,hl,e⟩:=I.lstM hH
  obtain ⟨its2,r2,⟨⟨cls,dd,data,sl⟩,e2,ec,n2,ed⟩,_⟩:=I.tuple hB
  simp only at ec ed
  subst ec ed
  have hl2:=r2.length
  have hsz:its.toArray.size+its2.toArray.size≤sizeLine:=by rw [List.size_toArray,List.size_toArray]; omega
  have hlong:¬ (!its.toArray.isEmpty && Builtin.List.listTooLong (its.toArray.size+its2.toArray.size))=true:=by
    rw [notLongL hsz,Bool.and_false]
    exact Bool.false_ne_true
  refine call_meets F.slot_list_extend ⟨_,e,rfl⟩ F.entry_list_extend (F.args_list_extend_2 _ _)
    (SeqAt.list_extend_tup l its.toArray n b its2.toArray n2 dd sl hlong (by rw [List.size_toArray]; omega) (by omega)) ⟨e,e2,?_⟩
  refine ⟨.non,_,I.lset (its':=its++its2) hH e (by simp) (r.append r2) ?_,rfl,q⟩
  rw [List.length_append]
  omega
end L2
set_option Elab.async false
set_option linter.all false
set_option maxRecDepth 100000
set_option maxHeartbeats 400000
namespace L2
open PySem PySem.Spec PyProof.Rows
theorem foldl_repN (t:List Nat):∀ (k:Nat) (acc:List Nat),List.foldl (fun x1 x2=>x1++x2) acc.toArray (List.replicate k t.toArray)=(acc++(List.replicate k t).flatten).toArray
  | 0,acc=>by simp
  | k+1,acc=>by
    have e:acc.toArray++t.toArray=(acc++t).toArray:=by simp
    have e2:(acc++t)++(List.replicate k t).flatten=acc++(List.replicate (k+1) t).flatten:=by
      rw [List.replicate_succ,List.flatten_cons,List.append_assoc]
    rw [← e2,← foldl_repN t k (acc++t),← e,List.replicate_succ,List.foldl_cons]
theorem rep_nil (n:Nat):(List.replicate n ([]:List Nat)).flatten=[]:=by
  induction n with
  | zero=>rfl
  | succ n ih=>rw [List.replicate_succ,List.flatten_cons,ih]; rfl
theorem mul_rep (t:List Nat) (n:Nat):Txt.mul ⟨t.toArray⟩ (n:Int)=⟨(List.replicate n t).flatten.toArray⟩:=by
  unfold Txt.mul
  by_cases h1:(n:Int) < 1
  · rw [if_pos h1]
    have:n=0:=by omega
    subst this
    rfl
  · rw [if_neg h1]
    by_cases h2:(((n:Int) == 1 || (⟨t.toArray⟩:Str).length == 0)=true)
    · rw [if_pos h2]
      rw [Bool.or_eq_true,beq_iff_eq,beq_iff_eq] at h2
      rcases h2 with z | z
      · have:n=1:=by omega
        subst this
        simp
      · have z':t=[]:=by
          have:t.toArray.size=0:=z
          simpa using this
        subst z'
        rw [rep_nil]
    · rw [if_neg h2]
      have:=foldl_repN t n []
      simp only [List.nil_append] at this
      rw [← this]
      simp
def rMulS:R2:=fun x y H Q=>∃ (t:List Nat) (n:Nat),x=.str ⟨t.toArray⟩∧y=.int (n:Nat)∧n≤100000∧t.length * n≤100000∧Q (.str ⟨(List.replicate n t).flatten.toArray⟩) H
theorem op_mulS {X:Cx}:OpR X (binaryOp .Mult) rMulS:=by
  intro pins s σ H x y v u Q I rx ry h
  obtain ⟨t,n,rfl,rfl,hn,hl,q⟩:=h
  obtain ⟨t',rfl⟩:=rx
  obtain ⟨t'',rfl⟩:=ry
  have hlen:(⟨t.toArray⟩:Str).length=t.length:=by show t.toArray.size=_; simp
  refine SB.mul ⟨?_,fun h1 _=>?_,fun h1 _=>?_⟩ fun t3 k=>?_
  · simp only [Bool.or_eq_false_iff,decide_eq_false_iff_not]
    omega
  · rw [hlen]
    intro z
    have h0:0 < n:=by omega
    have z2:((2:Int) ^ 63 - 1) / (n:Int) < (t.length:Int):=z
    rw [Int.ediv_lt_iff_lt_mul (by omega)] at z2
    have e:((t.length:Int) * (n:Int))=((t.length * n:Nat):Int):=by push_cast; rfl
    rw [e] at z2
    omega
  · rw [hlen,Int.toNat_natCast]
    unfold Builtin.Str.tooLong
    exact decide_eq_false (by have:=sizeLine_big; omega)
  · rw [mul_rep]
    exact ⟨.str _,H,I.tok _,⟨_,rfl⟩,q⟩
end L2
set_option Elab.async false
set_option linter.all false
set_option maxRecDepth 100000
namespace L2
open PySem
structure Row70 (xs:List (List Nat)):Prop where
  len:xs.length=70
  nd:xs.Nodup
  nm:∀ x∈xs,isNm ⟨x.toArray⟩=true
end L2
set_option Elab.async false
set_option linter.all false
set_option maxRecDepth 100000
set_option maxHeartbeats 400000
namespace L2
open PySem PySem.Spec PyProof.Rows
theorem pi_tupK {X:Cx} {K:PySem.W.Frag} {tg l:Expr} {tl:TE} (hK:X.K=K) (hl:PE X l tl):PI X tg l (iTup K tl):=by subst hK; exact pi_tup hl
end L2
set_option Elab.async false
set_option linter.all false
set_option maxRecDepth 100000
set_option maxHeartbeats 400000
namespace L2
open PySem PySem.Spec PyProof.Rows
end L2
set_option Elab.async false
set_option linter.all false
set_option maxRecDepth 100000
set_option maxHeartbeats 4000000
namespace L2
open PySem PySem.Spec PyProof.Rows
end L2
set_option linter.all false
namespace MN
open PySem
abbrev kwD (d:Value):List (Str × Value):=[(Str.ofString "default",d)]
theorem args_d (a v:Value):argsOk "min" ⟨[a],kwD v⟩:=by
  unfold argsOk kwD
  kernel_rfl
section
variable {prog:Program} {w:World} {A:Around} {R:Result→Shared→Prop} {It:Addr} {fp wr:List Addr} {n:Nat} {Pr:Nat→Value→Prop} {Sx:Nat→Heap→Prop}
theorem nm:(toString "min" ++ toString ".loop" : String) = "min.loop":=by decide
theorem on (W:Walks prog w A.in1 It fp wr n Pr Sx) (bt:Nat→Nat→Bool) (cm:CmpOf prog w A.in1 .Lt Pr bt) (B:Addr) (nB:B ∉ fp) (d:Value) :
    ∀ (k j:Nat) (s:Shared) (best:Value) (c:Nat),n - (j+1)=k→j+1≤n→Sx (j+1) s.heap→Pr (argBest bt j) best →
    s.heap.get? B=some { cls:=.type "list",dict:=none,data:=.seq #[best,best] c,slots:=#[] } →
    (∀ v h' tk,Pr (argBest bt (n - 1)) v→(∀ b o,b ∉ wr→b≠B→s.heap.get? b=some o→h'.get? b=some o)→R (.ok (.ret v)) { s with heap:=h',toks:=tk }) →
    codeAny (model prog w) A (.builtin "min.loop" ⟨[.ref It,.none,.ref B],kwD d⟩) R s:=by
  have nW:B ∉ wr:=fun z=>nB (W.sub _ z)
  intro k
  induction k with
  | zero =>
    intro j s best c ek ej st pb eB fin
    have en:j+1=n:=by omega
    refine codeAny_builtin PySem.F.entry_min_loop ?_
    rw [Around.under_plainId (PySem.F.plain_min_loop) _]
    show wpAny _ A.in1 (seqItems? (.ref B) >>= _) _ _ s
    refine wpAny_bind (wpAny_seqItems eB rfl ?_)
    show wpAny _ A.in1 (tryCatch (pyNext (.ref It)) _ >>= _) _ _ s
    refine wpAny_bind (wpAny_tryCatch (W.done s _ _ (en ▸ st) fun h' tk kp=>?_))
    have eB':=kp B _ nW eB
    show wpAny _ A.in1 (updateSeq B (fun _=>#[]) >>= _) _ _ _
    refine wpAny_bind ?_
    refine wpAny_updateSeq eB' rfl (wpAny_bind (wpAny_letGo (wpAny_pure ?_)))
    exact fin best _ tk (by rw [← en]; exact pb) fun b o nb nS e=>(Heap.get?_update_other _ _ (Ne.symm nS)).trans (kp b o nb e)
  | succ k ih =>
    intro j s best c ek ej st pb eB fin
    have lt:j+1 < n:=by omega
    refine codeAny_builtin PySem.F.entry_min_loop ?_
    rw [Around.under_plainId (PySem.F.plain_min_loop) _]
    show wpAny _ A.in1 (seqItems? (.ref B) >>= _) _ _ s
    refine wpAny_bind (wpAny_seqItems eB rfl ?_)
    show wpAny _ A.in1 (tryCatch (pyNext (.ref It)) _ >>= _) _ _ s
    refine wpAny_bind (wpAny_tryCatch (W.item (j+1) s _ _ lt st fun v h' tk pv st' kp=>?_))
    have eB':=kp B _ nW eB
    show wpAny _ A.in1 (tryCatch (holding [v,v] (richCompare .Lt v best >>= _)) _ >>= _) _ _ _
    refine wpAny_bind (wpAny_tryCatch (wpAny_holding (wpAny_bind (cm (j+1) (argBest bt j) v best _ _ _ pv pb ?_))))
    refine wpAny_bind (wpAny_holding (wpAny_truthy_bool ?_))
    refine wpAny_bind (wpAny_letGo (wpAny_pure ?_))
    cases eb:bt (j+1) (argBest bt j) with
    | true =>
      rw [if_pos rfl]
      refine wpAny_bind ?_
      refine wpAny_updateSeq eB' rfl (wpAny_bind (wpAny_letGo ?_))
      rw [nm]
      refine wpAny_pure ⟨plainId_quiet PySem.F.plain_min_loop _,ih (j+1) _ v _ (by omega) lt (W.frame _ _ _ st' fun b bf o e=>?_) (by simp only [argBest,eb,if_true]; exact pv) (Heap.get?_update_self _ eB' rfl) fun v' h2 tk2 pv' kp2=>?_⟩
      · exact (Heap.get?_update_other _ _ (fun z:B=b=>nB (by rw [z]; exact bf))).trans e
      · exact fin v' h2 tk2 pv' fun b o nb nS e=>kp2 b o nb nS ((Heap.get?_update_other _ _ (Ne.symm nS)).trans (kp b o nb e))
    | false =>
      rw [if_neg Bool.false_ne_true]
      refine wpAny_bind (wpAny_letGo ?_)
      rw [nm]
      refine wpAny_pure ⟨plainId_quiet PySem.F.plain_min_loop _,ih (j+1) _ best c (by omega) lt st' (by simp only [argBest,eb,Bool.false_eq_true,if_false]; exact pb) eB' fun v' h2 tk2 pv' kp2=>?_⟩
      exact fin v' h2 tk2 pv' fun b o nb nS e=>kp2 b o nb nS (kp b o nb e)
theorem begin_ (W:Walks prog w A.in1 It fp wr n Pr Sx) (bt:Nat→Nat→Bool) (cm:CmpOf prog w A.in1 .Lt Pr bt) (B:Addr) (nB:B ∉ fp) (d:Value) {s:Shared} {c:Nat} (st:Sx 0 s.heap)
    (eB:s.heap.get? B=some { cls:=.type "list",dict:=none,data:=.seq #[] c,slots:=#[] })
    (none_:n=0→∀ h' tk,(∀ b o,b ∉ wr→s.heap.get? b=some o→h'.get? b=some o)→R (.ok (.ret d)) { s with heap:=h',toks:=tk })
    (fin:0 < n→∀ v h' tk,Pr (argBest bt (n - 1)) v→(∀ b o,b ∉ wr→b≠B→s.heap.get? b=some o→h'.get? b=some o)→R (.ok (.ret v)) { s with heap:=h',toks:=tk }) :
    codeAny (model prog w) A (.builtin "min.loop" ⟨[.ref It,.none,.ref B],kwD d⟩) R s:=by
  have nW:B ∉ wr:=fun z=>nB (W.sub _ z)
  refine codeAny_builtin PySem.F.entry_min_loop ?_
  rw [Around.under_plainId (PySem.F.plain_min_loop) _]
  show wpAny _ A.in1 (seqItems? (.ref B) >>= _) _ _ s
  refine wpAny_bind (wpAny_seqItems eB rfl ?_)
  show wpAny _ A.in1 (tryCatch (pyNext (.ref It)) _ >>= _) _ _ s
  by_cases h0:n=0
  · refine wpAny_bind (wpAny_tryCatch (W.done s _ _ (h0 ▸ st) fun h' tk kp=>?_))
    show wpAny _ A.in1 (rule _ >>= _) _ _ _
    exact wpAny_bind (wpAny_rule (wpAny_pure (none_ h0 h' tk kp)))
  · have hn:0 < n:=by omega
    refine wpAny_bind (wpAny_tryCatch (W.item 0 s _ _ hn st fun v h' tk pv st' kp=>?_))
    have eB':=kp B _ nW eB
    show wpAny _ A.in1 (updateSeq B (fun _=>#[v,v]) >>= _) _ _ _
    refine wpAny_bind ?_
    refine wpAny_updateSeq eB' rfl ?_
    rw [nm]
    refine wpAny_pure ⟨plainId_quiet PySem.F.plain_min_loop _,on W bt cm B nB d _ 0 _ v _ rfl hn (W.frame _ _ _ st' fun b bf o e=>?_) pv (Heap.get?_update_self _ eB' rfl) fun v' h2 tk2 pv' kp2=>?_⟩
    · exact (Heap.get?_update_other _ _ (fun z:B=b=>nB (by rw [z]; exact bf))).trans e
    · exact fin hn v' h2 tk2 pv' fun b o nb nS e=>kp2 b o nb nS ((Heap.get?_update_other _ _ (Ne.symm nS)).trans (kp b o nb e))
end
section
variable {prog:Program} {w:World} {A:Around} {E:Value→Shared→Prop} {s:Shared}
theorem tree_kw {id:String} {b:Builtin} {args:List Value} {kw:List (Str × Value)} {Q:Value→Shared→Prop} (h1:builtinKind id=none) (h2:plainId id=true) (h3:entryFor table id=some b) (h4:argsOk id ⟨args,kw⟩)
    (h:wpAny (model prog w) A.in1 (b ⟨args,kw⟩) (fun fin s'=>match fin with
      | .done f=>(match (Except.ok f:Result) with | .ok (.ret v)=>Q v s' | .ok _=>False | .error e=>E e s')
      | .again c'=>c'.quiet=true∧codeAny (model prog w) A c' (fun r s'=>match r with | .ok (.ret v)=>Q v s' | .ok _=>False | .error e=>E e s') s') E s):wpAny (model prog w) A (call (.builtin id) args kw) Q E s:=by
  refine wpAny_call (codeAny_call_builtin h2 h3 ?_)
  simp only [checkBuiltinCall,h1]
  cases e:Manifest.signature? id with
  | none=>exact wpAny_pure h
  | some sg =>
    have h4':Bind.checkArgs id sg ⟨args,kw⟩=pure ():=by simpa only [argsOk,e] using h4
    simp only [h4']
    exact wpAny_pure h
theorem call {x d:Value} {Q:Value→Shared→Prop}
    (h:wpAny (model prog w) A.in1 (pyIter x) (fun it s2=>∃ I fp wr n Pr Sx bt,it=.ref I∧Walks prog w A.in1 I fp wr n Pr Sx∧Sx 0 s2.heap∧(∀ b∈fp,b < s2.heap.objs.size)∧CmpOf prog w A.in1 .Lt Pr bt ∧
      (n=0→∀ h' tk,(∀ b o,b ∉ wr→s2.heap.get? b=some o→h'.get? b=some o)→Q d { s2 with heap:=h',toks:=tk }) ∧
      (0 < n→∀ v h' tk,Pr (argBest bt (n - 1)) v→(∀ b o,b ∉ wr→s2.heap.get? b=some o→h'.get? b=some o)→Q v { s2 with heap:=h',toks:=tk })) E s) :
    wpAny (model prog w) A (PySem.call (.builtin "min") [x] (kwD d)) Q E s:=by
  refine tree_kw PySem.F.kind_min PySem.F.plain_min PySem.F.entry_min (args_d _ _) ?_
  show wpAny _ A.in1 (Builtin.Builtins.bindParams "min" ["key", "default"] 0 ⟨[],kwD d⟩ >>= _) _ _ s
  refine wpAny_bind (wpAny_of_eq (show Builtin.Builtins.bindParams "min" ["key", "default"] 0 ⟨[],kwD d⟩=pure [none,some d] from rfl) ?_)
  refine wpAny_bind (wpAny_pure ?_)
  refine wpAny_bind (wpAny_mono h (fun it s2 h2=>?_) fun _ _ e=>e)
  obtain ⟨I,fp,wr,n,Pr,Sx,bt,rfl,W,st,hf,cm,q0,q1⟩:=h2
  refine wpAny_bind (wpAny_newObj_type ?_)
  have nB:s2.heap.objs.size ∉ fp:=fun z=>Nat.lt_irrefl _ (hf _ z)
  rw [nm]
  refine wpAny_pure ⟨plainId_quiet PySem.F.plain_min_loop _,begin_ W bt cm s2.heap.objs.size nB d (W.frame _ _ _ st fun b _ o e=>Heap.get?_push_of_some _ e) (Heap.get?_push_size _ rfl) (fun z h' tk kp=>?_) fun z v h' tk pv kp=>?_⟩
  · exact q0 z h' tk fun b o nb e=>kp b o nb (Heap.get?_push_of_some _ e)
  · exact q1 z v h' tk pv fun b o nb e=>kp b o nb (Nat.ne_of_lt (Heap.lt_size e)) (Heap.get?_push_of_some _ e)
end
end MN
set_option Elab.async false
set_option linter.all false
set_option maxRecDepth 100000
set_option maxHeartbeats 4000000
namespace L2
open PySem PySem.Spec PyProof.Rows
def tMinN (K:PySem.W.Frag) (te:TE):TE:=fun σ H Q=>te σ H fun x H1=>∃ (l:Addr) (ns:List Int),x=.ref l∧SqL K H1 l (ns.map V.int)∧(ns=[]→Q .non H1)∧∀ m∈ns,(∀ n∈ns,m≤n)→Q (.int m) H1
theorem pe_minN {X:Cx} {e:Expr} {te:TE} {p pos cpos kpos:Pos} {j:Nat} (hc:X.calm=true) (hm:X.mg "min" = none) (hg:Gl X "min") (he:PE X e te)
    (hs:backTo pos (starEach [e] X.env)=(false,eval e X.env) :: backTo pos (starEach [] X.env):=by rfl) (hpl:(backTo pos (starEach [e] X.env)).any (·.1)=false:=by rfl)
    (hs':starEach (e :: []) X.env=(false,eval e X.env) :: starEach [] X.env:=by rfl) :
    PE X (.Call (.Name "min" p) [e] [⟨some "default",.Constant .none j cpos,kpos⟩] pos) (tMinN X.K te):=by
  intro pins s σ H Q I h
  refine wpAny_Call_Name_kw (ld_blt I hg hm boot_min ?_)
  let Qm:List V→Hp→Prop:=fun vs H1=>match vs with
    | [x]=>∃ (l:Addr) (ns:List Int),x=.ref l∧SqL X.K H1 l (ns.map V.int)∧(ns=[]→Q .non H1)∧∀ m∈ns,(∀ n∈ns,m≤n)→Q (.int m) H1
    | _=>False
  have h':tCons te tNil σ H Qm:=h
  refine callWith_kw (thn (pa_cons he pa_nil hs' pos pins s σ H Qm I h') fun us s1 ⟨vs,H1,I1,r1,q1⟩=>?_) hs hpl
  refine thn (pk_cons (nm:=some "default") (kpos:=kpos) (pe_non (j:=j) (pos:=cpos)) pk_nil pos pins s1 σ H1 (fun zs H2=>zs=[V.non]∧H2=H1) I1 ⟨rfl,rfl⟩) fun ws s2 ⟨zs,H2,I2,rz,ez,eH⟩=>?_
  subst ez
  subst eH
  obtain ⟨w0,rfl,r0⟩:=vals1 rz
  cases r0
  match vs,r1,q1 with
  | [x],r1,q1 =>
    obtain ⟨u0,rfl,r⟩:=vals1 r1
    obtain ⟨l,ns,rfl,hq,qn,qm⟩:=q1
    cases r
    obtain ⟨its,rv,pl,hz⟩:=I2.list hq
    have hl:=rv.length
    rw [List.length_map] at hl
    have hd:X.A.in1.handled=none:=I2.ok.hd hc
    show wpAny _ _ (PySem.call (.builtin "min") [.ref l] (MN.kwD .none)) _ _ _
    refine MN.call (wpAny_pyIter_list pl.isList ?_)
    obtain ⟨o,n,eo,_⟩:=id pl
    have ll:l < s2.heap.objs.size:=Heap.lt_size eo
    have I3:Inv X pins σ H2 { s2 with heap:=s2.heap.push { cls:=.type "list_iterator",data:=.fields #[.ref l,.int 0 0] } }:=I2.kept (t':=s2.toks) fun b o q=>Heap.get?_push_of_some _ q
    obtain ⟨f0,f1,f2,f3,f4,f5⟩:=I2.fpOk (b:=s2.heap.objs.size) (Nat.le_refl _) I2.fresh
    have ev:its.toArray.size=ns.length:=by rw [List.size_toArray,hl]
    refine ⟨s2.heap.objs.size,_,_,_,_,_,fun i k=>decide (ns.getD i 0 < ns.getD k 0),rfl,Walks.list hd s2.heap.objs.size l (Nat.ne_of_lt ll) its.toArray,⟨⟨_,Heap.get?_push_size _ rfl,rfl,rfl⟩,pl.isList.push _⟩,fun b hb=>?_,CmpOf.ints_lt (fun i=>ns.getD i 0) (fun i v hv=>ints_at rv hv),fun z h' tk kp=>?_,fun z v h' tk hv kp=>?_⟩
    · show b < (s2.heap.push _).objs.size
      rw [Heap.size_push]
      rcases List.mem_cons.mp hb with rfl | hb
      · exact Nat.lt_succ_self _
      · rw [List.mem_singleton.mp hb]
        exact Nat.lt_succ_of_lt ll
    · have en:ns=[]:=List.eq_nil_of_length_eq_zero (by rw [← ev]; exact z)
      exact ⟨.non,H2,I3.turned (it:=s2.heap.objs.size) (fun b o hb e=>kp b o (by simpa using hb) e) f0 f1 f3 f4 f5,rfl,qn en⟩
    · obtain ⟨t,rfl⟩:=ints_at rv hv
      obtain ⟨b1,b2⟩:=argBest_lt (fun i=>ns.getD i 0) (its.toArray.size - 1)
      generalize hk:argBest (fun i k=>decide (ns.getD i 0 < ns.getD k 0)) (its.toArray.size - 1)=k at *
      have hkl:k < ns.length:=by omega
      have ek:ns.getD k 0=ns[k]:=by rw [List.getD_eq_getElem?_getD,List.getElem?_eq_getElem hkl]; rfl
      refine ⟨.int (ns.getD k 0),H2,I3.turned (it:=s2.heap.objs.size) (fun b o hb e=>kp b o (by simpa using hb) e) f0 f1 f3 f4 f5,⟨_,rfl⟩,qm _ (by rw [ek]; exact List.getElem_mem hkl) fun n hn'=>?_⟩
      obtain ⟨i,hi,ei⟩:=List.getElem_of_mem hn'
      have:=b2 i (by omega)
      have ei':ns.getD i 0=n:=by rw [List.getD_eq_getElem?_getD,List.getElem?_eq_getElem hi,← ei]; rfl
      rw [ei'] at this
      exact this
theorem allInts_of {ns:List Int} {its:List Value} (r:Vals (ns.map V.int) its):∃ xs:Array (Int × Tok),its.toArray=intItems xs∧xs.toList.map (·.1)=ns:=by
  induction ns generalizing its with
  | nil =>
    cases r
    exact ⟨#[],by simp [intItems],rfl⟩
  | cons n ns ih =>
    cases r with
    | cons r1 r2 =>
      obtain ⟨t,rfl⟩:=r1
      obtain ⟨xs,e1,e2⟩:=ih r2
      refine ⟨((n,t) :: xs.toList).toArray,?_,?_⟩
      · have e3:_=(intItems xs).toList:=congrArg Array.toList e1
        simp only [intItems,Array.toList_map] at e3
        simp [intItems,e3]
      · simp [e2]
end L2
set_option Elab.async false
set_option linter.all false
set_option maxRecDepth 100000
set_option maxHeartbeats 4000000
namespace L2
open PySem PySem.Spec PyProof.Rows
theorem freeBlock {X:Cx} {scope:Scope} {N:List Str} {cl:List (Str × Addr)} {C:Addr} {s:Shared} {H:Hp} {ex:List Addr} {pn:List (Addr × Obj)} {E:Value→Shared→Prop} {ns:List (Str × NameKind)} (h:∀ y∈ns,y.2=.free→scope.names.lookup y.1=some .free) :
    ∀ y∈ns,y.2=.free→(blockCx X scope N cl C s H ex pn E).env.scope.names.lookup y.1=some .cell∨(blockCx X scope N cl C s H ex pn E).env.scope.names.lookup y.1=some .free:=fun y hy hf=>relabel_free (h y hy hf)
end L2
set_option Elab.async false
set_option linter.all false
set_option maxRecDepth 100000
set_option maxHeartbeats 4000000
namespace L2
open PySem PySem.Spec PyProof.Rows
def rEqDt:R2:=fun x y H Q=>∃ (ds es:List D) (n:Nat),Den H x (.tup ds)∧Den H y (.tup es)∧Shal (n+1) (.tup ds)∧Shal (n+1) (.tup es)∧n≤50∧SimL ds es∧Q (.bl (eqD (.tup ds) (.tup es))) H
theorem op_eqDt {X:Cx} (hu:X.A.units+64 < cLine):OpR X (compareOp .Eq) rEqDt:=by
  intro pins s σ H x y v u Q I rx ry h
  obtain ⟨ds,es,n,hx,hy,hs1,hs2,hn,hm,q⟩:=h
  have ih:=cmpD I (s':=s) (fun b o z=>z) n
  obtain ⟨a,vs,rfl,ha,hda⟩:=den_tup hx
  obtain ⟨b,us,rfl,hb,hdb⟩:=den_tup hy
  cases rx
  cases ry
  obtain ⟨its,r1,p1,_⟩:=I.tuple (SqT.of (K:=X.K) ha)
  obtain ⟨its2,r2,p2,_⟩:=I.tuple (SqT.of (K:=X.K) hb)
  have l1:=hda.len
  have l2:=hdb.len
  have m1:=r1.length
  have m2:=r2.length
  have e0:=allR_eq ds es
  rw [show ds.length=its.toArray.size by simp; omega,show es.length=its2.toArray.size by simp; omega] at e0
  refine SeqAt.eq_tupleAt (e:=fun j=>eqD (ds.getD j .non) (es.getD j .non)) p1 p2 (by omega) (fun j h1 h2=>?_) ?_
  · have hj1:j < vs.length:=by simpa [m1] using h1
    have hj2:j < us.length:=by simpa [m2] using h2
    obtain ⟨d1,g1,b1⟩:=hda.at_ (List.getElem?_eq_getElem hj1)
    obtain ⟨d2,g2,b2⟩:=hdb.at_ (List.getElem?_eq_getElem hj2)
    obtain ⟨w1,hw1,rw1⟩:=r1.get (List.getElem?_eq_getElem hj1)
    obtain ⟨w2,hw2,rw2⟩:=r2.get (List.getElem?_eq_getElem hj2)
    have q1:its.toArray[j]=w1:=by
      have:=(List.getElem?_eq_some_iff.mp hw1).2
      simpa using this
    have q2:its2.toArray[j]=w2:=by
      have:=(List.getElem?_eq_some_iff.mp hw2).2
      simpa using this
    rw [q1,q2]
    rw [List.getD_eq_getElem?_getD,List.getD_eq_getElem?_getD,g1,g2]
    have s1:=(hs1.2 ds rfl).2 d1 (List.mem_of_getElem? g1)
    have s2:=(hs2.2 es rfl).2 d2 (List.mem_of_getElem? g2)
    exact (ih d1 d2 X.A.in1 _ _ _ _ s1 s2 (hm.at_ g1 g2) b1 b2 rw1 rw2 (by first | (simp only [Around.in1]; omega) | omega)).1
  · rw [e0]
    exact ⟨.bl _,H,I,rfl,q⟩
end L2
set_option Elab.async false
set_option linter.all false
set_option maxRecDepth 100000
set_option maxHeartbeats 4000000
namespace L2
open PySem PySem.Spec PyProof.Rows
def ExcAt (cls:Value) (T e:Addr) (h:Heap):Prop:=∃ oe vs a0,h.get? e=some oe∧oe.cls=cls∧oe.data=.fields vs∧vs[0]?=some a0∧vs[1]?=some (.ref T)
def TrAt (T:Addr) (h:Heap):Prop:=∃ oT ts,h.get? T=some oT∧oT.data=.fields ts∧ts[3]?=some .none
def ExcO (cls:Value) (T e:Addr):HO:=.ext (ExcAt cls T e)
def TrO (T:Addr):HO:=.ext (TrAt T)
theorem excO_ok {P:Program} {w:World} {H:Hp} {h:Heap} {cls:Value} {T e:Addr} (x:ExcAt cls T e h):ObjOk P w H h e (ExcO cls T e):=by
  refine ⟨x,?_,fun h1 h2 p k=>?_⟩
  · obtain ⟨oe,_,_,he,_⟩:=x
    exact ⟨oe,he⟩
  · obtain ⟨oe,vs,a0,he,r⟩:=p
    exact ⟨oe,vs,a0,k oe he,r⟩
theorem trO_ok {P:Program} {w:World} {H:Hp} {h:Heap} {T:Addr} (x:TrAt T h):ObjOk P w H h T (TrO T):=by
  refine ⟨x,?_,fun h1 h2 p k=>?_⟩
  · obtain ⟨oe,_,he,_⟩:=x
    exact ⟨oe,he⟩
  · obtain ⟨oe,vs,he,r⟩:=p
    exact ⟨oe,vs,k oe he,r⟩
def CX1 (P:Program) (w:World):CXT:=fun outer H s E e s'=>∃ (ea T:Addr) (cls:Value) (H':Hp),e=.ref ea∧T≠ea∧s'.os=s.os∧AllBare s'.gens∧Un (frs outer) [] H H' s.heap s'.heap∧HOk P w H' s'.heap ∧
  H' ea=some (ExcO cls T ea)∧H' T=some (TrO T)∧E cls (some ea) H'
section
variable {M:Model} {A:Around} {E:Value→Shared→Prop} {s:Shared} {base:Heap} {env:Env} {outer:List Env} {L e:Addr}
structure Left (fs:List Addr) (e:Addr) (cls:Value) (T:Addr) (h h':Heap):Prop where
  keep:∀ b o,h.get? b=some o→b ∉ fs→b≠e→h'.get? b=some o
  slot:∀ b o,h.get? b=some o→b∈fs→∃ sl,h'.get? b=some { o with slots:=sl }
  new:h.get? T=none
  ne:T≠e
  exc:ExcAt cls T e h'
  tr:TrAt T h'
theorem funFrames_of {base B h:Heap} {l:List Env} (hl:h.FunFrames base l) (hB:∀ b∈frs l,B.get? b=none):h.FunFrames B l:=by
  induction l with
  | nil=>trivial
  | cons env r ih =>
    obtain ⟨hk,⟨L,o,hf,hn,ho,hd⟩,hr⟩:=hl
    refine ⟨hk,⟨L,o,hf,hB L ?_,ho,hd⟩,ih hr fun b hb=>hB b ?_⟩
    · unfold frs; rw [List.filterMap_cons,hf]; exact List.mem_cons_self
    · unfold frs; rw [List.filterMap_cons,hf]; exact List.mem_cons_of_mem _ hb
theorem left_of {cls a0:Value} {h':Heap} (hl:s.heap.FunFrames base (env :: outer))
    (x:Heap.LeftW (PySem.W.hideAll s.heap (e :: frs (env :: outer))) (env :: outer) e cls a0 s.heap h'):∃ T,Left (frs (env :: outer)) e cls T s.heap h':=by
  obtain ⟨k1,k2,⟨oe,vs,T,oT,ts,he,⟨hc,h0⟩,hd,h1,hnT,hTe,hT,hdT,h3⟩,k4⟩:=x
  refine ⟨T,fun b o hb hn hne=>k1 b o (PySem.W.hideAll_get _ hb fun z=>?_),fun b o hb hm=>?_,?_,hTe,⟨oe,vs,a0,he,hc,hd,h0,h1⟩,⟨oT,ts,hT,hdT,h3⟩⟩
  · rcases List.mem_cons.mp z with z | z
    · exact hne z
    · exact hn z
  · obtain ⟨_,o',ho',hnf⟩:=hl.mem hm
    rw [hb] at ho'; cases ho'
    exact k4 b o hb hnf
  · cases q:s.heap.get? T with
    | none=>rfl
    | some o =>
      exfalso
      by_cases hm:T∈frs (env :: outer)
      · obtain ⟨_,o',ho',hnf⟩:=hl.mem hm
        obtain ⟨sl,e1⟩:=k4 T o' ho' hnf
        rw [hT] at e1; cases e1
        exact hnf ts hdT
      · have:=PySem.W.hideAll_get (e :: frs (env :: outer)) q fun z=>(List.mem_cons.mp z).elim hTe hm
        rw [hnT] at this; cases this
theorem leave_first {oe:Obj} {vs:Array Value} {a0:Value} {Q:Unit→Shared→Prop} (hfr:A.frames=some (env :: outer)) (hl:s.heap.FunFrames base (env :: outer)) (hf:env.frame=some L)
    (he:s.heap.get? e=some oe) (hd:oe.data=.fields vs) (h1:vs[1]?=some .none) (h0:vs[0]?=some a0)
    (h:∀ h' T,Left (frs (env :: outer)) e oe.cls T s.heap h'→Q () { s with heap:=h' }):wpAny M A (leaving env (.ref e)) Q E s:=by
  refine wpAny_leaving_firstW (base:=PySem.W.hideAll s.heap (e :: frs (env :: outer))) hfr (funFrames_of hl fun b hb=>PySem.W.hideAll_none _ (List.mem_cons_of_mem _ hb)) hf he (fun b o hb=>PySem.W.of_hideAll _ hb) (PySem.W.hideAll_none _ List.mem_cons_self) hd h1 h0 fun h' x=>?_
  obtain ⟨T,y⟩:=left_of hl x
  exact h h' T y
theorem note_next {cls:Value} {T:Addr} {Q:Unit→Shared→Prop} (hfr:A.frames=some (env :: outer)) (hl:s.heap.FunFrames base (env :: outer)) (hf:env.frame=some L)
    (hx:ExcAt cls T e s.heap) (hT:TrAt T s.heap) (hTe:T≠e)
    (h:∀ h1 h' T',(∀ b,b≠T→h1.get? b=s.heap.get? b)→TrAt T h1→Left (frs (env :: outer)) e cls T' h1 h'→Q () { s with heap:=h' }):wpAny M A (noteFrame (.ref e) env) (fun _ s'=>wpAny M A (setFlight (.ref e) none) Q E s') E s:=by
  obtain ⟨oe,vs,a0,he,hcls,hd,h0,h1⟩:=hx
  obtain ⟨oT,ts,hT,hdT,h3⟩:=hT
  subst hcls
  unfold noteFrame
  simp only [hf]
  refine wpAny_bind (wpAny_field he hd h1 ?_)
  rw [if_pos (show (Value.ref T != Value.none)=true from by simp)]
  refine wpAny_bind (wpAny_field hT hdT h3 ?_)
  rw [if_neg (show ¬ ((Value.none == rawInt L)=true) from by simp [rawInt])]
  refine wpAny_bind (wpAny_setField hT hdT (Array.getElem?_eq_some_iff.mp h3).1 ?_)
  have other:∀ b,b≠T→(s.heap.update T (Obj.mapFields (·.setIfInBounds 3 Value.none))).get? b=s.heap.get? b:=fun b hb=>Heap.get?_update_other _ _ (Ne.symm hb)
  have noRecord:∀ b o,s.heap.get? b=some o→(∀ vs,o.data≠.fields vs)→b≠T:=fun b o hb hnf q=>by
    rw [q,hT] at hb; injection hb with hb; subst hb; exact hnf ts hdT
  have hl1:(s.heap.update T (Obj.mapFields (·.setIfInBounds 3 Value.none))).FunFrames base (env :: outer):=hl.of_keeps fun b o hb hnf=>⟨o,(other b (noRecord b o hb hnf)).trans hb,rfl⟩
  have hT1:TrAt T (s.heap.update T (Obj.mapFields (·.setIfInBounds 3 Value.none))) :=
    ⟨_,_,Heap.get?_update_self _ hT (Obj.isFreed_of_fields (Obj.data_mapFields hdT _)),Obj.data_mapFields hdT _,by simp [(Array.getElem?_eq_some_iff.mp h3).1]⟩
  refine wpAny_newEntryW (base:=PySem.W.hideAll (s.heap.update T (Obj.mapFields (·.setIfInBounds 3 Value.none))) (e :: frs (env :: outer))) hfr (funFrames_of hl1 fun b hb=>PySem.W.hideAll_none _ (List.mem_cons_of_mem _ hb)) hf ((other e (Ne.symm hTe)).trans he)
    (fun b o hb=>PySem.W.of_hideAll _ hb) (PySem.W.hideAll_none _ List.mem_cons_self) hd (Array.getElem?_eq_some_iff.mp h1).1 h0 fun h' x=>?_
  obtain ⟨T',y⟩:=left_of (s:={ s with heap:=s.heap.update T (Obj.mapFields (·.setIfInBounds 3 Value.none)) }) hl1 x
  exact h _ h' T' other hT1 y
theorem leave_next {cls:Value} {T:Addr} {Q:Unit→Shared→Prop} (hfr:A.frames=some (env :: outer)) (hl:s.heap.FunFrames base (env :: outer)) (hf:env.frame=some L)
    (hx:ExcAt cls T e s.heap) (hT:TrAt T s.heap) (hTe:T≠e)
    (h:∀ h1 h' T',(∀ b,b≠T→h1.get? b=s.heap.get? b)→TrAt T h1→Left (frs (env :: outer)) e cls T' h1 h'→Q () { s with heap:=h' }):wpAny M A (leaving env (.ref e)) Q E s:=by
  unfold leaving
  exact wpAny_bind (note_next hfr hl hf hx hT hTe h)
end
theorem ObjOk.has {P:Program} {w:World} {H:Hp} {h:Heap} {a:Addr} {o:HO} (x:ObjOk P w H h a o):∃ u,h.get? a=some u:=by
  cases o with
  | lst xs=>obtain ⟨_,_,_,_,e⟩:=x; exact ⟨_,e⟩
  | tup xs=>obtain ⟨_,_,_,ob,e,_⟩:=x; exact ⟨_,e⟩
  | dK kvs=>obtain ⟨_,_,_,_,ob,_,_,e,_⟩:=x; exact ⟨_,e⟩
  | dT kvs=>obtain ⟨_,_,_,_,ob,_,_,e,_⟩:=x; exact ⟨_,e⟩
  | set S n=>obtain ⟨ob,_,_,_,e,_⟩:=x; exact ⟨_,e⟩
  | ins C dx fs=>obtain ⟨_,_,_,e,_⟩:=x; exact ⟨_,e⟩
  | own y=>exact x
  | xd fs=>obtain ⟨_,⟨ob,_,_,e,_⟩,_⟩:=x; exact ⟨_,e⟩
  | rng lo hi=>obtain ⟨_,_,_,e⟩:=x; exact ⟨_,e⟩
  | frz ob u=>exact ⟨_,x.1⟩
  | tbl ps=>exact ⟨_,x⟩
  | met f y=>exact ⟨_,x⟩
  | ext φ=>exact x.2.1
theorem HOk.new {P:Program} {w:World} {H:Hp} {h:Heap} {a:Addr} (x:HOk P w H h) (e:h.get? a=none):H a=none:=by
  cases q:H a with
  | none=>rfl
  | some u =>
    obtain ⟨o,z⟩:=(x a u q).has
    rw [e] at z; cases z
abbrev xH (H:Hp) (T e:Addr) (cls:Value):Hp:=upd (upd H T (TrO T)) e (ExcO cls T e)
theorem xH_T {H:Hp} {T e:Addr} {cls:Value} (h:T≠e):xH H T e cls T=some (TrO T):=by
  show upd (upd H T (TrO T)) e (ExcO cls T e) T=_
  rw [upd_ne h]; exact upd_same
section
variable {P:Program} {w:World} {fs:List Addr} {e T T0:Addr} {cls:Value} {H:Hp} {h0 h1 h':Heap}
theorem Left.un (x:Left fs e cls T h1 h') (hok:HOk P w H h0) (hfs:∀ b∈fs,H b=none) (k:∀ b o,h0.get? b=some o→b≠T0→h1.get? b=some o) (kn:∀ b,h1.get? b=none→h0.get? b=none)
    (e1:∀ o,h0.get? e=some o→∃ T1,H e=some (ExcO cls T1 e)) (t1:T0=e∨(H T0=some (TrO T0)∧TrAt T0 h1)):Un fs [] H (xH H T e cls) h0 h'∧HOk P w (xH H T e cls) h':=by
  have hT0:h0.get? T=none:=kn T x.new
  have hTn:H T=none:=hok.new hT0
  have exx:∀ u,H e=some u→∃ T1,u=ExcO cls T1 e:=fun u q=>by
    obtain ⟨o,z⟩:=(hok e u q).has
    obtain ⟨T1,r⟩:=e1 o z
    rw [r] at q; cases q; exact ⟨T1,rfl⟩
  have gen:∀ b u,H b=some u→(∀ φ,u≠.ext φ)→xH H T e cls b=some u:=fun b u q ne=>by
    have hbe:b≠e:=fun z=>by
      subst z
      obtain ⟨T1,r⟩:=exx u q
      exact ne _ r
    have hbT:b≠T:=fun z=>by subst z; rw [hTn] at q; cases q
    show upd (upd H T (TrO T)) e (ExcO cls T e) b=some u
    rw [upd_ne hbe,upd_ne hbT]; exact q
  have ke:∀ b o,h0.get? b=some o→H b=none→b≠e:=fun b o q n z=>by
    subst z
    obtain ⟨T1,r⟩:=e1 o q
    rw [n] at r; cases r
  have kT:∀ b o,h0.get? b=some o→H b=none→b≠T0:=fun b o q n z=>by
    rcases t1 with r | ⟨r,_⟩
    · exact ke b o q n (z.trans r)
    · subst z; rw [n] at r; cases r
  have on:∀ b o,h1.get? b=some o→b≠e→∃ o',h'.get? b=some o':=fun b o q hbe=>by
    by_cases hb:b∈fs
    · obtain ⟨sl,z⟩:=x.slot b o q hb
      exact ⟨_,z⟩
    · exact ⟨o,x.keep b o q hb hbe⟩
  refine ⟨⟨fun b o q n hb _=>x.keep b o (k b o q (kT b o q n)) hb (ke b o q n),fun b o q n hb _=>x.slot b o (k b o q (kT b o q n)) hb,fun b o q n _=>?_,fun b o q _=>?_,fun b xs q=>gen b _ q fun φ z=>(nomatch z),fun b o u q=>gen b _ q fun φ z=>(nomatch z),fun b ps q=>⟨#[],by rw [gen b _ q fun φ z=>(nomatch z)]; simp⟩⟩,fun b u q=>?_⟩
  · have hbT:b≠T:=fun z=>by subst z; rw [hT0] at q; cases q
    show upd (upd H T (TrO T)) e (ExcO cls T e) b=none
    rw [upd_ne (ke b o q n),upd_ne hbT]; exact n
  · by_cases hbe:b=e
    · subst hbe
      obtain ⟨oe,_,_,z,_⟩:=x.exc
      exact ⟨oe,z⟩
    · by_cases hb0:b=T0
      · subst hb0
        rcases t1 with r | ⟨_,oT,_,z,_⟩
        · exact absurd r hbe
        · exact on b oT z hbe
      · exact on b o (k b o q hb0) hbe
  · by_cases hbe:b=e
    · subst hbe
      have:u=ExcO cls T b:=by
        have q':upd (upd H T (TrO T)) b (ExcO cls T b) b=some u:=q
        rw [upd_same] at q'; cases q'; rfl
      subst this
      exact excO_ok x.exc
    · have q1:upd (upd H T (TrO T)) e (ExcO cls T e) b=some u:=q
      rw [upd_ne hbe] at q1
      by_cases hbT:b=T
      · subst hbT
        rw [upd_same] at q1; cases q1
        exact trO_ok x.tr
      · rw [upd_ne hbT] at q1
        have hbf:b ∉ fs:=fun z=>by rw [hfs b z] at q1; cases q1
        by_cases hb0:b=T0
        · subst hb0
          rcases t1 with r | ⟨r,oT,ts,z,y⟩
          · exact absurd r hbe
          · rw [r] at q1; cases q1
            exact trO_ok ⟨oT,ts,x.keep b oT z hbf hbe,y⟩
        · refine (hok b u q1).stay (fun c v hc q2=>?_) (fun c q2=>gen c _ q2 fun φ z=>(nomatch z)) fun c xs q2=>gen c _ q2 fun φ z=>(nomatch z)
          rcases hc with rfl | hc
          · exact x.keep c v (k c v q2 hb0) hbf hbe
          · have hce:c≠e:=fun z=>by
              subst z
              obtain ⟨T1,r⟩:=exx _ hc
              cases r
            have hc0:c≠T0:=fun z=>by
              rcases t1 with r | ⟨r,_⟩
              · exact hce (z.trans r)
              · subst z; rw [r] at hc; cases hc
            exact x.keep c v (k c v q2 hc0) (fun z=>by rw [hfs c z] at hc; cases hc) hce
end
section
variable {X:Cx} {pins:List (Addr × Obj)} {σ:St} {H H':Hp} {s:Shared} {h':Heap}
theorem Inv.out (I:Inv X pins σ H s) (hx:X.ex=[]) (u:Un (frs X.stack) [] H H' s.heap h'):Un (frs X.outer) [] X.H₀ H' X.s₀.heap h':=by
  have hsub:∀ b∈X.fs,b∈frs X.stack:=fun b hb=>by
    rcases I.ok.stk with e | ⟨e,hf⟩
    · rw [e]; exact hb
    · rw [e]; unfold frs; rw [List.filterMap_cons,hf]; exact List.mem_cons_of_mem _ hb
  have b0:=I.base
  rw [hx] at b0
  have t:=(b0.mono (fs':=frs X.stack) (ex':=[]) hsub fun _ z=>z).trans u
  refine ⟨fun b o q n hb hx=>t.keep b o q n (fun z=>?_) hx,fun b o q n hb hx=>t.slot b o q n (hsub b hb) hx,t.free,t.there,t.tups,t.frzs,t.tbls⟩
  rcases List.mem_cons.mp (I.stkSub b z) with r | r
  · subst r
    exact absurd (Nat.lt_of_lt_of_le (Heap.lt_size q) I.ok.above) (Nat.lt_irrefl _)
  · exact hb r
end
section
variable {P:Program} {w:World} {K:PySem.W.Frag} {mg:Str→Option Value} {base:Heap} {N:List Str} {qual:Str} {scope:Scope} {f:Addr} {cd:Value} {A:Around} {outer:List Env} {s0:Shared} {H0:Hp} {E:XK}
  {pins:List (Addr × Obj)} {σ:St} {H:Hp} {s:Shared}
theorem made_leaves {cls:Value} {args:List Value} {e:Addr} {h1:Heap} (I:Inv (cxOf (CX1 P w) P w K mg base N qual scope f cd A outer s0 H0 E) pins σ H s) (hx:Heap.MadeExcOf s.heap h1 e cls args)
    (hE:∀ T,H e=none→H T=none→E cls (some e) (xH H T e cls)):(cxOf (CX1 P w) P w K mg base N qual scope f cd A outer s0 H0 E).xe (.ref e) { s with heap:=h1 }:=by
  have hl:=I.stack
  have hl1:h1.FunFrames base (envOfC qual scope s0.heap.objs.size f cd :: outer):=hl.of_keeps fun b o hb _=>⟨o,hx.keeps b o hb,rfl⟩
  obtain ⟨t,he,htn,ht⟩:=hx.there
  refine leave_first (s:={ s with heap:=h1 }) (L:=s0.heap.objs.size) I.ok.frames hl1 rfl he rfl rfl rfl fun h' T x=>?_
  have kn:∀ b,h1.get? b=none→s.heap.get? b=none:=fun b q=>by
    cases z:s.heap.get? b with
    | none=>rfl
    | some o=>rw [hx.keeps b o z] at q; cases q
  have He:H e=none:=I.hok.new hx.new
  obtain ⟨u,ok⟩:=x.un (P:=P) (w:=w) (T0:=e) (H:=H) (h0:=s.heap) I.hok I.stkFree (fun b o q _=>hx.keeps b o q) kn (fun o q=>by rw [hx.new] at q; cases q) (.inl rfl)
  exact ⟨e,T,cls,_,rfl,x.ne,I.os,I.bare,I.out rfl u,ok,upd_same,xH_T x.ne,hE T He (I.hok.new (kn T x.new))⟩
theorem passes1 (E1:XK) (hE:∀ cls e T H',H' e=some (ExcO cls T e)→E1 cls (some e) H'→∀ T',H' T'=none→E cls (some e) (xH H' T' e cls)):Passes (CX1 P w) (cxOf (CX1 P w) P w K mg base N qual scope f cd A outer s0 H0 E) E1:=by
  intro pins σ H s e s' I h
  obtain ⟨ea,T,cls,H',rfl,hTe,os,bare,un,ok,he,hT,q⟩:=h
  have J:Inv (cxOf (CX1 P w) P w K mg base N qual scope f cd A outer s0 H0 E) pins σ H' s':=I.call' (ch:=[]) os un ok bare fun b z=>absurd z (by simp)
  have a1:ExcAt cls T ea s'.heap:=(ok ea _ he).1
  have a2:TrAt T s'.heap:=(ok T _ hT).1
  refine leave_next (s:=s') (L:=s0.heap.objs.size) J.ok.frames J.stack rfl a1 a2 hTe fun h1 h' T' k1 k2 x=>?_
  have kn:∀ b,h1.get? b=none→s'.heap.get? b=none:=fun b q=>by
    by_cases hb:b=T
    · subst hb
      obtain ⟨oT,_,z,_⟩:=k2
      rw [z] at q; cases q
    · rw [← k1 b hb]; exact q
  obtain ⟨u,ok'⟩:=x.un (P:=P) (w:=w) (T0:=T) (H:=H') (h0:=s'.heap) J.hok J.stkFree (fun b o q hb=>by rw [k1 b hb]; exact q) kn (fun o _=>⟨T,he⟩) (.inr ⟨hT,k2⟩)
  exact ⟨ea,T',cls,_,rfl,x.ne,J.os,J.bare,J.out rfl u,ok',upd_same,xH_T x.ne,hE cls ea T H' he q T' (J.hok.new (kn T' x.new))⟩
end
end L2
set_option Elab.async false
set_option linter.all false
set_option maxRecDepth 100000
set_option maxHeartbeats 4000000
namespace L2
open PySem PySem.Spec PyProof.Rows
abbrev vBm:List Value:=[.type "ValueError",.type "Exception",.type "BaseException",.type "object"]
theorem exc_cls {K:PySem.W.Frag} {h:Heap} {C:Addr} {bmB:List Value} {newId:String} {x:Str} {mg:Str→Option Value} (X:K.In h) (hb:mg x=some (.ref C)) (q:PySem.W.excIn K C bmB newId=true):OwnCls x C bmB newId mg h:=by
  refine ⟨hb,?_⟩
  unfold PySem.W.excIn at q
  split at q
  · rename_i dd cd sl ho
    split at q
    · rename_i C' bm k0 k1 k2 k3 n k5 hm hs
      simp only [Bool.and_eq_true,beq_iff_eq,Bool.not_eq_true'] at q
      obtain ⟨⟨⟨⟨⟨h1,h2⟩,h3⟩,h4⟩,h5⟩,h6⟩:=q
      subst h1; subst h2
      have e1:sl = #[k0,k1,k2,k3,some (.builtin n),k5]:=Array.toList_inj.mp hs
      subst e1
      have e2:cd={ name:=cd.name,bases:=cd.bases,mro:=.ref C' :: bm,ns:=cd.ns,qualname:=cd.qualname,hasDict:=cd.hasDict,slotNames:=cd.slotNames,subclasses:=cd.subclasses,abstract:=cd.abstract,collection:=cd.collection,hasDel:=false }:=by
        rw [← hm,← h3]
      have e3:=X _ _ ho
      rw [e2] at e3
      exact ⟨bm,cd.ns,cd.name,cd.qualname,cd.bases,cd.hasDict,cd.slotNames,cd.subclasses,cd.abstract,cd.collection,dd,k0,k1,k2,k3,k5,_,e3,.of_isNs (PySem.W.isNs_of_in X h5),PySem.W.nsMap_none_of_in X h5 h6,PySem.W.tail_of_in X h4⟩
    · cases q
  · cases q
def Throws (X:Cx) (E:XK):Prop:=∀ (pins:List (Addr × Obj)) (σ:St) (H:Hp) (s:Shared) (e:Addr) (h1:Heap) (cls:Value) (args:List Value),Inv X pins σ H s→Heap.MadeExcOf s.heap h1 e cls args →
  (∀ T,H e=none→H T=none→E cls (some e) (xH H T e cls))→X.xe (.ref e) { s with heap:=h1 }
theorem throws1 {P:Program} {w:World} {K:PySem.W.Frag} {mg:Str→Option Value} {base:Heap} {N:List Str} {qual:Str} {scope:Scope} {f:Addr} {cd:Value} {A:Around} {outer:List Env} {s0:Shared} {H0:Hp} {E:XK} :
    Throws (cxOf (CX1 P w) P w K mg base N qual scope f cd A outer s0 H0 E) E:=fun _ _ _ _ _ _ _ _ I hx hE=>made_leaves I hx hE
def tRaise (C:Addr) (E:XK) (t:TA):TS:=fun _ σ H=>t σ H fun vs H1=>vs.length≤sizeLine∧∀ e T,H1 e=none→H1 T=none→E (.ref C) (some e) (xH H1 T e (.ref C))
theorem ps_raise {X:Cx} {x:Str} {C:Addr} {E:XK} {a:Expr} {as:List Expr} {t:TA} {np cpos pos:Pos} (hc:X.calm=true) (ht:Throws X E) (hg:Gl X x) (hm:X.mg x=some (.ref C)) (hq:PySem.W.excIn X.K C vBm "ValueError.__new__" = true) (ha:PA X (a :: as) t)
    (hdb:(x == ("__debug__" : Str))=false:=by decide) (he:starEach (a :: as) X.env=(false,eval a X.env) :: starEach as X.env:=by rfl) (hpl:(backTo cpos (starEach as X.env)).any (·.1)=false:=by rfl) :
    PS X (.Raise (some (.Call (.Name x np) (a :: as) [] cpos)) none pos) (tRaise C E t):=by
  intro pins s σ H D I h
  obtain ⟨_,bm,N,nm,q,bs,hdct,sn,sub,ab,col,dd,k0,k1,k2,k3,k5,mN,hC,hN,hni,T⟩:=exc_cls (x:=x) I.mod.kin hm hq
  have hb:bm.contains (.type "BaseException")=true:=T.hasType (by decide)
  refine wpAny_Raise_call_subT (C:=C) (nm:=nm) (q:=q) (N:=N) (bs:=bs) (bm:=bm) (hdct:=hdct) (sn:=sn) (sub:=sub) (ab:=ab) (col:=col) (dd:=dd) (k0:=k0) (k1:=k1) (k2:=k2) (k3:=k3) (k5:=k5) F.excBase_ValueError hb (I.ok.hd hc) ?_ hni (ld_glob I hg hm ⟨rfl,?_⟩ hdb)
  · rw [he]; show (false || (backTo cpos (starEach as X.env)).any (·.1))=false; rw [hpl]; rfl
  have h2:=ha cpos pins s σ H _ I h
  rw [he] at h2 ⊢
  refine Calls.evalArgs_plain (wpAny_mono h2 (fun us s1 ⟨vs,H1,I1,r,q1,q2⟩=>⟨rfl,?_,I1.bk _ _ hC,hN.keeps I1.bk,T.keeps I1.bk,fun h' e hx=>ht pins σ H1 s1 e h' _ _ I1 hx fun T h3 h4=>q2 e T h3 h4⟩) fun _ _ y=>y)
  rw [← r.length]; exact q1
abbrev TJ:=St→Hp→Str→VK→Prop
def PJ (X:Cx) (es:List Expr) (t:TJ):Prop :=
  ∀ (pins:List (Addr × Obj)) (s:Shared) (σ:St) (H:Hp) (acc:Str) (Q:VK),Inv X pins σ H s→t σ H acc Q→wpAny (model X.prog X.w) X.A (joinParts acc (evalEach es X.env)) (EP X pins σ Q) X.xe s
def tJ0:TJ:=fun _ H acc Q=>acc.length≤sizeLine∧Q (.str acc) H
def tJ1 (te:TE) (tj:TJ):TJ:=fun σ H acc Q=>te σ H fun v H1=>∃ y,v=.str y∧(acc++y).length≤sizeLine∧tj σ H1 (acc++y) Q
def tFmt (te:TE):TE:=fun σ H Q=>te σ H fun v H1=>(∃ y,v=.str y∧y.length≤sizeLine∧Q v H1)∨∃ i:Int,v=.int i∧i.natAbs.log2 < 1920∧Q (.str (toString i)) H1
section
variable {X:Cx} {e e2:Expr} {es:List Expr} {te te2:TE} {tj:TJ} {pos:Pos}
theorem pj_nil:PJ X [] tJ0:=fun pins s σ H acc Q I h=>joinParts_nil ⟨.str acc,H,I.tok _,⟨_,rfl⟩,h.2⟩ h.1
theorem pj_cons (he:PE X e te) (hj:PJ X es tj):PJ X (e :: es) (tJ1 te tj):=fun pins s σ H acc Q I h=>by
  refine joinParts_cons (thn (he pins s σ H _ I h) fun u s1 ⟨v,H1,I1,r,y,e1,hl,q⟩=>?_)
  subst e1
  obtain ⟨tk,rfl⟩:=r
  exact ⟨hl,hj pins s1 σ H1 _ Q I1 q⟩
theorem pe_fmt (he:PE X e te):PE X (.FormattedValue e (-1) none pos) (tFmt te):=fun pins s σ H Q I h=>by
  refine FormattedValue_plain (thn (he pins s σ H _ I h) fun u s1 ⟨v,H1,I1,r,q⟩=>?_)
  rcases q with ⟨y,rfl,hl,q⟩ | ⟨i,rfl,hl,q⟩
  · obtain ⟨tk,rfl⟩:=r
    exact formatField_str (fun t' tk=>⟨.str y,H1,I1.tok _,⟨t',rfl⟩,q⟩) hl
  · obtain ⟨tk,rfl⟩:=r
    exact formatField_int_small hl ⟨.str (toString i),H1,I1.tok _,⟨_,rfl⟩,q⟩
theorem pe_fstr (hj:PJ X (e :: e2 :: es) tj):PE X (.JoinedStr (e :: e2 :: es) pos) (fun σ H Q=>tj σ H Str.empty Q):=fun pins s σ H Q I h=>JoinedStr_many (hj pins s σ H Str.empty Q I h)
end
end L2
set_option Elab.async false
set_option linter.all false
set_option maxRecDepth 100000
set_option maxHeartbeats 4000000
namespace L2
open PySem PySem.Spec PyProof.Rows
structure Cal1 (P:Program) (w:World) (K:PySem.W.Frag) (mg:Str→Option Value) (base:Heap) (x:Str) (k:Nat) (ps:List Str) (sp:Sp):Prop where
  ex:∃ (f:Addr) (fd:FuncData),FnOk P w K mg base (CX1 P w) k f fd ps sp∧Binds K fd ps []∧PySem.W.keepIn K (.ref f)=true∧mg x=some (.ref f)
section
variable {P:Program} {w:World} {K:PySem.W.Frag} {mg:Str→Option Value} {base:Heap} {x:Str} {ps:List Str} {sp:Sp}
theorem Cal1.mono {j k:Nat} (C:Cal1 P w K mg base x j ps sp) (h:j≤k):Cal1 P w K mg base x k ps sp:=by
  obtain ⟨f,fd,F,r⟩:=C.ex
  exact ⟨f,fd,F.mono h,r⟩
theorem Has.mk1 {st:Stmt} {N:List Str} {k:Nat} (h:Has K mg x st ps) (S:FnScope N ps (defScope st)) (len:∀ vs H Q E,sp vs H Q E→vs.length=ps.length)
    (hbody:∀ (f:Addr) (cdv:Value) (A:Around) (outer:List Env) (s:Shared) (H:Hp) (vs:List V) (Q:VK) (E:XK),Room k (A.deeper (envOfC x (defScope st) s.heap.objs.size f cdv))→sp vs H Q E →
      ∃ t,PSs (cxOf (CX1 P w) P w K mg base N x (defScope st) f cdv A outer s H E) (defBody st) t∧t { nx:=fun _ H'=>Q .non H',rt:=Q } (start N vs) H):Cal1 P w K mg base x (k+1) ps sp:=by
  obtain ⟨f,fd,F,b,m⟩:=h.ex
  obtain ⟨oc,od,kV,doc,pm,an,cdv,ct,osl,rfl,lk,hcd⟩:=F.ex
  exact ⟨f,_,fn_of lk hcd S len fun A outer s H vs Q E hr hsp=>hbody f cdv A outer s H vs Q E hr hsp,b,F.kp,m⟩
end
def PassesS (CX:CXT) (X:Cx) (E:St→XK):Prop:=∀ (pins:List (Addr × Obj)) (σ:St) (H:Hp) (s:Shared) (e:Value) (s':Shared),Inv X pins σ H s→CX X.stack H s (E σ) e s'→X.xe e s'
theorem Passes.s {CX:CXT} {X:Cx} {E:XK} (h:Passes CX X E):PassesS CX X fun _=>E:=h
def tCallS (sp:Sp) (E:St→XK) (t:TA):TE:=fun σ H Q=>t σ H fun vs H1=>sp vs H1 Q (E σ)
theorem pe_cal1 {X:Cx} {x:Str} {k n:Nat} {ps:List Str} {sp:Sp} {E:St→XK} {e:Expr} {es:List Expr} {t:TA} {p pos:Pos} (C:Cal1 X.prog X.w X.K X.mg X.base x k ps sp) (hr:Room n X.A) (hk:k≤n) (hg:Gl X x) (hx:PassesS (CX1 X.prog X.w) X E) (ha:PA X (e :: es) t)
    (hdb:(x == ("__debug__" : Str))=false:=by decide) (he:starEach (e :: es) X.env=(false,eval e X.env) :: starEach es X.env:=by rfl) (hpl:(backTo pos (starEach es X.env)).any (·.1)=false:=by rfl) :
    PE X (.Call (.Name x p) (e :: es) [] pos) (tCallS sp E t):=by
  obtain ⟨f,fd,F,b,kp,m⟩:=C.ex
  intro pins s σ H Q I h
  refine wpAny_Call_Name_kw (ld_glob I hg m ?_ hdb)
  refine PySem.W.callWith_K (h₀:=X.base) I.ok.mod.kin kp (thn (ha pos pins s σ H _ I h) fun us s1 ⟨vs,H1,I1,r,q⟩=>⟨I1.kIn,?_⟩) he hpl
  have hl:us.length=ps.length:=by rw [← r.length]; exact F.len _ _ _ _ q
  refine wpAny_call (codeAny_mono ((F.mono hk).run X.A X.stack s1 H1 ⟨us,[]⟩ us vs Q (E σ) hr I1.env0 (by have:=b s1 us I1.kIn (by rw [List.append_nil]; exact hl); rw [List.append_nil] at this; exact this) r q) fun r s' hq=>?_)
  cases r with
  | error e=>exact hx pins σ H1 s1 e s' I1 hq
  | ok fl =>
    cases fl with
    | ret u=>exact I1.after hq
    | next=>exact False.elim hq
    | brk=>exact False.elim hq
    | cont=>exact False.elim hq
end L2
set_option Elab.async false
set_option linter.all false
set_option maxRecDepth 100000
set_option maxHeartbeats 4000000
namespace L2
open PySem PySem.Spec PyProof.Rows
abbrev XR:=Value→Addr→St→Hp→Prop
section
variable {X:Cx} {pins more:List (Addr × Obj)} {σ:St} {H:Hp} {s:Shared} {R:XR}
end
end L2
namespace L2
open PySem PySem.Spec PyProof.Rows
section
variable {X:Cx} {pins:List (Addr × Obj)} {σ:St} {H:Hp} {s:Shared} {e:Addr}
end
structure Under (K:PySem.W.Frag) (D:Addr) (cls:Value):Prop where
  ex:∃ C,cls=.ref C∧PySem.W.subIn K (.ref C) (.ref D)=some true
end L2
set_option Elab.async false
set_option linter.all false
set_option maxRecDepth 100000
set_option maxHeartbeats 4000000
namespace L2
open PySem PySem.Spec PyProof.Rows
end L2
set_option Elab.async false
set_option linter.all false
set_option maxRecDepth 100000
set_option maxHeartbeats 4000000
namespace L2
open PySem PySem.Spec PySem.Calls PyProof.Rows PySem.W Builtin.Getset_descriptor
section
variable {prog:Program} {w:World} {A:Around} {E:Value→Shared→Prop} {K:Frag} {x C D:Addr} {ox:Obj} {h:Heap} {g:Array GenState} {d:Drawn} {t:Nat} {os:OsState}
structure ObAt (h:Heap) (x:Addr) (ox:Obj) (D:Addr):Prop where
  at_:h.get? x=some ox
  cls:ox.cls=.ref D
theorem ObAt.type {M:Model} (I:ObAt h x ox D):Looks M h (typeOf (.ref x)) (.ref D):=I.cls ▸ (Looks.ld I.at_).andThen .now
structure ExcK (K:Frag) (D:Addr):Prop where
  ga:findIn K (.ref D) "__getattribute__" = some (some (.builtin "BaseException.__getattribute__"))
  no:findIn K (.ref D) "__getattr__" = some none
  cl:findIn K (.ref D) "__class__" = some (some (.builtin "object.__class__"))
  bs:subIn K (.ref D) (.type "BaseException")=some true
  ob:mroIn K D (.type "object")=some true
  is:isClsIn K D=true
end
end L2
set_option Elab.async false
set_option linter.all false
set_option maxRecDepth 100000
set_option maxHeartbeats 4000000
namespace L2
open PySem PySem.Spec PyProof.Rows
def outX (E:XK):XK:=fun cls o H'=>∀ e,o=some e→∀ T',H' T'=none→E cls o (xH H' T' e cls)
theorem passesO {P:Program} {w:World} {K:PySem.W.Frag} {mg:Str→Option Value} {base:Heap} {N:List Str} {qual:Str} {scope:Scope} {f:Addr} {cd:Value} {A:Around} {outer:List Env} {s0:Shared} {H0:Hp} {E:XK} :
    PassesS (CX1 P w) (cxOf (CX1 P w) P w K mg base N qual scope f cd A outer s0 H0 E) fun _=>outX E:=(passes1 (outX E) fun cls e T H' _ h T' n=>h e rfl T' n).s
def Thrown (C:Addr) (H:Hp) (E:XK):Prop:=∀ (e T:Addr) (H':Hp),Same H H'→H e=none→H' e=some (ExcO (.ref C) T e)→E (.ref C) (some e) H'
theorem same_xH {H H1:Hp} {T e:Addr} {cls:Value} (s:Same H H1) (he:H e=none) (hT:H1 T=none):Same H (xH H1 T e cls):=fun b o h=>by
  have hbe:b≠e:=fun z=>by subst z; rw [he] at h; cases h
  have hbT:b≠T:=fun z=>by subst z; rw [s _ _ h] at hT; cases hT
  show upd (upd H1 T (TrO T)) e (ExcO cls T e) b=some o
  rw [upd_ne hbe,upd_ne hbT]; exact s b o h
section
variable {C:Addr} {H H1:Hp} {E:XK}
theorem Thrown.up (h:Thrown C H E) (s:Same H H1):Thrown C H1 E:=fun e T H' s' he hx=>h e T H' (s.trans s') (s.free he) hx
theorem Thrown.made (h:Thrown C H E) {e T:Addr} (he:H e=none) (hT:H T=none):E (.ref C) (some e) (xH H T e (.ref C)):=h e T _ (same_xH (Same.refl H) he hT) he upd_same
theorem Thrown.out (h:Thrown C H E):Thrown C H (outX E):=fun e T H' s he hx e' z T' n=>by
  cases z
  exact h e T' _ (same_xH s he n) he upd_same
end
structure Fn1 (P:Program) (w:World) (K:PySem.W.Frag) (mg:Str→Option Value) (base:Heap) (f:Addr) (k:Nat) (ps:List Str) (sp:Sp):Prop where
  ex:∃ (fd:FuncData),FnOk P w K mg base (CX1 P w) k f fd ps sp∧Binds K fd ps []∧PySem.W.keepIn K (.ref f)=true
theorem Cal1.fn {P:Program} {w:World} {K:PySem.W.Frag} {mg:Str→Option Value} {base:Heap} {x:Str} {k:Nat} {ps:List Str} {sp:Sp} (C:Cal1 P w K mg base x k ps sp):∃ f,mg x=some (.ref f)∧Fn1 P w K mg base f k ps sp:=by
  obtain ⟨f,fd,F,b,kp,m⟩:=C.ex
  exact ⟨f,m,fd,F,b,kp⟩
theorem passesN {X:Cx}:PassesS (CX1 X.prog X.w) X fun _ _ _ _=>False:=fun _ _ _ _ _ _ _ h=>by
  obtain ⟨_,_,_,_,_,_,_,_,_,_,_,_,q⟩:=h
  exact q.elim
end L2
set_option Elab.async false
set_option linter.all false
set_option maxRecDepth 100000
set_option maxHeartbeats 4000000
namespace L2
open PySem PySem.Spec PyProof.Rows
def CodO (c:Addr) (q:Str):HO:=.ext fun h=>h.CodeRec (.ref c) q
def del (H:Hp) (c:Addr):Hp:=fun b=>if b=c then none else H b
section
variable {P:Program} {w:World} {H H':Hp} {h h':Heap} {c:Addr} {o:Obj} {fs:List Addr}
variable {outer:List Env} {s s':Shared} {Q:VK} {u:Value} {E:XK} {e:Value}
end
section
variable {P:Program} {w:World} {K:PySem.W.Frag} {mg:Str→Option Value} {base:Heap} {N:List Str} {qual:Str} {scope:Scope} {f:Addr} {cd:Value} {cl:List (Str × Addr)} {A:Around} {outer:List Env} {s0:Shared} {H0:Hp} {E:XK}
end
structure TabCx (mg:Str→Option Value) (base:Heap) (c P:Addr):Prop where
  hd:PySem.W.CodeHd base c P
  gP:mainGlobals≠P
  blt:base.BuiltinsAt mg P
def TabI (P:Addr) (pos:Pos) (qual:Str) (H:Hp):Prop:=∃ ps,H P=some (.tbl ps)∧(ps = #[]∨∃ c',ps = #[rawInt pos.line,rawInt pos.col,.ref c']∧H c'=some (CodO c' qual))
theorem TabI.same {P:Addr} {pos:Pos} {qual:Str} {H H':Hp} (h:TabI P pos qual H) (s:Same H H'):TabI P pos qual H':=by
  obtain ⟨ps,a,b⟩:=h
  refine ⟨ps,s _ _ a,?_⟩
  rcases b with b | ⟨c',b1,b2⟩
  · exact .inl b
  · exact .inr ⟨c',b1,s _ _ b2⟩
end L2
set_option Elab.async false
set_option linter.all false
set_option maxRecDepth 100000
set_option maxHeartbeats 4000000
namespace L2
open PySem PySem.Spec PyProof.Rows
structure RoomQ (k:Nat) (A:Around):Prop where
  dp:A.depth+3 * k+5 < recursionLimit
  un:A.units+16 * k+200 < cLine
theorem RoomQ.mono {j k:Nat} {A:Around} (r:RoomQ k A) (h:j≤k):RoomQ j A:=⟨by have:=r.dp; omega,by have:=r.un; omega⟩
theorem RoomQ.deeper {k:Nat} {A:Around} (r:RoomQ (k+1) A) (env:Env):RoomQ k (A.deeper env) :=
  ⟨by have:=r.dp; show A.depth+1+3 * k+5 < _; omega,by have:=r.un; show A.units+3+16 * k+200 < _; omega⟩
theorem RoomQ.depth {k:Nat} {A:Around} (r:RoomQ k A):A.depth < recursionLimit:=by have:=r.dp; omega
theorem Room.q {k:Nat} {A:Around} (r:Room k A) (e:Option Value):RoomQ k (A.mark e):=⟨r.dp,r.un⟩
structure CalQ (P:Program) (w:World) (K:PySem.W.Frag) (mg:Str→Option Value) (base:Heap) (x:Str) (k:Nat) (ps:List Str) (sp:Sp):Prop where
  ex:∃ (f:Addr) (fd:FuncData),((∀ vs H Q E,sp vs H Q E→vs.length=ps.length)∧∀ (A:Around) (outer:List Env) (s:Shared) (H:Hp) (args:Args) (us:List Value) (vs:List V) (Q:VK),RoomQ k A→Env0 P w K mg base A outer s H→BindsTo s fd args (ps.zip us)→Vals vs us→sp vs H Q E0 →
    codeAny (model P w) A (.call (.ref f) args) (CR CX0 outer P w H s Q E0) s)∧Binds K fd ps []∧PySem.W.keepIn K (.ref f)=true∧mg x=some (.ref f)
end L2
set_option Elab.async false
set_option linter.all false
set_option maxRecDepth 100000
set_option maxHeartbeats 4000000
namespace L2
open PySem PySem.Spec PyProof.Rows
open AutoSeq1 (wpAny_loadPart')
section
variable {prog:Program} {w:World} {A:Around} {E:Value→Shared→Prop} {s:Shared}
end
section
variable {prog:Program} {w:World} {A:Around} {E:Value→Shared→Prop} {s:Shared}
end
section
variable {X:Cx}
end
def rSumE (K:PySem.W.Frag):List V→Hp→VK→Prop:=fun xs H Q=>∃ (l:Addr) (ns:List Int),xs=[.ref l]∧SqL K H l (ns.map V.int)∧Q (.int ns.sum) H
theorem call_sumE {X:Cx} (hc:X.calm=true):CallR X (.builtin "sum") (rSumE X.K):=by
  intro pins s σ H xs us Q I r h
  obtain ⟨l,ns,rfl,hq,q⟩:=h
  obtain ⟨u,rfl,r1⟩:=vals1 r
  cases r1
  obtain ⟨its,rv,pl,hz⟩:=I.list hq
  obtain ⟨xs,e1,e2⟩:=allInts_of rv
  refine sum_intListG (I.ok.hd hc) (xs:=xs) (by rw [← e1]; exact pl.isList) fun h' tk t' hk=>?_
  rw [preSum_eq,List.take_of_length_le (by simp),e2]
  exact ⟨.int _,H,I.kept (t':=tk) hk,⟨_,rfl⟩,q⟩
end L2
set_option Elab.async false
set_option linter.all false
set_option maxRecDepth 100000
set_option maxHeartbeats 4000000
namespace ZTL
open PySem
open ZT (Apart tup_item tup_end)
open Sem (wp)
section
variable {prog:Program} {w:World} {A:Around} {E:Value→Shared→Prop} {s:Shared}
end
abbrev zh1 (h:Heap) (t1:Addr):Heap:=h.push { cls:=.type "tuple_iterator",data:=.fields #[.ref t1,.int 0 0] }
end ZTL
namespace L2
open PySem PySem.Spec PyProof.Rows
end L2
namespace L2
open PySem PySem.Spec PyProof.Rows
end L2
set_option Elab.async false
set_option linter.all false
set_option maxRecDepth 100000
set_option maxHeartbeats 4000000
namespace SA
open PySem PySem.Spec PyProof.Rows
theorem entry_set_and:entryFor table "set.__and__" = some Builtin.«frozenset.__and__»:=entryFor_alias (id':="frozenset.__and__") (by kernel_rfl) rfl (by decide +kernel) (by kernel_rfl)
theorem erase_perm {α:Type} {l:List α} {i:Nat} (h:i < l.length):(l[i] :: l.eraseIdx i).Perm l:=by
  have e:l=l.take i++l[i] :: l.drop (i+1):=by
    rw [List.getElem_cons_drop,List.take_append_drop]
  rw [List.eraseIdx_eq_take_drop_succ]
  exact (List.perm_middle.symm).trans (by rw [← e])
theorem go_perm {α:Type} (next:Nat→Nat):∀ (fuel k:Nat) (left:List α) (out:Array α),left.length≤fuel→(pickOrder.go next fuel k left out).toList.Perm (out.toList++left)
  | 0,k,left,out,h=>by
    have e:left=[]:=List.length_eq_zero_iff.mp (by omega)
    subst e
    rw [pickOrder.go,List.append_nil]
  | fuel+1,k,left,out,h=>by
    rw [pickOrder.go]
    cases hx:left[next k % left.length]? with
    | none =>
      have e:left=[]:=by
        cases left with
        | nil=>rfl
        | cons a r =>
          have:=List.getElem?_eq_none_iff.mp hx
          have:=Nat.mod_lt (next k) (show 0 < (a :: r).length by simp)
          omega
      subst e
      rw [List.append_nil]
    | some x =>
      obtain ⟨hi,ex⟩:=List.getElem?_eq_some_iff.mp hx
      refine (go_perm next fuel (k+1) (left.eraseIdx (next k % left.length)) (out.push x) ?_).trans ?_
      · rw [List.length_eraseIdx_of_lt hi]
        omega
      · rw [Array.toList_push,List.append_assoc]
        refine List.Perm.append_left _ ?_
        rw [← ex]
        exact erase_perm hi
theorem pick_perm {α:Type} (next:Nat→Nat) (xs:Array α):(pickOrder next xs).toList.Perm xs.toList:=by
  have:=go_perm next xs.size 0 xs.toList #[] (by simp)
  simpa [pickOrder] using this
section
variable {prog:Program} {w:World} {K:Type} [DecidableEq K] {knd:KeyKind prog w K} {A:Around} {E:Value→Shared→Prop} {s:Shared}
theorem set_walk {a:Addr} {o:Obj} {es:Array (Int × Value)} {ep:Nat} {t:SetTable} {Q:Array (Int × Value)→Shared→Prop} (ho:s.heap.get? a=some o) (hd:o.data=.set es ep t) (hf:t.fits es.size=true)
    (hc:w.params.followText "set-order" = true∨(t.led=true∧t.plain=true)∨es.size≤1) (h:∀ arr:Array (Int × Value),arr.toList.Perm es.toList→Q arr s):wpAny (model prog w) A (setWalk a) Q E s:=by
  unfold setWalk
  refine wpAny_bind (wpAny_setState_of ho hd hf ?_)
  dsimp only
  unfold setsByText
  refine wpAny_bind (wpAny_bind (wpAny_askSetting (wpAny_pure ?_)))
  refine wpAny_ite_split (fun hb=>wpAny_bind (wpAny_askSetting (wpAny_pure (h _ (pick_perm _ _))))) (fun hb=>?_)
  have hc':(t.led=true∧t.plain=true)∨es.size≤1:=hc.resolve_left hb
  have hdn:(!t.plain && decide (es.size > 1))=false:=by
    rcases hc' with h | h
    · rw [h.2]; rfl
    · rw [decide_eq_false (by omega),Bool.and_false]
  have hld:(!t.led && decide (es.size > 1))=false:=by
    rcases hc' with h | h
    · rw [h.1]; rfl
    · rw [decide_eq_false (by omega),Bool.and_false]
  refine wpAny_ite_split (fun hq=>absurd (show (!t.plain && decide (es.size > 1))=true from hq) (by rw [hdn]; decide)) fun _=>?_
  refine wpAny_bind ?_
  show wpAny _ _ (if (!t.led && decide (es.size > 1))=true then unsupported "set:maker-not-led" else pure ()) _ _ _
  exact wpAny_ite_split (fun hq=>absurd hq (by rw [hld]; decide)) fun _=>wpAny_pure (wpAny_pure (h es (List.Perm.refl _)))
theorem sets_quiet {Q:Bool→Shared→Prop} (l:List Addr) (hl:∀ a∈l,∃ o es ep t,s.heap.get? a=some o∧o.data=.set es ep t∧t.fits es.size=true∧∀ e∈es.toList,e.2.scannable=true) (h:Q true s):wpAny (model prog w) A (setsQuiet l) Q E s:=by
  unfold setsQuiet
  refine wpAny_bind (wpAny_forIn_list _ (fun rest b s'=>s'=s∧b=⟨none,()⟩∧∀ a∈rest,a∈l) _ ?_ ?_ l _ ⟨rfl,rfl,fun _ z=>z⟩)
  · rintro a rest b s' ⟨rfl,rfl,hr⟩
    obtain ⟨o,es,ep,t,ho,hd,hf,hx⟩:=hl a (hr a List.mem_cons_self)
    refine wpAny_bind (wpAny_setEntries_of ho hd hf ?_)
    refine wpAny_bind (MeetsSeq2.wpAny_forIn_array _ (fun rest' b s''=>s''=s'∧b=((none:Option Bool),())∧∀ e∈rest',e∈es.toList) _ ?_ ?_ es _ ⟨rfl,rfl,fun _ z=>z⟩)
    · rintro ⟨hh,x⟩ rest' b s'' ⟨rfl,rfl,hm⟩
      have hsc:=hx (hh,x) (hm _ List.mem_cons_self)
      cases x <;> first | exact absurd hsc (by decide) | exact wpAny_pure ⟨rfl,rfl,fun e he=>hm e (List.mem_cons_of_mem _ he)⟩ | (exfalso; exact absurd hsc (by intro z; cases z))
    · rintro b s'' ⟨rfl,rfl,_⟩
      exact wpAny_pure ⟨rfl,rfl,fun a ha=>hr a (List.mem_cons_of_mem _ ha)⟩
  · rintro b s' ⟨rfl,rfl,_⟩
    exact wpAny_pure h
theorem walk_unseen {a b r:Addr} {S T R:K→Bool} {n m c:Nat} {Q:Array (Int × Value)→Shared→Prop} (hab:a≠r) (hbr:b≠r) (hS:s.heap.SetOf knd a S n) (hT:s.heap.SetOf knd b T m) (hR:s.heap.SetOf knd r R c)
    (h:∀ (g:Heap) (arr:Array (Int × Value)),Heap.SameBut r s.heap g→g.SetOf knd r R c→ElemsOf knd arr.toList→arr.size=n→(∀ k,S k=true↔∃ e∈arr.toList,knd.is k e.2=true)→Q arr { s with heap:=g }) :
    wpAny (model prog w) A (setWalkUnseen a [b,r] (some r)) Q E s:=by
  obtain ⟨o,es,ep,t,ho,hex,hd,hel,hmem,hb,hf,hn⟩:=id hS
  obtain ⟨o2,es2,ep2,t2,ho2,hex2,hd2,hel2,hmem2,hb2,hf2,hn2⟩:=id hT
  obtain ⟨o3,es3,ep3,t3,ho3,hex3,hd3,hel3,hmem3,hb3,hf3,hn3⟩:=id hR
  have fin:∀ (g:Heap) (arr:Array (Int × Value)),Heap.SameBut r s.heap g→g.SetOf knd r R c→arr.toList.Perm es.toList→Q arr { s with heap:=g }:=fun g arr hg hgr hp =>
    h g arr hg hgr (hel.perm hp) (by rw [← hn,← Array.length_toList,hp.length_eq,Array.length_toList]) fun k=>(hmem k).trans ⟨fun ⟨e,he,q⟩=>⟨e,hp.mem_iff.mpr he,q⟩,fun ⟨e,he,q⟩=>⟨e,hp.mem_iff.mp he,q⟩⟩
  have fin0:∀ arr:Array (Int × Value),arr.toList.Perm es.toList→Q arr s:=fun arr hp=>fin s.heap arr (Heap.SameBut.refl r s.heap) hR hp
  unfold setWalkUnseen
  refine wpAny_bind (wpAny_setState_of ho hd hf ?_)
  dsimp only
  unfold setsByText
  refine wpAny_bind (wpAny_bind (wpAny_askSetting (wpAny_pure ?_)))
  refine wpAny_ite_split (fun hq=>?_) (fun hq=>?_)
  · refine set_walk ho hd hf ?_ fin0
    simp only [Bool.or_eq_true,Bool.and_eq_true,decide_eq_true_eq] at hq
    rcases hq with (q | q) | q
    · exact .inl q
    · exact .inr (.inl q)
    · exact .inr (.inr q)
  · refine wpAny_bind (sets_quiet [a,b,r] (fun x hx=>?_) ?_)
    · simp only [List.mem_cons,List.not_mem_nil,or_false] at hx
      rcases hx with rfl | rfl | rfl
      · exact ⟨o,es,ep,t,ho,hd,hf,fun e he=>(hel e he).2⟩
      · exact ⟨o2,es2,ep2,t2,ho2,hd2,hf2,fun e he=>(hel2 e he).2⟩
      · exact ⟨o3,es3,ep3,t3,ho3,hd3,hf3,fun e he=>(hel3 e he).2⟩
    refine wpAny_ite_split (fun z=>absurd z (by decide)) (fun _=>?_)
    refine wpAny_bind (wpAny_rule ?_)
    refine wpAny_bind (wpAny_setState_of ho3 hd3 hf3 ?_)
    dsimp only
    refine wpAny_ite_split (fun _=>?_) (fun _=>wpAny_pure (fin0 es (List.Perm.refl _)))
    refine wpAny_bind (wpAny_storeSet_of ho3 hd3 (wpAny_pure ?_) (fits_of_scanBound hb3))
    obtain ⟨_,hS2⟩:=SetOf_store (knd:=knd) (t':={ t3 with led:=t3.led && t.led,plain:=t3.plain && t.plain }) ho3 hex3 hd3 hel3 hmem3 hb3 (by cases t3; exact hf3)
    rw [hn3] at hS2
    exact fin _ es (Heap.SameBut.update ..) hS2 (List.Perm.refl _)
theorem meet_sets {a b r:Addr} {S T:K→Bool} {n m:Nat} {nm:String} {Q:Unit→Shared→Prop} (har:a≠r) (hbr:b≠r) (hS:s.heap.SetOf knd a S n) (hT:s.heap.SetOf knd b T m) (hR:s.heap.SetOf knd r (fun _=>false) 0) (hroom:n+1 < scanBound)
    (h:∀ (g:Heap) (L:List K),Heap.SameBut r s.heap g→L.Nodup→(∀ k,k∈L↔S k=true∧T k=true)→g.SetOf knd r (fun k=>S k && T k) L.length→Q () { s with heap:=g }) :
    wpAny (model prog w) A (do
      let was ← setEpoch a
      for (hh,x) in ← setWalkUnseen a [b,r] (some r) do
        holding [x] do
          if (← setFind b x hh).isSome then
            let _ ← setAddHashed r x hh
        Builtin.Frozenset.unchanged nm a was) Q E s:=by
  obtain ⟨o,es,ep,t,ho,hex,hd,hel,hmem,hb,hf,hn⟩:=id hS
  refine wpAny_bind (wpAny_setEpoch_of ho hd hf ?_)
  refine wpAny_bind (walk_unseen har hbr hS hT hR fun g arr hg hgr hela hsz hma=>?_)
  have keepB:∀ {g':Heap} {c:Addr} {U:K→Bool} {q:Nat},Heap.SameBut r s.heap g'→c≠r→s.heap.SetOf knd c U q→g'.SetOf knd c U q:=fun {g' c U q} hg' hc hU=>by
    obtain ⟨o',es',ep',t',ho',rest⟩:=hU
    exact ⟨o',es',ep',t',hg'.extBut _ _ hc ho',rest⟩
  have quiet:∀ {g':Heap} {Q':Unit→Shared→Prop},Heap.SameBut r s.heap g'→Q' () { s with heap:=g' }→wpAny (model prog w) A (Builtin.Frozenset.unchanged nm a ep) Q' E { s with heap:=g' }:=fun {g' Q'} hg' hq=>by
    unfold Builtin.Frozenset.unchanged
    refine wpAny_bind (wpAny_setEpoch_of (hg'.extBut _ _ har ho) hd hf ?_)
    exact wpAny_ite_split (fun z=>absurd z (by simp)) fun _=>wpAny_pure hq
  refine wpAny_bind (MeetsSeq2.wpAny_forIn_array _ (fun rest _ s'=>∃ (g':Heap) (L:List K) (pre:List (Int × Value)),s'={ s with heap:=g' }∧Heap.SameBut r s.heap g'∧arr.toList=pre++rest∧L.Nodup∧(∀ k,k∈L↔(∃ e∈pre,knd.is k e.2=true)∧T k=true)∧L.length≤pre.length ∧
      g'.SetOf knd r (fun k=>decide (k∈L)) L.length) _ ?_ ?_ arr _ ⟨g,[],[],rfl,hg,rfl,List.nodup_nil,fun k=>by simp,Nat.le_refl _,?_⟩)
  · rintro ⟨hh,x⟩ rest b' s' ⟨g',L,pre,rfl,hg',hpre,hnd,hL,hlen,hgr'⟩
    have hmx:(hh,x)∈arr.toList:=by rw [hpre]; simp
    obtain ⟨⟨k,hk,ehh⟩,hsc⟩:=hela _ hmx
    have ehh':hh=knd.hash k:=ehh
    subst ehh'
    have hk':knd.is k x=true:=hk
    have hpl:pre.length < n:=by
      have:=congrArg List.length hpre
      rw [Array.length_toList,hsz,List.length_append,List.length_cons] at this
      omega
    have hpre':arr.toList=(pre++[(knd.hash k,x)])++rest:=by rw [hpre]; simp
    have hex':∀ j,(∃ e∈pre++[(knd.hash k,x)],knd.is j e.2=true)↔(∃ e∈pre,knd.is j e.2=true)∨j=k:=fun j=>by
      constructor
      · rintro ⟨e,he,q⟩
        rcases List.mem_append.mp he with he | he
        · exact .inl ⟨e,he,q⟩
        · rw [List.mem_singleton] at he
          subst he
          exact .inr (knd.inj x j k q hk')
      · rintro (⟨e,he,q⟩ | rfl)
        · exact ⟨e,List.mem_append_left _ he,q⟩
        · exact ⟨_,List.mem_append_right _ (List.mem_singleton.mpr rfl),hk'⟩
    refine wpAny_bind (wpAny_holding (wpAny_bind (wpAny_setFind_of hk' hsc (keepB hg' hbr hT) fun rr hrr=>?_)))
    refine wpAny_ite_split (fun hq=>?_) (fun hq=>?_)
    · have hTk:T k=true:=by rw [← hrr]; exact hq
      refine wpAny_bind (wpAny_setAddHashed_of hk' hsc hgr' (by omega) fun g2 hsb hS2=>wpAny_pure (wpAny_bind (quiet (hg'.trans hsb) (wpAny_pure ?_))))
      by_cases hkL:k∈L
      · refine ⟨g2,L,pre++[(knd.hash k,x)],rfl,hg'.trans hsb,hpre',hnd,fun j=>?_,by rw [List.length_append]; omega,?_⟩
        · rw [hL j,hex' j]
          constructor
          · rintro ⟨q1,q2⟩; exact ⟨.inl q1,q2⟩
          · rintro ⟨q1 | rfl,q2⟩
            · exact ⟨q1,q2⟩
            · exact (hL _).mp hkL
        · rw [if_pos (decide_eq_true hkL)] at hS2
          have e:(fun k'=>decide (k'∈L) || decide (k'=k))=fun k'=>decide (k'∈L):=funext fun j=>by
            by_cases hj:j=k
            · subst hj; simp [hkL]
            · simp [hj]
          rw [e] at hS2
          exact hS2
      · refine ⟨g2,k :: L,pre++[(knd.hash k,x)],rfl,hg'.trans hsb,hpre',List.nodup_cons.mpr ⟨hkL,hnd⟩,fun j=>?_,by rw [List.length_append,List.length_cons,List.length_singleton]; omega,?_⟩
        · rw [hex' j,List.mem_cons,hL j]
          constructor
          · rintro (rfl | ⟨q1,q2⟩)
            · exact ⟨.inr rfl,hTk⟩
            · exact ⟨.inl q1,q2⟩
          · rintro ⟨q1 | rfl,q2⟩
            · exact .inr ⟨q1,q2⟩
            · exact .inl rfl
        · rw [if_neg (by simpa using hkL)] at hS2
          have e:(fun k'=>decide (k'∈L) || decide (k'=k))=fun k'=>decide (k'∈k :: L):=funext fun j=>by
            by_cases hj:j=k
            · subst hj; simp
            · simp [hj]
          rw [e] at hS2
          exact hS2
    · refine wpAny_pure (wpAny_bind (quiet hg' (wpAny_pure ?_)))
      have hTk:T k=false:=by
        rw [← hrr]
        simpa using hq
      refine ⟨g',L,pre++[(knd.hash k,x)],rfl,hg',hpre',hnd,fun j=>?_,by rw [List.length_append]; omega,hgr'⟩
      rw [hL j,hex' j]
      constructor
      · rintro ⟨q1,q2⟩; exact ⟨.inl q1,q2⟩
      · rintro ⟨q1 | rfl,q2⟩
        · exact ⟨q1,q2⟩
        · rw [hTk] at q2; cases q2
  · rintro b' s' ⟨g',L,pre,rfl,hg',hpre,hnd,hL,hlen,hgr'⟩
    rw [List.append_nil] at hpre
    have hk:∀ k,k∈L↔S k=true∧T k=true:=fun k=>by rw [hL k,hma k,hpre]
    refine wpAny_pure (h g' L hg' hnd hk ?_)
    have e:(fun k=>decide (k∈L))=fun k=>S k && T k:=funext fun k=>by
      rw [Bool.eq_iff_iff,decide_eq_true_eq,Bool.and_eq_true]
      exact hk k
    rw [← e]
    exact hgr'
  · simpa using hgr
theorem is_set {a:Addr} {S:K→Bool} {n:Nat} {Q:Bool→Shared→Prop} (hS:s.heap.SetOf knd a S n) (h:Q true s):wpAny (model prog w) A (Builtin.Frozenset.isAnySet (.ref a)) Q E s:=by
  obtain ⟨o,es,ep,t,ho,hex,_⟩:=hS
  unfold Builtin.Frozenset.isAnySet
  refine wpAny_bind (wpAny_isInstance (T:="set") (b:=true) ⟨o,ho,hex.1⟩ (by rw [isSubtype_type]; kernel_rfl) ?_)
  exact wpAny_pure h
theorem and_sets {a b:Addr} {S T:K→Bool} {n m:Nat} {Q:Value→Shared→Prop} (hab:a≠b) (hS:s.heap.SetOf knd a S n) (hT:s.heap.SetOf knd b T m) (hn:n+1 < scanBound) (hm:m+1 < scanBound)
    (h:∀ (g:Heap) (L:List K),(∀ c o,s.heap.get? c=some o→g.get? c=some o)→L.Nodup→(∀ k,k∈L↔S k=true∧T k=true)→g.SetOf knd s.heap.objs.size (fun k=>S k && T k) L.length→Q (.ref s.heap.objs.size) { s with heap:=g }) :
    wpAny (model prog w) A (binaryOp .BitAnd (.ref a) (.ref b)) Q E s:=by
  obtain ⟨o,es,ep,t,ho,hex,hd,hel,hmem,hb,hf,en⟩:=id hS
  obtain ⟨o2,es2,ep2,t2,ho2,hex2,hd2,hel2,hmem2,hb2,hf2,en2⟩:=id hT
  refine wpAny_binaryOp_same (T:="set") (id:="set.__and__") ⟨o,ho,hex.1⟩ ⟨o2,ho2,hex2.1⟩ F.fills_set_and F.slot_set_and ?_
  refine wpAny_call_entry F.slot_set_and ⟨o,ho,hex.1⟩ entry_set_and ?_ (F.args_set_and_2 _ _)
  have nar:a≠s.heap.objs.size:=Nat.ne_of_lt (Heap.lt_size ho)
  have nbr:b≠s.heap.objs.size:=Nat.ne_of_lt (Heap.lt_size ho2)
  show wpAny _ _ (Builtin.Frozenset.slot1 "__and__" ⟨[.ref a,.ref b],[]⟩ >>= _) _ _ _
  refine wpAny_bind (wpAny_of_eq (a:=(Value.ref a,Value.ref b)) (by rfl) ?_)
  dsimp only
  refine wpAny_bind (wpAny_bind (is_set hS ?_))
  show wpAny _ _ (Builtin.Frozenset.isAnySet (.ref b)) _ _ _
  refine is_set hT ?_
  refine wpAny_ite_split (fun z=>absurd z (by decide)) (fun _=>?_)
  show wpAny _ _ (Builtin.Frozenset.addrOf (.ref a) >>= _) _ _ _
  refine wpAny_bind (wpAny_pure ?_)
  show wpAny _ _ (Builtin.Frozenset.intersection (toString "frozenset." ++ toString "__and__") a (.ref b) >>= _) _ _ _
  refine wpAny_bind ?_
  generalize (toString "frozenset." ++ toString "__and__")=nm
  unfold Builtin.Frozenset.intersection
  refine wpAny_ite_split (fun z=>absurd (by simpa using z) hab.symm) (fun _=>?_)
  refine wpAny_bind ?_
  unfold Builtin.Frozenset.baseOf
  refine wpAny_bind (wpAny_isInstance (T:="set") (b:=true) ⟨o,ho,hex.1⟩ (by rw [isSubtype_type]; kernel_rfl) (wpAny_pure ?_))
  dsimp only
  refine wpAny_bind (wpAny_newSet_of (knd:=knd) fun led hN=>?_)
  have hS1:(s.heap.push { cls:=.type "set",dict:=none,data:=.set #[] 0 (.fresh 0 0 led) }).SetOf knd a S n:=⟨o,es,ep,t,Heap.get?_push_of_some _ ho,hex,hd,hel,hmem,hb,hf,en⟩
  have hT1:(s.heap.push { cls:=.type "set",dict:=none,data:=.set #[] 0 (.fresh 0 0 led) }).SetOf knd b T m:=⟨o2,es2,ep2,t2,Heap.get?_push_of_some _ ho2,hex2,hd2,hel2,hmem2,hb2,hf2,en2⟩
  refine wpAny_bind (wpAny_pure ?_)
  refine wpAny_bind (wpAny_holding ?_)
  refine wpAny_bind (is_set hT1 ?_)
  refine wpAny_ite_split (fun _=>?_) (fun z=>absurd rfl z)
  refine wpAny_bind (wpAny_pure ?_)
  have size_of:∀ {g:Heap} {c:Addr} {U:K→Bool} {q:Nat} {Q':Nat→Shared→Prop},g.SetOf knd c U q→Q' q { s with heap:=g }→wpAny (model prog w) A.in1 (Builtin.Frozenset.sizeOf c) Q' E { s with heap:=g }:=fun {g c U q Q'} hU hq=>by
    obtain ⟨o',es',ep',t',ho',_,hd',_,_,_,hf',en'⟩:=hU
    unfold Builtin.Frozenset.sizeOf
    refine wpAny_bind (wpAny_setEntries_of ho' hd' hf' (wpAny_pure ?_))
    rw [en']
    exact hq
  refine wpAny_bind (size_of hT1 (wpAny_bind (size_of hS1 ?_)))
  by_cases hgt:m > n
  · simp only [if_pos hgt]
    refine meet_sets (nm:=nm) (knd:=knd) nar nbr hS1 hT1 hN hn fun g L hg hnd hL hgL=>wpAny_pure (wpAny_pure ⟨_,rfl,(fun z=>nomatch z),h g L (fun c o' e=>hg.extBut _ _ (Nat.ne_of_lt (Heap.lt_size e)) (Heap.get?_push_of_some _ e)) hnd hL hgL⟩)
  · simp only [if_neg hgt]
    refine meet_sets (nm:=nm) (knd:=knd) nbr nar hT1 hS1 hN hm fun g L hg hnd hL hgL=>wpAny_pure (wpAny_pure ⟨_,rfl,(fun z=>nomatch z),h g L (fun c o' e=>hg.extBut _ _ (Nat.ne_of_lt (Heap.lt_size e)) (Heap.get?_push_of_some _ e)) hnd (fun k=>(hL k).trans and_comm) ?_⟩)
    have e:(fun k=>T k && S k)=fun k=>S k && T k:=funext fun k=>Bool.and_comm _ _
    rw [← e]
    exact hgL
end
end SA
set_option Elab.async false
set_option linter.all false
set_option maxRecDepth 100000
set_option maxHeartbeats 4000000
namespace L2
open PySem PySem.Spec PyProof.Rows
def hasI (ns:List Int) (k:Int):Bool:=decide (k∈ns)
theorem have_mem (ns:List Int):SX.have_ (fun i=>ns.getD i 0) ns.length=hasI ns:=funext fun k=>by
  unfold SX.have_ hasI
  have e:(List.range ns.length).map (fun i=>ns.getD i 0)=ns:=by
    apply List.ext_getElem (by simp)
    intro i h1 h2
    simp [List.getD_eq_getElem?_getD]
    rw [List.getElem?_eq_getElem h2]
    rfl
  rw [e,Bool.eq_iff_iff,List.any_eq_true]
  simp
theorem ints_ix {ns:List Int} {its:List Value} (r:Vals (ns.map V.int) its) {i:Nat} {v:Value} (h:its[i]?=some v):∃ t,v=.int (ns.getD i 0) t:=by
  have hi:i < ns.length:=by
    have:=(List.getElem?_eq_some_iff.mp h).1
    have:=r.length
    rw [List.length_map] at this
    omega
  obtain ⟨u,hu,ru⟩:=r.get (i:=i) (x:=.int (ns.getD i 0)) (by rw [List.getElem?_map,List.getElem?_eq_getElem hi,List.getD_eq_getElem?_getD,List.getElem?_eq_getElem hi]; rfl)
  rw [hu] at h
  cases h
  exact ru
def rSetI (K:PySem.W.Frag):List V→Hp→VK→Prop:=fun xs H Q=>∃ (p:Addr) (ns:List Int),xs=[.ref p]∧SqL K H p (ns.map V.int)∧ns.length≤4000∧∀ (a:Addr) (n:Nat),H a=none→n≤ns.length→Q (.ref a) (upd H a (.set (hasI ns) n))
theorem call_setI {X:Cx} (hc:X.calm=true):CallR X (.type "set") (rSetI X.K):=by
  intro pins s σ H xs us Q I r h
  obtain ⟨p,ns,rfl,hp,hz,q⟩:=h
  obtain ⟨u,rfl,rx⟩:=vals1 r
  cases rx
  obtain ⟨its,rv,pl,hzz⟩:=I.list hp
  have hl:=rv.length
  rw [List.length_map] at hl
  have hsz:its.toArray.size=ns.length:=by simp [hl]
  refine SX.call_set_list (knd:=intKind X.prog X.w) (val:=fun i=>ns.getD i 0) (I.ok.hd hc) pl.isList (fun i v hv=>?_) (by rw [hsz]; unfold scanBound; omega) fun g tk hS kp=>?_
  · obtain ⟨t,rfl⟩:=ints_ix rv (by simpa using hv)
    exact ⟨by simp [intKind,Value.isInt],rfl⟩
  · rw [hsz,have_mem] at hS
    exact ⟨.ref s.heap.objs.size,_,I.laid (t':=tk) (o:=.set (hasI ns) _) (fun b o e=>kp b o (Heap.lt_size e) e) (Nat.le_refl _) hS,rfl,q _ _ I.fresh (SX.many_le _ _)⟩
def rAndI:R2:=fun x y H Q=>∃ (p q:Addr) (S T:Int→Bool) (n m:Nat),x=.ref p∧y=.ref q∧p≠q∧H p=some (.set S n)∧H q=some (.set T m)∧n≤4000∧m≤4000 ∧
  ∀ (a:Addr) (L:List Int),H a=none→L.Nodup→(∀ k,k∈L↔S k=true∧T k=true)→Q (.ref a) (upd H a (.set (fun k=>S k && T k) L.length))
theorem op_andI {X:Cx}:OpR X (binaryOp .BitAnd) rAndI:=by
  intro pins s σ H x y v u Q I rx ry h
  obtain ⟨p,q,S,T,n,m,rfl,rfl,hpq,hp,hq,hn,hm,k⟩:=h
  cases rx
  cases ry
  have h1:s.heap.SetOf (intKind X.prog X.w) p S n:=(show ObjOk X.prog X.w H s.heap p (.set S n) from I.hok p _ hp)
  have h2:s.heap.SetOf (intKind X.prog X.w) q T m:=(show ObjOk X.prog X.w H s.heap q (.set T m) from I.hok q _ hq)
  refine SA.and_sets hpq h1 h2 (by unfold scanBound; omega) (by unfold scanBound; omega) fun g L kp hnd hL hg=>?_
  exact ⟨.ref s.heap.objs.size,_,I.laid (t':=s.toks) (o:=.set (fun k=>S k && T k) L.length) kp (Nat.le_refl _) hg,rfl,k _ L I.fresh hnd hL⟩
theorem call_len_setI {X:Cx}:CallR X (.builtin "len") (fun xs H Q=>∃ (p:Addr) (S:Int→Bool) (n:Nat),xs=[.ref p]∧H p=some (.set S n)∧Q (.int (n:Nat)) H):=by
  intro pins s σ H xs us Q I r h
  obtain ⟨p,S,n,rfl,hp,q⟩:=h
  obtain ⟨u,rfl,rx⟩:=vals1 r
  cases rx
  obtain ⟨o,es,ep,t,eo,ex,ed,_,_,hb,hf,hn⟩:=(show ObjOk X.prog X.w H s.heap p (.set S n) from I.hok p _ hp)
  refine call_len_set eo ex ed hf (by unfold scanBound at hb; omega) ?_
  rw [hn]
  exact ⟨.int (n:Nat),H,I.tok _,⟨_,rfl⟩,q⟩
end L2
set_option Elab.async false
set_option linter.all false
set_option maxRecDepth 100000
set_option maxHeartbeats 4000000
namespace L2
open PySem PySem.Spec PyProof.Rows
theorem mt_upper {X:Cx}:MtR X "str.upper" (fun x xs H Q=>∃ r:List Nat,x=.str ⟨r.toArray⟩∧xs=[]∧(∀ c∈r,c < 128)∧r.length≤100000∧Q (.str ⟨(r.map up1).toArray⟩) H):=by
  intro pins s σ H x xs v us Q I rx r h
  obtain ⟨l,rfl,rfl,hc,hl,q⟩:=h
  obtain ⟨t,rfl⟩:=rx
  cases r
  refine SCL.upper (by show l.toArray.size≤_; rw [List.size_toArray]; omega) fun _=>?_
  rw [upper_ascii (x:=⟨l.toArray⟩) (by simpa using hc)]
  have e:(⟨l.toArray.map up1⟩:Str)=⟨(l.map up1).toArray⟩:=by rw [List.map_toArray]
  rw [e]
  exact ⟨.str _,H,I.tok _,⟨_,rfl⟩,q⟩
end L2
set_option Elab.async false
set_option linter.all false
set_option maxRecDepth 100000
set_option maxHeartbeats 4000000
namespace L2
open PySem PySem.Spec PyProof.Rows
section
variable {X:Cx}
end
end L2
set_option Elab.async false
set_option linter.all false
set_option maxRecDepth 100000
set_option maxHeartbeats 4000000
namespace L2
open PySem PySem.Spec PyProof.Rows
theorem call_min3 {X:Cx} (hc:X.calm=true):CallR X (.builtin "min") (fun xs H Q=>∃ i j k:Int,xs=[.int i,.int j,.int k]∧Q (.int (min (min i j) k)) H):=by
  intro pins s σ H xs us Q I r h
  obtain ⟨i,j,k,rfl,q⟩:=h
  cases r with
  | cons r1 r =>
    obtain ⟨u,u',rfl,⟨t2,rfl⟩,⟨t3,rfl⟩⟩:=vals2 r
    obtain ⟨t1,rfl⟩:=r1
    refine min_three_ints (I.ok.hd hc) fun h' tk kp=>?_
    have e:∃ t,(if j < i then (if k < j then Value.int k t3 else .int j t2) else (if k < i then .int k t3 else .int i t1))=.int (min (min i j) k) t:=by
      by_cases h1:j < i
      · rw [if_pos h1]
        by_cases h2:k < j
        · rw [if_pos h2]
          exact ⟨t3,by congr 1; omega⟩
        · rw [if_neg h2]
          exact ⟨t2,by congr 1; omega⟩
      · rw [if_neg h1]
        by_cases h2:k < i
        · rw [if_pos h2]
          exact ⟨t3,by congr 1; omega⟩
        · rw [if_neg h2]
          exact ⟨t1,by congr 1; omega⟩
    obtain ⟨t,e⟩:=e
    rw [e]
    exact ⟨.int _,H,I.kept (t':=tk) kp,⟨_,rfl⟩,q⟩
def rSetD:V→V→V→Hp→(Hp→Prop)→Prop:=fun o i v H Q=>∃ (a:Addr) (H':Hp),o=.ref a∧DPut H a i v H'∧Q H'
theorem set_dict {X:Cx} (hu:X.A.units+1 < cLine):PSet X rSetD:=by
  intro pins s σ H o i v ov iv u Q I ro ri rv h
  obtain ⟨a,H',rfl,g,q⟩:=h
  cases ro
  exact d_setItem hu I g ri rv fun s' I'=>⟨H',I',q⟩
end L2
set_option Elab.async false
set_option linter.all false
set_option maxRecDepth 100000
set_option maxHeartbeats 4000000
namespace L2
open PySem PySem.Spec PyProof.Rows
section
variable {prog:Program} {w:World} {A:Around} {E:Value→Shared→Prop} {s:Shared}
theorem draw_lst {g l:Addr} {its:Array Value} (hne:l≠g):∀ (n i:Nat) (s:Shared) (Q:List Value→Shared→Prop),s.heap.IsListIter g l i→s.heap.IsList l its→i+n≤its.size →
    (∀ h',h'.IsListIter g l (i+n)→Heap.SameBut g s.heap h'→Q ((its.toList.drop i).take n) { s with heap:=h' })→wpAny (model prog w) A (draw (.ref g) n) Q E s
  | 0,i,s,Q,hg,_,_,q=>wpAny_pure (by
      have:=q s.heap hg (Heap.SameBut.refl ..)
      rwa [List.take_zero] at this)
  | n+1,i,s,Q,hg,hl,hle,q=>by
    have lt:i < its.size:=Nat.lt_of_lt_of_le (by omega) hle
    refine wpAny_bind (wpAny_pyNext_list_item hg hl (x:=its[i]) (Array.getElem?_eq_getElem lt) fun ha ga sa=>?_)
    refine wpAny_bind (wpAny_holding (draw_lst hne n (i+1) _ _ ga (hl.extBut sa.extBut hne) (by omega) fun hb gb sb=>wpAny_pure ?_))
    have z:=q hb (by rw [Nat.add_comm n 1,← Nat.add_assoc]; exact gb) (sa.trans sb)
    have e:its.toList.drop i=its[i] :: its.toList.drop (i+1):=List.drop_eq_getElem_cons (by simpa using lt)
    rwa [e,List.take_succ_cons] at z
theorem unpack_lst {l:Addr} {its:Array Value} {tgs:List (Bool × (Value→Sem Unit))} {Q:Unit→Shared→Prop} (hh:A.handled=none) (hl:s.heap.IsList l its) (hn:tgs.length=its.size) (hst:tgs.findIdx? (·.1)=none)
    (h:∀ h',Heap.ExtBut s.heap.objs.size s.heap h'→wpAny (model prog w) A (assignInOrder (tgs.map (·.2)) its.toList) Q E { s with heap:=h' }):wpAny (model prog w) A (unpack (.ref l) tgs) Q E s:=by
  have ne:l≠s.heap.objs.size:=by
    obtain ⟨o,ho,_⟩:=hl
    exact Nat.ne_of_lt (Heap.lt_size ho)
  unfold unpack
  rw [hn,hst]
  refine wpAny_bind (wpAny_holding ?_)
  unfold unpackItems notIterableAtAll
  refine wpAny_bind (wpAny_bind (wpAny_specialOf hl.typeIs slot_list_iter.lookup (wpAny_pure ?_)))
  rw [if_neg (by simp)]
  refine wpAny_bind (wpAny_holding (wpAny_pyIter_list hl ?_))
  refine wpAny_bind (wpAny_holding (draw_lst ne its.size 0 _ _ ⟨_,Heap.get?_push_size _ rfl,rfl,rfl⟩ (hl.push _) (by omega) fun ha ga sa=>?_))
  have e:(its.toList.drop 0).take its.size=its.toList:=List.take_of_length_le (Nat.le_of_eq (by rw [List.length_drop,Nat.sub_zero,Array.length_toList]))
  rw [e,if_neg (by simp)]
  refine wpAny_bind (wpAny_holding (wpAny_pyNext_list_end hh ga ((hl.push _).extBut sa.extBut ne) (by simp) fun hb sb=>?_))
  rw [if_neg (by simp)]
  exact wpAny_pure (h hb fun b o z e=>sb b o z (sa.extBut b o z (Heap.get?_push_of_some _ e)))
end
def gLst (K:PySem.W.Frag) (n:Nat) (t:TGs):TG:=fun v σ H Q=>∃ a xs,v=.ref a∧SqL K H a xs∧xs.length=n∧t xs σ H Q
theorem pg_lst {X:Cx} {pos:Pos} {es:List Expr} {k:Nat} {t:TGs} {n:Nat} (hc:X.calm=true) (h:PGs X es t)
    (hn:(assignEach es X.env).length=n:=by rfl) (hst:(assignEach es X.env).findIdx? (·.1)=none:=by rfl):PG X (.Tuple es k pos) (gLst X.K n t):=by
  intro pins s σ H v u Q I r hw
  obtain ⟨a,xs,e1,hq,hl,hw⟩:=hw
  subst e1
  cases r
  obtain ⟨its,rv,ht,hz⟩:=I.list hq
  rw [assign_Tuple]
  refine wpAny_bind (wpAny_standAt (unpack_lst (I.ok.hd hc) ht.isList (by simp [hn,← hl,rv.length]) hst fun h' hx=>?_))
  exact h pins _ σ H xs _ Q (I.kept (t':=s.toks) fun b o e=>hx b o (Nat.ne_of_lt (Heap.lt_size e)) e) (by simpa using rv) hw
def AllSay (n:Nat) (H:Hp):List V→List V→Prop
  | [],[]=>True
  | x :: xs,y :: ys=>((x=.non∧y=.non)∨∃ d,Shal n d∧Den H x d∧Den H y d)∧AllSay n H xs ys
  | _,_=>False
theorem AllSay.len {n:Nat} {H:Hp}:∀ {xs ys:List V},AllSay n H xs ys→xs.length=ys.length
  | [],[],_=>rfl
  | _ :: _,_ :: _,h=>congrArg (· + 1) h.2.len
  | [],_ :: _,h=>h.elim
  | _ :: _,[],h=>h.elim
theorem AllSay.at_ {n:Nat} {H:Hp}:∀ {xs ys:List V} {j:Nat} (h1:j < xs.length) (h2:j < ys.length),AllSay n H xs ys→((xs[j]=.non∧ys[j]=.non)∨∃ d,Shal n d∧Den H xs[j] d∧Den H ys[j] d)
  | _ :: _,_ :: _,0,_,_,h=>h.1
  | _ :: _,_ :: _,j+1,h1,h2,h=>AllSay.at_ (j:=j) (Nat.lt_of_succ_lt_succ h1) (Nat.lt_of_succ_lt_succ h2) h.2
end L2
set_option Elab.async false
set_option linter.all false
set_option maxRecDepth 100000
set_option maxHeartbeats 1000000
namespace SO
open PySem PySem.W PyProof.Rows
def gallop':Bool→Keyed→Array Keyed→Nat→Nat→Nat→StateT SortSt Sem (Option Nat):=sortPriv% PySem.Builtin.gallop
def beyond' (left:Bool) (key:Keyed) (arr:Array Keyed) (base:Nat) (i:Nat):StateT SortSt Sem (Option Bool):=do
  let x ← elem' arr (base+i)
  if left then lt' x key else return (← lt' key x).map (!·)
def search' (left:Bool) (key:Keyed) (arr:Array Keyed) (base n lo hi:Nat):StateT SortSt Sem (Option Nat):=do
  let mut lo:=lo
  let mut hi:=hi
  for _ in [0:n] do
    if lo ≥ hi then break
    let m:=lo+(hi - lo) / 2
    let some more ← beyond' left key arr base m | return none
    if more then lo:=m+1 else hi:=m
  return some hi
theorem gallop'_eq (left:Bool) (key:Keyed) (arr:Array Keyed) (base n hint:Nat):gallop' left key arr base n hint=(do
  let some right ← beyond' left key arr base hint | return none
  if right then
    let mut lastofs:=0
    let mut ofs:=1
    let maxofs:=n - hint
    for _ in [0:n] do
      if ofs ≥ maxofs then break
      let some more ← beyond' left key arr base (hint+ofs) | return none
      if !more then break
      lastofs:=ofs
      ofs:=2 * ofs+1
    search' left key arr base n (hint+lastofs+1) (hint+min ofs maxofs)
  else
    let mut lastofs:=0
    let mut ofs:=1
    let maxofs:=hint+1
    for _ in [0:n] do
      if ofs ≥ maxofs then break
      let some found ← beyond' left key arr base (hint - ofs) | return none
      if found then break
      lastofs:=ofs
      ofs:=2 * ofs+1
    search' left key arr base n (hint+1 - min ofs maxofs) (hint - lastofs)):=rfl
section
variable {O:KeyOrd} {key:Nat→O.α} {N:Nat} {prog:Program} {w:World} {A:Around} {E:Value→Shared→Prop} {s:Shared} {κ:SortKind} {it:Array Keyed} {st:SortSt}
def BelowN (N:Nat) (q:Array Nat):Prop:=∀ i,i < q.size→q.getD i 0 < N
theorem getD_lt {q:Array Nat} {i:Nat} (h:i < q.size):q.getD i 0=q[i]:=by simp [Array.getD,h]
theorem map_get {q:Array Nat} {i:Nat} (h:i < q.size):(q.map (kas_item it))[i]?=some (kas_item it (q.getD i 0)):=by
  rw [getD_lt h]; simp [h]
theorem wlt {i j:Nat} {Q:Option Bool→SortSt→Prop} (hc:Cmp key N (kas_cmp prog w A κ it) s) (hi:i < N) (hj:j < N) (hk:kindOf st=κ) (h:Q (some (O.blt (key i) (key j))) st) :
    wpS (model prog w) A E s (lt' (kas_item it i) (kas_item it j)) Q st:=by
  rw [lt'_eq]
  refine wpS_bind (wpS_get ?_)
  rw [hk]
  exact wpS_bind (wpS_lift (wpAny_attempt (wpAny_mono (hc i j _ hi hj ⟨rfl,wpS_pure h⟩) (fun _ _ x=>x) fun _ _ f=>f.elim)))
theorem welem {q:Array Nat} {i:Nat} {Q:Keyed→SortSt→Prop} (h:i < q.size) (hq:Q (kas_item it (q.getD i 0)) st):wpS (model prog w) A E s (elem' (q.map (kas_item it)) i) Q st:=by
  rw [elem'_eq,map_get h]
  exact wpS_pure hq
def Bey (key:Nat→O.α) (left:Bool) (k:Nat) (q:Array Nat) (base i:Nat):Bool:=if left then O.blt (key (q.getD (base+i) 0)) (key k) else !O.blt (key k) (key (q.getD (base+i) 0))
theorem wbeyond {left:Bool} {k base i:Nat} {q:Array Nat} {Q:Option Bool→SortSt→Prop} (hc:Cmp key N (kas_cmp prog w A κ it) s) (hq:BelowN N q) (hk:k < N) (hκ:kindOf st=κ) (hi:base+i < q.size) (h:Q (some (Bey key left k q base i)) st) :
    wpS (model prog w) A E s (beyond' left (kas_item it k) (q.map (kas_item it)) base i) Q st:=by
  unfold beyond'
  refine wpS_bind (welem hi ?_)
  cases left with
  | true =>
    rw [if_pos rfl]
    exact wlt hc (hq _ hi) hk hκ h
  | false =>
    rw [if_neg (by simp)]
    exact wpS_bind (wlt hc hk (hq _ hi) hκ (wpS_pure h))
theorem wgallop {left:Bool} {k base n hint:Nat} {q:Array Nat} {Q:Option Nat→SortSt→Prop} (hc:Cmp key N (kas_cmp prog w A κ it) s) (hq:BelowN N q) (hk:k < N) (hκ:kindOf st=κ) (hn:base+n≤q.size) (hh:hint < n)
    (mono:∀ i j,i≤j→j < n→Bey key left k q base j=true→Bey key left k q base i=true)
    (h:∀ r,r≤n→(∀ j,j < r→Bey key left k q base j=true)→(∀ j,r≤j→j < n→Bey key left k q base j=false)→Q (some r) st) :
    wpS (model prog w) A E s (gallop' left (kas_item it k) (q.map (kas_item it)) base n hint) Q st:=by
  rw [gallop'_eq]
  generalize hβ:Bey key left k q base=β at mono h
  have wb:∀ {i:Nat} {Q:Option Bool→SortSt→Prop},i < n→Q (some (β i)) st→wpS (model prog w) A E s (beyond' left (kas_item it k) (q.map (kas_item it)) base i) Q st:=fun {i Q} hi h=>wbeyond hc hq hk hκ (by omega) (by rw [hβ]; exact h)
  have no:∀ {i j},i≤j→j < n→β i=false→β j=false:=fun {i j} hij hj hi=>by
    cases e:β j with
    | false=>rfl
    | true=>rw [mono i j hij hj e] at hi; cases hi
  have fin:∀ lo hi,lo≤hi→hi≤n→(∀ j,j < lo→β j=true)→(∀ j,hi≤j→j < n→β j=false) →
      wpS (model prog w) A E s (search' left (kas_item it k) (q.map (kas_item it)) base n lo hi) Q st:=by
    intro lo hi hlh hhn h1 h2
    unfold search'
    refine wpS_bind (wpS_mono (wpS_forRange (I:=fun (x:Nat) (c:Option (Option Nat) × Nat × Nat) (st':SortSt)=>st'=st∧c.1=none∧c.2.1≤c.2.2∧c.2.2≤n∧c.2.2 - c.2.1+x≤n∧(∀ j,j < c.2.1→β j=true)∧∀ j,c.2.2≤j→j < n→β j=false)
      (Q:=fun (c:Option (Option Nat) × Nat × Nat) (st':SortSt)=>st'=st∧c.1=none∧c.2.1=c.2.2∧c.2.2≤n∧(∀ j,j < c.2.1→β j=true)∧∀ j,c.2.2≤j→j < n→β j=false) ?step ?fin ⟨rfl,rfl,hlh,hhn,by dsimp only; omega,h1,h2⟩) ?post)
    case step =>
      rintro x ⟨c0,l,r⟩ st' _ hx ⟨rfl,e0,i1,i2,i3,i4,i5⟩
      dsimp only at *
      subst e0
      by_cases hlr:l ≥ r
      · rw [if_pos hlr]
        exact wpS_pure ⟨rfl,rfl,by dsimp only; omega,i2,i4,i5⟩
      · rw [if_neg hlr]
        refine wpS_bind (wb (by omega) ?_)
        dsimp only
        cases hb:β (l+(r - l) / 2) with
        | true =>
          rw [if_pos rfl]
          exact wpS_pure ⟨rfl,rfl,by dsimp only; omega,i2,by dsimp only; omega,(fun j hj=>mono j _ (by dsimp only at hj; omega) (by omega) hb),i5⟩
        | false =>
          rw [if_neg (by simp)]
          exact wpS_pure ⟨rfl,rfl,by dsimp only; omega,by dsimp only; omega,by dsimp only; omega,i4,fun j hj hjn=>no hj hjn hb⟩
    case fin =>
      rintro ⟨c0,l,r⟩ st' ⟨rfl,e0,i1,i2,i3,i4,i5⟩
      dsimp only at *
      exact ⟨rfl,e0,by omega,i2,i4,i5⟩
    case post =>
      rintro ⟨c0,l,r⟩ st' ⟨rfl,e0,e1,i2,i4,i5⟩
      dsimp only at *
      subst e0 e1
      exact wpS_pure (h l i2 i4 i5)
  refine wpS_bind (wb hh ?_)
  dsimp only
  cases hr:β hint with
  | true =>
    rw [if_pos rfl]
    refine wpS_bind (wpS_mono (wpS_forRange (I:=fun (x:Nat) (c:Option (Option Nat) × Nat × Nat) (st':SortSt)=>st'=st∧c.1=none∧c.2.1 < c.2.2∧x < c.2.2∧hint+c.2.1 < n∧β (hint+c.2.1)=true)
      (Q:=fun (c:Option (Option Nat) × Nat × Nat) (st':SortSt)=>st'=st∧c.1=none∧c.2.1 < c.2.2∧hint+c.2.1 < n∧β (hint+c.2.1)=true∧(n - hint≤c.2.2∨(hint+c.2.2 < n∧β (hint+c.2.2)=false))) ?step ?fin ⟨rfl,rfl,by dsimp only; omega,by dsimp only; omega,by dsimp only; omega,hr⟩) ?post)
    case step =>
      rintro x ⟨c0,l,o⟩ st' _ hx ⟨rfl,e0,i1,i2,i3,i4⟩
      dsimp only at *
      subst e0
      by_cases hlr:o ≥ n - hint
      · rw [if_pos hlr]
        exact wpS_pure ⟨rfl,rfl,i1,i3,i4,.inl hlr⟩
      · rw [if_neg hlr]
        refine wpS_bind (wb (by omega) ?_)
        dsimp only
        cases hb:β (hint+o) with
        | true =>
          rw [if_neg (by simp)]
          exact wpS_pure ⟨rfl,rfl,by dsimp only; omega,by dsimp only; omega,by dsimp only; omega,hb⟩
        | false =>
          rw [if_pos (by rfl)]
          exact wpS_pure ⟨rfl,rfl,i1,i3,i4,.inr ⟨by dsimp only; omega,hb⟩⟩
    case fin =>
      rintro ⟨c0,l,o⟩ st' ⟨rfl,e0,i1,i2,i3,i4⟩
      dsimp only at *
      exact ⟨rfl,e0,i1,i3,i4,.inl (by omega)⟩
    case post =>
      rintro ⟨c0,l,o⟩ st' ⟨rfl,e0,i1,i3,i4,i5⟩
      dsimp only at *
      subst e0
      dsimp only
      refine fin (hint+l+1) (hint+min o (n - hint)) (by omega) (by omega) (fun j hj=>mono j _ (by omega) i3 i4) fun j hj hjn=>?_
      rcases i5 with i5 | ⟨i5,i6⟩
      · omega
      · exact no (by omega) hjn i6
  | false =>
    rw [if_neg (by simp)]
    refine wpS_bind (wpS_mono (wpS_forRange (I:=fun (x:Nat) (c:Option (Option Nat) × Nat × Nat) (st':SortSt)=>st'=st∧c.1=none∧c.2.1 < c.2.2∧x < c.2.2∧c.2.1≤hint∧β (hint - c.2.1)=false)
      (Q:=fun (c:Option (Option Nat) × Nat × Nat) (st':SortSt)=>st'=st∧c.1=none∧c.2.1 < c.2.2∧c.2.1≤hint∧β (hint - c.2.1)=false∧(hint+1≤c.2.2∨(c.2.2≤hint∧β (hint - c.2.2)=true))) ?step ?fin ⟨rfl,rfl,by dsimp only; omega,by dsimp only; omega,by dsimp only; omega,hr⟩) ?post)
    case step =>
      rintro x ⟨c0,l,o⟩ st' _ hx ⟨rfl,e0,i1,i2,i3,i4⟩
      dsimp only at *
      subst e0
      by_cases hlr:o ≥ hint+1
      · rw [if_pos hlr]
        exact wpS_pure ⟨rfl,rfl,i1,i3,i4,.inl hlr⟩
      · rw [if_neg hlr]
        refine wpS_bind (wb (by omega) ?_)
        dsimp only
        cases hb:β (hint - o) with
        | true =>
          rw [if_pos (by rfl)]
          exact wpS_pure ⟨rfl,rfl,i1,i3,i4,.inr ⟨by dsimp only; omega,hb⟩⟩
        | false =>
          rw [if_neg (by simp)]
          exact wpS_pure ⟨rfl,rfl,by dsimp only; omega,by dsimp only; omega,by dsimp only; omega,hb⟩
    case fin =>
      rintro ⟨c0,l,o⟩ st' ⟨rfl,e0,i1,i2,i3,i4⟩
      dsimp only at *
      exact ⟨rfl,e0,i1,i3,i4,.inl (by omega)⟩
    case post =>
      rintro ⟨c0,l,o⟩ st' ⟨rfl,e0,i1,i3,i4,i5⟩
      dsimp only at *
      subst e0
      dsimp only
      refine fin (hint+1 - min o (hint+1)) (hint - l) (by omega) (by omega) (fun j hj=>?_) fun j hj hjn=>no hj hjn i4
      rcases i5 with i5 | ⟨i5,i6⟩
      · omega
      · exact mono j _ (by omega) (by omega) i6
end
end SO
set_option Elab.async false
set_option linter.all false
set_option maxRecDepth 100000
set_option maxHeartbeats 1000000
namespace SO
open PySem PySem.W PyProof.Rows
def setMinGallop':Nat→StateT SortSt Sem Unit:=sortPriv% PySem.Builtin.setMinGallop
theorem setMinGallop'_eq (g:Nat):setMinGallop' g=modify fun st=>SortSt.mk' (kindOf st) (arrOf st) (pendingOf st) g (failedOf st):=rfl
abbrev arr (it:Array Keyed) (l:List Nat):Array Keyed:=l.toArray.map (kas_item it)
section
variable {it:Array Keyed}
theorem arr_size (l:List Nat):(arr it l).size=l.length:=by simp
theorem arr_push (l:List Nat) (x:Nat):(arr it l).push (kas_item it x)=arr it (l++[x]):=by simp [arr]
theorem arr_app (l m:List Nat):arr it l++arr it m=arr it (l++m):=by simp [arr]
theorem arr_drop (l:List Nat) (i:Nat):(arr it l).extract i (arr it l).size=arr it (l.drop i):=by
  apply Array.ext_getElem?
  intro k
  simp [arr,Array.getElem?_extract]
  by_cases h:k < l.length - i
  · simp [h,show i+k < l.length by omega]
  · simp [h,show l.length≤i+k by omega]
theorem arr_part (l:List Nat) (i k:Nat) (h:i+k≤l.length):(arr it l).extract i (i+k)=arr it ((l.drop i).take k):=by
  apply Array.ext_getElem?
  intro j
  simp [arr,Array.getElem?_extract,List.getElem?_take]
theorem arr_take (l:List Nat) (k:Nat):(arr it l).extract 0 k=arr it (l.take k):=by
  apply Array.ext_getElem?
  intro j
  simp [arr,Array.getElem?_extract,List.getElem?_take]
theorem arr_rev (l:List Nat):(arr it l).reverse=arr it l.reverse:=by simp [arr]
theorem toA_getD (l:List Nat) (i:Nat):l.toArray.getD i 0=l.getD i 0:=by simp [Array.getD_eq_getD_getElem?,List.getD_eq_getElem?_getD]
theorem getD_of {l:List Nat} {i:Nat} (h:i < l.length):l.getD i 0=l[i]:=by simp [List.getD_eq_getElem?_getD,h]
end
section
variable {O:KeyOrd} {key:Nat→O.α} {N:Nat} {prog:Program} {w:World} {A:Around} {E:Value→Shared→Prop} {s:Shared} {κ:SortKind} {it:Array Keyed} {st:SortSt}
abbrev Up (key:Nat→O.α) (l:List Nat):Prop:=l.Pairwise fun x y=>O.kle (key x) (key y)
structure Mg (key:Nat→O.α) (As Bs o ra rb:List Nat):Prop where
  perm:(o++(ra++rb)).Perm (As++Bs)
  so:Up key o
  le:∀ x∈o,∀ y∈ra++rb,O.kle (key x) (key y)
  sa:Up key ra
  sb:Up key rb
variable {As Bs o ra rb xs ra' rb':List Nat}
theorem Mg.takeAs (m:Mg key As Bs o ra rb) (e:ra=xs++ra') (h:∀ x∈xs,∀ y∈rb,O.kle (key x) (key y)):Mg key As Bs (o++xs) ra' rb:=by
  subst e
  have sa:=List.pairwise_append.mp m.sa
  refine ⟨(by rw [List.append_assoc,← List.append_assoc xs]; exact m.perm),List.pairwise_append.mpr ⟨m.so,sa.1,fun x hx y hy=>m.le x hx y (by simp [hy])⟩,fun x hx y hy=>?_,sa.2.1,m.sb⟩
  rcases List.mem_append.mp hx with hx | hx
  · exact m.le x hx y (by rcases List.mem_append.mp hy with z | z <;> simp [z])
  · rcases List.mem_append.mp hy with z | z
    · exact sa.2.2 x hx y z
    · exact h x hx y z
theorem Mg.takeBs (m:Mg key As Bs o ra rb) (e:rb=xs++rb') (h:∀ x∈xs,∀ y∈ra,O.kle (key x) (key y)):Mg key As Bs (o++xs) ra rb':=by
  subst e
  have sb:=List.pairwise_append.mp m.sb
  refine ⟨List.Perm.trans ?_ m.perm,List.pairwise_append.mpr ⟨m.so,sb.1,fun x hx y hy=>m.le x hx y (by simp [hy])⟩,fun x hx y hy=>?_,m.sa,sb.2.1⟩
  · rw [List.append_assoc]
    refine List.Perm.append_left o ?_
    rw [← List.append_assoc,← List.append_assoc]
    exact (List.perm_append_comm).append_right rb'
  · rcases List.mem_append.mp hx with hx | hx
    · exact m.le x hx y (by rcases List.mem_append.mp hy with z | z <;> simp [z])
    · rcases List.mem_append.mp hy with z | z
      · exact h x hx y z
      · exact sb.2.2 x hx y z
def Merged (key:Nat→O.α) (it:Array Keyed) (As Bs:List Nat) (r:Array Keyed):Prop:=∃ l:List Nat,r=arr it l∧l.Perm (As++Bs)∧Up key l
theorem Mg.doneA (m:Mg key As Bs o ra []):Merged key it As Bs (arr it o++arr it ra++arr it []):=by
  refine ⟨o++ra,by rw [arr_app,arr_app,List.append_nil],by simpa using m.perm,List.pairwise_append.mpr ⟨m.so,m.sa,fun x hx y hy=>m.le x hx y (by simp [hy])⟩⟩
theorem Mg.doneB (m:Mg key As Bs o [] rb):Merged key it As Bs (arr it o++arr it []++arr it rb):=by
  refine ⟨o++rb,by rw [arr_app,arr_app,List.append_nil],by simpa using m.perm,List.pairwise_append.mpr ⟨m.so,m.sb,fun x hx y hy=>m.le x hx y (by simp [hy])⟩⟩
theorem Mg.lastA (m:Mg key As Bs o ra rb) (h:∀ x∈ra,∀ y∈rb,O.kle (key y) (key x)):Merged key it As Bs (arr it o++arr it rb++arr it ra):=by
  refine ⟨o++rb++ra,by rw [arr_app,arr_app],List.Perm.trans ?_ m.perm,List.pairwise_append.mpr ⟨List.pairwise_append.mpr ⟨m.so,m.sb,fun x hx y hy=>m.le x hx y (by simp [hy])⟩,m.sa,fun x hx y hy=>?_⟩⟩
  · rw [List.append_assoc]; exact List.perm_append_comm.append_left o
  · rcases List.mem_append.mp hx with z | z
    · exact m.le x z y (by simp [hy])
    · exact h y hy x z
theorem drop_cons {l:List Nat} {i:Nat} (h:i < l.length):l.drop i=[l.getD i 0]++l.drop (i+1):=by
  rw [getD_of h,List.drop_eq_getElem_cons h]; rfl
theorem drop_split (l:List Nat) (i k:Nat):l.drop i=(l.drop i).take k++l.drop (i+k):=by
  rw [← List.drop_drop]; exact (List.take_append_drop k (l.drop i)).symm
theorem up_drop {l:List Nat} (h:Up key l) {i:Nat} (hi:i < l.length):∀ x∈l.drop i,O.kle (key (l.getD i 0)) (key x):=fun x hx=>by
  rw [drop_cons hi] at hx
  rcases List.mem_append.mp hx with z | z
  · rw [List.mem_singleton.mp z]; exact KeyOrd.kle_refl _
  · have:=h.sublist (List.drop_sublist i l)
    rw [drop_cons hi] at this
    exact (List.pairwise_append.mp this).2.2 _ (by simp) x z
theorem mem_part {l:List Nat} {i k x:Nat} (h:x∈(l.drop i).take k):∃ j,j < k∧i+j < l.length∧x=l.getD (i+j) 0:=by
  obtain ⟨j,hj,e⟩:=List.getElem_of_mem h
  simp at hj
  refine ⟨j,by omega,by omega,?_⟩
  rw [getD_of (by omega)]
  simpa using e.symm
theorem up_le {l:List Nat} (h:Up key l) {i j:Nat} (hij:i≤j) (hj:j < l.length):O.kle (key (l.getD i 0)) (key (l.getD j 0)):=by
  rcases Nat.lt_or_ge i j with z | z
  · rw [getD_of (by omega),getD_of hj]
    exact List.pairwise_iff_getElem.mp h i j (by omega) hj z
  · have:i=j:=by omega
    subst this; exact KeyOrd.kle_refl _
def Stay (st st':SortSt):Prop:=kindOf st'=kindOf st∧arrOf st'=arrOf st∧pendingOf st'=pendingOf st∧failedOf st'=failedOf st
theorem Stay.refl (st:SortSt):Stay st st:=⟨rfl,rfl,rfl,rfl⟩
theorem Stay.trans {a b c:SortSt} (h:Stay a b) (g:Stay b c):Stay a c:=⟨g.1.trans h.1,g.2.1.trans h.2.1,g.2.2.1.trans h.2.2.1,g.2.2.2.trans h.2.2.2⟩
theorem wsetMin {g:Nat} {Q:Unit→SortSt→Prop} (h:∀ st',Stay st st'→Q () st'):wpS (model prog w) A E s (setMinGallop' g) Q st:=by
  rw [setMinGallop'_eq]
  exact wpS_modify (h _ ⟨rfl,rfl,rfl,rfl⟩)
theorem belowN {l:List Nat} (h:∀ x∈l,x < N):BelowN N l.toArray:=fun i hi=>by
  rw [toA_getD,getD_of (by simpa using hi)]
  exact h _ (List.getElem_mem _)
theorem welemL {l:List Nat} {i:Nat} {Q:Keyed→SortSt→Prop} (h:i < l.length) (hq:Q (kas_item it (l.getD i 0)) st):wpS (model prog w) A E s (elem' (arr it l) i) Q st:=by
  refine welem (q:=l.toArray) (by simpa using h) ?_
  rw [toA_getD]; exact hq
theorem wgal {left:Bool} {k base n hint:Nat} {l:List Nat} {Q:Option Nat→SortSt→Prop} (hc:Cmp key N (kas_cmp prog w A κ it) s) (hl:∀ x∈l,x < N) (hk:k < N) (hκ:kindOf st=κ) (hn:base+n≤l.length) (hh:hint < n) (hup:Up key l)
    (h:∀ r,r≤n→(∀ j,j < r→if left then O.klt (key (l.getD (base+j) 0)) (key k) else O.kle (key (l.getD (base+j) 0)) (key k))→(∀ j,r≤j→j < n→if left then O.kle (key k) (key (l.getD (base+j) 0)) else O.klt (key k) (key (l.getD (base+j) 0)))→Q (some r) st) :
    wpS (model prog w) A E s (gallop' left (kas_item it k) (arr it l) base n hint) Q st:=by
  have hsz:l.toArray.size=l.length:=by simp
  refine wgallop hc (belowN hl) hk hκ (by rw [hsz]; exact hn) hh (fun i j hij hj hb=>?_) fun r hr h1 h2=>h r hr (fun j hj=>?_) fun j hj hjn=>?_
  · have:=up_le hup (i:=base+i) (j:=base+j) (by omega) (by omega)
    unfold Bey at hb ⊢
    rw [toA_getD] at hb ⊢
    cases left with
    | true =>
      rw [if_pos rfl] at hb ⊢
      exact KeyOrd.klt_of_kle_of_klt this hb
    | false =>
      rw [if_neg (by simp)] at hb ⊢
      have hb':O.kle (key (l.getD (base+j) 0)) (key k):=by unfold KeyOrd.kle; simpa using hb
      have:=KeyOrd.kle_trans this hb'
      unfold KeyOrd.kle at this
      rw [this]
      rfl
  · have hb:=h1 j hj
    unfold Bey at hb
    rw [toA_getD] at hb
    cases left with
    | true=>rw [if_pos rfl] at hb ⊢; exact hb
    | false=>rw [if_neg (by simp)] at hb ⊢; unfold KeyOrd.kle; simpa using hb
  · have hb:=h2 j hj hjn
    unfold Bey at hb
    rw [toA_getD] at hb
    cases left with
    | true=>rw [if_pos rfl] at hb ⊢; exact hb
    | false=>rw [if_neg (by simp)] at hb ⊢; unfold KeyOrd.klt; simpa using hb
end
end SO
set_option Elab.async false
set_option linter.all false
set_option maxRecDepth 100000
set_option maxHeartbeats 2000000
namespace SO
open PySem PySem.W PyProof.Rows
def mergeLo':Array Keyed→Array Keyed→StateT SortSt Sem (Array Keyed):=sortPriv% PySem.Builtin.mergeLo
theorem mergeLo'_eq (a b:Array Keyed):mergeLo' a b=(do
  rule "list.sort.merge-lo"
  let total:=a.size+b.size
  let done (out:Array Keyed) (ia ib:Nat):=out++a.extract ia a.size++b.extract ib b.size
  let lastOfA (out:Array Keyed) (ia ib:Nat):=out++b.extract ib b.size++a.extract ia a.size
  let mut out:Array Keyed:=#[← elem' b 0]
  let mut ia:=0
  let mut ib:=1
  if ib == b.size then return done out ia ib
  if ia+1 == a.size then return lastOfA out ia ib
  let mut minGallop:=gallopOf (← get)
  for _ in [0:total] do
    let mut acount:=0
    let mut bcount:=0
    for _ in [0:total] do
      let some bWins ← lt' (← elem' b ib) (← elem' a ia) | return done out ia ib
      if bWins then
        out:=out.push (← elem' b ib); ib:=ib+1; bcount:=bcount+1; acount:=0
        if ib == b.size then return done out ia ib
        if bcount ≥ minGallop then break
      else
        out:=out.push (← elem' a ia); ia:=ia+1; acount:=acount+1; bcount:=0
        if ia+1 == a.size then return lastOfA out ia ib
        if acount ≥ minGallop then break
    rule "list.sort.gallop"
    minGallop:=minGallop+1
    for _ in [0:total] do
      if minGallop > 1 then minGallop:=minGallop - 1
      setMinGallop' minGallop
      let some k ← gallop' false (← elem' b ib) a ia (a.size - ia) 0 | return done out ia ib
      acount:=k
      if k > 0 then
        out:=out++a.extract ia (ia+k); ia:=ia+k
        if ia+1 == a.size then return lastOfA out ia ib
        if ia == a.size then return done out ia ib
      out:=out.push (← elem' b ib); ib:=ib+1
      if ib == b.size then return done out ia ib
      let some k ← gallop' true (← elem' a ia) b ib (b.size - ib) 0 | return done out ia ib
      bcount:=k
      if k > 0 then
        out:=out++b.extract ib (ib+k); ib:=ib+k
        if ib == b.size then return done out ia ib
      out:=out.push (← elem' a ia); ia:=ia+1
      if ia+1 == a.size then return lastOfA out ia ib
      if acount < 7 && bcount < 7 then break
    minGallop:=minGallop+1
    setMinGallop' minGallop
  unsupported "internal:list.sort.merge-bound"):=rfl
section
variable {O:KeyOrd} {key:Nat→O.α} {N:Nat} {prog:Program} {w:World} {A:Around} {E:Value→Shared→Prop} {s:Shared} {κ:SortKind} {it:Array Keyed} {st:SortSt} {As Bs o:List Nat} {ia ib:Nat}
theorem lo_stepB (m:Mg key As Bs o (As.drop ia) (Bs.drop ib)) (hb:ib < Bs.length) (sA:Up key As) (hle:∀ x∈As.drop ia,O.kle (key (Bs.getD ib 0)) (key x)):Mg key As Bs (o++[Bs.getD ib 0]) (As.drop ia) (Bs.drop (ib+1)) :=
  m.takeBs (drop_cons hb) fun x hx y hy=>by rw [List.mem_singleton.mp hx]; exact hle y hy
theorem lo_stepA (m:Mg key As Bs o (As.drop ia) (Bs.drop ib)) (ha:ia < As.length) (hle:∀ y∈Bs.drop ib,O.kle (key (As.getD ia 0)) (key y)):Mg key As Bs (o++[As.getD ia 0]) (As.drop (ia+1)) (Bs.drop ib) :=
  m.takeAs (drop_cons ha) fun x hx y hy=>by rw [List.mem_singleton.mp hx]; exact hle y hy
abbrev LoSt:=Option (Array Keyed) × Array Keyed × Nat × Nat × Nat × Nat
def JLo (key:Nat→O.α) (it:Array Keyed) (As Bs:List Nat) (out:Array Keyed) (ia ib:Nat):Prop:=∃ o,out=arr it o∧Mg key As Bs o (As.drop ia) (Bs.drop ib)∧ia+1 < As.length∧ib < Bs.length
theorem wmergeLo {Q:Array Keyed→SortSt→Prop} (hc:Cmp key N (kas_cmp prog w A κ it) s) (hA:∀ x∈As,x < N) (hB:∀ x∈Bs,x < N) (hκ:kindOf st=κ) (sA:Up key As) (sB:Up key Bs) (nA:0 < As.length) (nB:0 < Bs.length)
    (first:O.klt (key (Bs.getD 0 0)) (key (As.getD 0 0))) (last:∀ y∈Bs,O.klt (key y) (key (As.getD (As.length - 1) 0))) (h:∀ r st',Stay st st'→Merged key it As Bs r→Q r st') :
    wpS (model prog w) A E s (mergeLo' (arr it As) (arr it Bs)) Q st:=by
  have gA:∀ i,i < As.length→As.getD i 0 < N:=fun i hi=>by rw [getD_of hi]; exact hA _ (List.getElem_mem _)
  have gB:∀ i,i < Bs.length→Bs.getD i 0 < N:=fun i hi=>by rw [getD_of hi]; exact hB _ (List.getElem_mem _)
  have retB:∀ o ia ib,Mg key As Bs o (As.drop ia) (Bs.drop ib)→ib=Bs.length→Merged key it As Bs (arr it o++(arr it As).extract ia As.length++(arr it Bs).extract ib Bs.length):=fun o ia ib m e=>by
    have e1:=arr_drop (it:=it) As ia
    have e2:=arr_drop (it:=it) Bs ib
    rw [arr_size] at e1 e2
    rw [e1,e2]
    rw [e,List.drop_length] at m ⊢
    exact m.doneA
  have retA:∀ o ia ib,Mg key As Bs o (As.drop ia) (Bs.drop ib)→ia=As.length→Merged key it As Bs (arr it o++(arr it As).extract ia As.length++(arr it Bs).extract ib Bs.length):=fun o ia ib m e=>by
    have e1:=arr_drop (it:=it) As ia
    have e2:=arr_drop (it:=it) Bs ib
    rw [arr_size] at e1 e2
    rw [e1,e2]
    rw [e,List.drop_length] at m ⊢
    exact m.doneB
  have retL:∀ o ia ib,Mg key As Bs o (As.drop ia) (Bs.drop ib)→ia+1=As.length→Merged key it As Bs (arr it o++(arr it Bs).extract ib Bs.length++(arr it As).extract ia As.length):=fun o ia ib m e=>by
    have e1:=arr_drop (it:=it) As ia
    have e2:=arr_drop (it:=it) Bs ib
    rw [arr_size] at e1 e2
    rw [e1,e2]
    refine m.lastA fun x hx y hy=>?_
    rw [drop_cons (by omega),show ia+1=As.length by omega,List.drop_length,List.append_nil] at hx
    rw [List.mem_singleton.mp hx,show ia=As.length - 1 by omega]
    exact KeyOrd.kle_of_klt (last y (List.mem_of_mem_drop hy))
  rw [mergeLo'_eq]
  refine wpS_bind (wpS_lift (wpAny_rule ⟨rfl,?_⟩))
  dsimp only
  simp only [arr_size]
  refine wpS_bind (welemL nB ?_)
  have m0:Mg key As Bs [Bs.getD 0 0] (As.drop 0) (Bs.drop 1):=by
    refine lo_stepB (o:=[]) (ia:=0) (ib:=0) ⟨by simp,List.Pairwise.nil,(fun x hx=>by cases hx),sA,sB⟩ nB sA fun x hx=>?_
    exact KeyOrd.kle_trans (KeyOrd.kle_of_klt first) (up_drop sA nA x hx)
  have e0:(#[kas_item it (Bs.getD 0 0)]:Array Keyed)=arr it [Bs.getD 0 0]:=by simp [arr]
  rw [e0]
  by_cases h1:(1 == Bs.length)=true
  · rw [if_pos h1]
    exact wpS_pure (h _ _ (Stay.refl _) (retB _ _ _ m0 (by simpa using h1)))
  rw [if_neg h1]
  by_cases h2:(0+1 == As.length)=true
  · rw [if_pos h2]
    exact wpS_pure (h _ _ (Stay.refl _) (retL _ _ _ m0 (by simpa using h2)))
  rw [if_neg h2]
  have h1':1 < Bs.length:=by simp at h1; omega
  have h2':0+1 < As.length:=by simp at h2; omega
  refine wpS_bind (wpS_get ?_)
  refine wpS_bind (wpS_mono (wpS_forRange
    (I:=fun (x:Nat) (c:Option (Array Keyed) × Array Keyed × Nat × Nat × Nat) (st':SortSt)=>Stay st st'∧c.1=none∧JLo key it As Bs c.2.1 c.2.2.1 c.2.2.2.1∧x+1≤c.2.2.1+c.2.2.2.1)
    (Q:=fun (c:Option (Array Keyed) × Array Keyed × Nat × Nat × Nat) (st':SortSt)=>Stay st st'∧∃ r,c.1=some r∧Merged key it As Bs r) ?step ?fin ⟨Stay.refl _,rfl,⟨_,rfl,m0,h2',h1'⟩,by simp⟩) ?post)
  case fin =>
    rintro ⟨c0,out,ia,ib,mg⟩ st' ⟨hs,e0,⟨o,_,_,b1,b2⟩,hp⟩
    dsimp only at *
    omega
  case post =>
    rintro ⟨c0,out,ia,ib,mg⟩ st' ⟨hs,r,e0,hm⟩
    dsimp only at *
    subst e0
    exact wpS_pure (h _ _ hs hm)
  case step =>
    rintro x ⟨c0,out,ia,ib,mg⟩ st1 _ hx ⟨hs1,e0,j0,hp⟩
    dsimp only at *
    subst e0
    refine wpS_bind (wpS_mono (wpS_forRange
      (I:=fun (y:Nat) (c:LoSt) (st':SortSt)=>st'=st1∧c.1=none∧JLo key it As Bs c.2.1 c.2.2.1 c.2.2.2.1∧ia+ib+y≤c.2.2.1+c.2.2.2.1)
      (Q:=fun (c:LoSt) (st':SortSt)=>st'=st1∧((∃ r,c.1=some r∧Merged key it As Bs r)∨(c.1=none∧JLo key it As Bs c.2.1 c.2.2.1 c.2.2.2.1∧ia+ib+1≤c.2.2.1+c.2.2.2.1))) ?step1 ?fin1 ⟨rfl,rfl,j0,by simp⟩) ?post1)
    case fin1 =>
      rintro ⟨c0,out',ia',ib',ac,bc⟩ st' ⟨hs,e0,j,hp'⟩
      dsimp only at *
      exact ⟨hs,.inr ⟨e0,j,by omega⟩⟩
    case step1 =>
      rintro y ⟨c0,out',ia',ib',ac,bc⟩ st' _ hy ⟨rfl,e0,⟨o,rfl,m,b1,b2⟩,hp'⟩
      dsimp only at *
      subst e0
      refine wpS_bind (welemL b2 (wpS_bind (welemL (by omega) ?_)))
      refine wpS_bind (wlt hc (gB _ b2) (gA _ (by omega)) (hs1.1.trans hκ) ?_)
      dsimp only
      cases hb:O.blt (key (Bs.getD ib' 0)) (key (As.getD ia' 0)) with
      | true =>
        rw [if_pos rfl]
        refine wpS_bind (welemL b2 ?_)
        rw [arr_push]
        have m1:=lo_stepB m b2 sA fun x hx=>KeyOrd.kle_trans (KeyOrd.kle_of_klt hb) (up_drop sA (by omega) x hx)
        by_cases h3:(ib' + 1 == Bs.length)=true
        · rw [if_pos h3]
          exact wpS_pure ⟨rfl,.inl ⟨_,rfl,retB _ _ _ m1 (by simpa using h3)⟩⟩
        rw [if_neg h3]
        have h3':ib' + 1 < Bs.length:=by simp at h3; omega
        by_cases h4:bc+1 ≥ mg
        · rw [if_pos h4]
          exact wpS_pure ⟨rfl,.inr ⟨rfl,⟨_,rfl,m1,b1,h3'⟩,by dsimp only; omega⟩⟩
        · rw [if_neg h4]
          exact wpS_pure ⟨rfl,rfl,⟨_,rfl,m1,b1,h3'⟩,by dsimp only; omega⟩
      | false =>
        rw [if_neg (by simp)]
        refine wpS_bind (welemL (by omega) ?_)
        rw [arr_push]
        have m1:=lo_stepA m (by omega) fun y hy=>KeyOrd.kle_trans (show O.kle _ _ from hb) (up_drop sB b2 y hy)
        by_cases h3:(ia' + 1+1 == As.length)=true
        · rw [if_pos h3]
          exact wpS_pure ⟨rfl,.inl ⟨_,rfl,retL _ _ _ m1 (by simpa using h3)⟩⟩
        rw [if_neg h3]
        have h3':ia' + 1+1 < As.length:=by simp at h3; omega
        by_cases h4:ac+1 ≥ mg
        · rw [if_pos h4]
          exact wpS_pure ⟨rfl,.inr ⟨rfl,⟨_,rfl,m1,h3',b2⟩,by dsimp only; omega⟩⟩
        · rw [if_neg h4]
          exact wpS_pure ⟨rfl,rfl,⟨_,rfl,m1,h3',b2⟩,by dsimp only; omega⟩
    case post1 =>
      rintro ⟨c0,out',ia',ib',ac,bc⟩ st' ⟨rfl,⟨r,e0,hm⟩ | ⟨e0,j,hp1⟩⟩
      · dsimp only at *
        subst e0
        exact wpS_pure ⟨hs1,r,rfl,hm⟩
      dsimp only at *
      subst e0
      dsimp only
      refine wpS_bind (wpS_lift (wpAny_rule ⟨rfl,?_⟩))
      refine wpS_bind (wpS_mono (wpS_forRange
        (I:=fun (y:Nat) (c:Option (Array Keyed) × Array Keyed × Nat × Nat × Nat × Nat × Nat) (st2:SortSt)=>Stay st' st2∧c.1=none∧JLo key it As Bs c.2.1 c.2.2.1 c.2.2.2.1∧ia' + ib'≤c.2.2.1+c.2.2.2.1)
        (Q:=fun (c:Option (Array Keyed) × Array Keyed × Nat × Nat × Nat × Nat × Nat) (st2:SortSt)=>Stay st' st2∧((∃ r,c.1=some r∧Merged key it As Bs r)∨(c.1=none∧JLo key it As Bs c.2.1 c.2.2.1 c.2.2.2.1∧ia' + ib'≤c.2.2.1+c.2.2.2.1))) ?step2 ?fin2 ⟨Stay.refl _,rfl,j,Nat.le_refl _⟩) ?post2)
      case fin2 =>
        rintro ⟨c0,out2,ia2,ib2,mg2,ac2,bc2⟩ st2 ⟨hs,e0,j,hp'⟩
        dsimp only at *
        exact ⟨hs,.inr ⟨e0,j,hp'⟩⟩
      case post2 =>
        rintro ⟨c0,out2,ia2,ib2,mg2,ac2,bc2⟩ st2 ⟨hs,⟨r,e0,hm⟩ | ⟨e0,j,hp2⟩⟩
        · dsimp only at *
          subst e0
          exact wpS_pure ⟨hs1.trans hs,r,rfl,hm⟩
        · dsimp only at *
          subst e0
          dsimp only
          refine wpS_bind (wsetMin fun st3 hs3=>wpS_pure ⟨(hs1.trans hs).trans hs3,rfl,j,by dsimp only; omega⟩)
      case step2 =>
        rintro y ⟨c0,out2,ia2,ib2,mg2,ac2,bc2⟩ st2 _ hy ⟨hs2,e0,⟨o,rfl,m,b1,b2⟩,hp2⟩
        dsimp only at *
        subst e0
        by_cases hmg:mg2 > 1
        all_goals first | rw [if_pos hmg] | rw [if_neg hmg]
        all_goals
          refine wpS_bind (wsetMin fun st3 hs3=>?_)
          have hS:=hs2.trans hs3
          have hκ3:kindOf st3=κ:=(hs1.trans hS).1.trans hκ
          refine wpS_bind (welemL b2 (wpS_bind (wgal hc hA (gB _ b2) hκ3 (by omega) (by omega) sA fun k p1 p2 p3=>?_)))
          dsimp only
          by_cases hk0:k > 0
          · rw [if_pos hk0]
            have ex:=arr_part (it:=it) As ia2 k (by omega)
            rw [ex,arr_app]
            have m1:=m.takeAs (drop_split As ia2 k) (fun x hx y hy=>by
              obtain ⟨j,hj,hjl,rfl⟩:=mem_part hx
              exact KeyOrd.kle_trans (show O.kle _ _ from p2 j hj) (up_drop sB b2 y hy))
            by_cases h3:(ia2+k+1 == As.length)=true
            · rw [if_pos h3]
              exact wpS_pure ⟨hS,.inl ⟨_,rfl,retL _ _ _ m1 (by simpa using h3)⟩⟩
            rw [if_neg h3]
            by_cases h4:(ia2+k == As.length)=true
            · rw [if_pos h4]
              exact wpS_pure ⟨hS,.inl ⟨_,rfl,retA _ _ _ m1 (by simpa using h4)⟩⟩
            rw [if_neg h4]
            have b3:ia2+k+1 < As.length:=by simp at h3 h4; omega
            have hle:∀ x∈As.drop (ia2+k),O.kle (key (Bs.getD ib2 0)) (key x):=fun x hx=>by
              have:=p3 k (Nat.le_refl _) (by omega)
              exact KeyOrd.kle_trans (KeyOrd.kle_of_klt (show O.klt _ _ from this)) (up_drop sA (by omega) x hx)
            have hpk:ia' + ib'≤ia2+k+ib2:=by omega
            generalize o++(As.drop ia2).take k=o3 at m1 ⊢
            generalize ia2+k=ia3 at m1 b3 hle hpk ⊢
            refine wpS_bind (welemL b2 ?_)
            rw [arr_push]
            have m2:=lo_stepB m1 b2 sA hle
            by_cases h5:(ib2+1 == Bs.length)=true
            · rw [if_pos h5]
              exact wpS_pure ⟨hS,.inl ⟨_,rfl,retB _ _ _ m2 (by simpa using h5)⟩⟩
            rw [if_neg h5]
            have b5:ib2+1 < Bs.length:=by simp at h5; omega
            refine wpS_bind (welemL (by omega) (wpS_bind (wgal hc hB (gA _ (by omega)) hκ3 (by omega) (by omega) sB fun k2 q1 q2 q3=>?_)))
            dsimp only
            generalize o3++[Bs.getD ib2 0]=o4 at m2 ⊢
            by_cases hk2:k2 > 0
            · rw [if_pos hk2]
              have ex2:=arr_part (it:=it) Bs (ib2+1) k2 (by omega)
              rw [ex2,arr_app]
              have m3:=m2.takeBs (drop_split Bs (ib2+1) k2) (fun x hx y hy=>by
                obtain ⟨j,hj,hjl,rfl⟩:=mem_part hx
                exact KeyOrd.kle_trans (KeyOrd.kle_of_klt (show O.klt _ _ from q2 j hj)) (up_drop sA (by omega) y hy))
              by_cases h6:(ib2+1+k2 == Bs.length)=true
              · rw [if_pos h6]
                exact wpS_pure ⟨hS,.inl ⟨_,rfl,retB _ _ _ m3 (by simpa using h6)⟩⟩
              rw [if_neg h6]
              have b6:ib2+1+k2 < Bs.length:=by simp at h6; omega
              have hl2:∀ y∈Bs.drop (ib2+1+k2),O.kle (key (As.getD ia3 0)) (key y):=fun y hy=>by
                have:=q3 k2 (Nat.le_refl _) (by omega)
                exact KeyOrd.kle_trans (show O.kle _ _ from this) (up_drop sB b6 y hy)
              have hp3:ia' + ib'≤ia3+(ib2+1+k2):=by omega
              generalize o4++(Bs.drop (ib2+1)).take k2=o5 at m3 ⊢
              generalize ib2+1+k2=ib3 at m3 b6 hl2 hp3 ⊢
              refine wpS_bind (welemL (by omega) ?_)
              rw [arr_push]
              have m4:=lo_stepA m3 (by omega) hl2
              by_cases h7:(ia3+1+1 == As.length)=true
              · rw [if_pos h7]
                exact wpS_pure ⟨hS,.inl ⟨_,rfl,retL _ _ _ m4 (by simpa using h7)⟩⟩
              rw [if_neg h7]
              have b7:ia3+1+1 < As.length:=by simp at h7; omega
              by_cases h8:(decide (k < 7) && decide (k2 < 7))=true
              · rw [if_pos h8]
                exact wpS_pure ⟨hS,.inr ⟨rfl,⟨_,rfl,m4,b7,b6⟩,by dsimp only; omega⟩⟩
              · rw [if_neg h8]
                exact wpS_pure ⟨hS,rfl,⟨_,rfl,m4,b7,b6⟩,by dsimp only; omega⟩
            · rw [if_neg hk2]
              have ek2:k2=0:=by omega
              have m3:=m2
              have b6:=b5
              have hl2:∀ y∈Bs.drop (ib2+1),O.kle (key (As.getD ia3 0)) (key y):=fun y hy=>by
                have:=q3 0 (by omega) (by omega)
                exact KeyOrd.kle_trans (show O.kle _ _ from this) (up_drop sB b5 y hy)
              have hp3:ia' + ib'≤ia3+(ib2+1):=by omega
              generalize o4=o5 at m3 ⊢
              generalize ib2+1=ib3 at m3 b6 hl2 hp3 ⊢
              refine wpS_bind (welemL (by omega) ?_)
              rw [arr_push]
              have m4:=lo_stepA m3 (by omega) hl2
              by_cases h7:(ia3+1+1 == As.length)=true
              · rw [if_pos h7]
                exact wpS_pure ⟨hS,.inl ⟨_,rfl,retL _ _ _ m4 (by simpa using h7)⟩⟩
              rw [if_neg h7]
              have b7:ia3+1+1 < As.length:=by simp at h7; omega
              by_cases h8:(decide (k < 7) && decide (k2 < 7))=true
              · rw [if_pos h8]
                exact wpS_pure ⟨hS,.inr ⟨rfl,⟨_,rfl,m4,b7,b6⟩,by dsimp only; omega⟩⟩
              · rw [if_neg h8]
                exact wpS_pure ⟨hS,rfl,⟨_,rfl,m4,b7,b6⟩,by dsimp only; omega⟩
          · rw [if_neg hk0]
            have ek:k=0:=by omega
            have m1:=m
            have b3:=b1
            have hle:∀ x∈As.drop ia2,O.kle (key (Bs.getD ib2 0)) (key x):=fun x hx=>by
              have:=p3 0 (by omega) (by omega)
              exact KeyOrd.kle_trans (KeyOrd.kle_of_klt (show O.klt _ _ from this)) (up_drop sA (by omega) x hx)
            have hpk:=hp2
            generalize o=o3 at m1 ⊢
            generalize ia2=ia3 at m1 b3 hle hpk ⊢
            refine wpS_bind (welemL b2 ?_)
            rw [arr_push]
            have m2:=lo_stepB m1 b2 sA hle
            by_cases h5:(ib2+1 == Bs.length)=true
            · rw [if_pos h5]
              exact wpS_pure ⟨hS,.inl ⟨_,rfl,retB _ _ _ m2 (by simpa using h5)⟩⟩
            rw [if_neg h5]
            have b5:ib2+1 < Bs.length:=by simp at h5; omega
            refine wpS_bind (welemL (by omega) (wpS_bind (wgal hc hB (gA _ (by omega)) hκ3 (by omega) (by omega) sB fun k2 q1 q2 q3=>?_)))
            dsimp only
            generalize o3++[Bs.getD ib2 0]=o4 at m2 ⊢
            by_cases hk2:k2 > 0
            · rw [if_pos hk2]
              have ex2:=arr_part (it:=it) Bs (ib2+1) k2 (by omega)
              rw [ex2,arr_app]
              have m3:=m2.takeBs (drop_split Bs (ib2+1) k2) (fun x hx y hy=>by
                obtain ⟨j,hj,hjl,rfl⟩:=mem_part hx
                exact KeyOrd.kle_trans (KeyOrd.kle_of_klt (show O.klt _ _ from q2 j hj)) (up_drop sA (by omega) y hy))
              by_cases h6:(ib2+1+k2 == Bs.length)=true
              · rw [if_pos h6]
                exact wpS_pure ⟨hS,.inl ⟨_,rfl,retB _ _ _ m3 (by simpa using h6)⟩⟩
              rw [if_neg h6]
              have b6:ib2+1+k2 < Bs.length:=by simp at h6; omega
              have hl2:∀ y∈Bs.drop (ib2+1+k2),O.kle (key (As.getD ia3 0)) (key y):=fun y hy=>by
                have:=q3 k2 (Nat.le_refl _) (by omega)
                exact KeyOrd.kle_trans (show O.kle _ _ from this) (up_drop sB b6 y hy)
              have hp3:ia' + ib'≤ia3+(ib2+1+k2):=by omega
              generalize o4++(Bs.drop (ib2+1)).take k2=o5 at m3 ⊢
              generalize ib2+1+k2=ib3 at m3 b6 hl2 hp3 ⊢
              refine wpS_bind (welemL (by omega) ?_)
              rw [arr_push]
              have m4:=lo_stepA m3 (by omega) hl2
              by_cases h7:(ia3+1+1 == As.length)=true
              · rw [if_pos h7]
                exact wpS_pure ⟨hS,.inl ⟨_,rfl,retL _ _ _ m4 (by simpa using h7)⟩⟩
              rw [if_neg h7]
              have b7:ia3+1+1 < As.length:=by simp at h7; omega
              by_cases h8:(decide (k < 7) && decide (k2 < 7))=true
              · rw [if_pos h8]
                exact wpS_pure ⟨hS,.inr ⟨rfl,⟨_,rfl,m4,b7,b6⟩,by dsimp only; omega⟩⟩
              · rw [if_neg h8]
                exact wpS_pure ⟨hS,rfl,⟨_,rfl,m4,b7,b6⟩,by dsimp only; omega⟩
            · rw [if_neg hk2]
              have ek2:k2=0:=by omega
              have m3:=m2
              have b6:=b5
              have hl2:∀ y∈Bs.drop (ib2+1),O.kle (key (As.getD ia3 0)) (key y):=fun y hy=>by
                have:=q3 0 (by omega) (by omega)
                exact KeyOrd.kle_trans (show O.kle _ _ from this) (up_drop sB b5 y hy)
              have hp3:ia' + ib'≤ia3+(ib2+1):=by omega
              generalize o4=o5 at m3 ⊢
              generalize ib2+1=ib3 at m3 b6 hl2 hp3 ⊢
              refine wpS_bind (welemL (by omega) ?_)
              rw [arr_push]
              have m4:=lo_stepA m3 (by omega) hl2
              by_cases h7:(ia3+1+1 == As.length)=true
              · rw [if_pos h7]
                exact wpS_pure ⟨hS,.inl ⟨_,rfl,retL _ _ _ m4 (by simpa using h7)⟩⟩
              rw [if_neg h7]
              have b7:ia3+1+1 < As.length:=by simp at h7; omega
              by_cases h8:(decide (k < 7) && decide (k2 < 7))=true
              · rw [if_pos h8]
                exact wpS_pure ⟨hS,.inr ⟨rfl,⟨_,rfl,m4,b7,b6⟩,by dsimp only; omega⟩⟩
              · rw [if_neg h8]
                exact wpS_pure ⟨hS,rfl,⟨_,rfl,m4,b7,b6⟩,by dsimp only; omega⟩
end
end SO
set_option Elab.async false
set_option linter.all false
set_option maxRecDepth 100000
set_option maxHeartbeats 2000000
namespace SO
open PySem PySem.W PyProof.Rows
def mergeHi':Array Keyed→Array Keyed→StateT SortSt Sem (Array Keyed):=sortPriv% PySem.Builtin.mergeHi
theorem mergeHi'_eq (a b:Array Keyed):mergeHi' a b=(do
  rule "list.sort.merge-hi"
  let total:=a.size+b.size
  let done (out:Array Keyed) (na nb:Nat):=a.extract 0 na++b.extract 0 nb++out.reverse
  let firstOfB (out:Array Keyed) (na nb:Nat):=b.extract 0 nb++a.extract 0 na++out.reverse
  let mut na:=a.size - 1
  let mut nb:=b.size
  let mut out:Array Keyed:=#[← elem' a na]
  if na == 0 then return done out na nb
  if nb == 1 then return firstOfB out na nb
  let mut minGallop:=gallopOf (← get)
  for _ in [0:total] do
    let mut acount:=0
    let mut bcount:=0
    for _ in [0:total] do
      let some aWins ← lt' (← elem' b (nb - 1)) (← elem' a (na - 1)) | return done out na nb
      if aWins then
        na:=na - 1; out:=out.push (← elem' a na); acount:=acount+1; bcount:=0
        if na == 0 then return done out na nb
        if acount ≥ minGallop then break
      else
        nb:=nb - 1; out:=out.push (← elem' b nb); bcount:=bcount+1; acount:=0
        if nb == 1 then return firstOfB out na nb
        if bcount ≥ minGallop then break
    rule "list.sort.gallop"
    minGallop:=minGallop+1
    for _ in [0:total] do
      if minGallop > 1 then minGallop:=minGallop - 1
      setMinGallop' minGallop
      let some at_ ← gallop' false (← elem' b (nb - 1)) a 0 na (na - 1) | return done out na nb
      let k:=na - at_
      acount:=k
      if k > 0 then
        out:=out++(a.extract at_ na).reverse; na:=at_
        if na == 0 then return done out na nb
      nb:=nb - 1; out:=out.push (← elem' b nb)
      if nb == 1 then return firstOfB out na nb
      let some at_ ← gallop' true (← elem' a (na - 1)) b 0 nb (nb - 1) | return done out na nb
      let k:=nb - at_
      bcount:=k
      if k > 0 then
        out:=out++(b.extract at_ nb).reverse; nb:=at_
        if nb == 1 then return firstOfB out na nb
        if nb == 0 then return done out na nb
      na:=na - 1; out:=out.push (← elem' a na)
      if na == 0 then return done out na nb
      if acount < 7 && bcount < 7 then break
    minGallop:=minGallop+1
    setMinGallop' minGallop
  unsupported "internal:list.sort.merge-bound"):=rfl
section
variable {O:KeyOrd} {key:Nat→O.α} {N:Nat} {prog:Program} {w:World} {A:Around} {E:Value→Shared→Prop} {s:Shared} {κ:SortKind} {it:Array Keyed} {st:SortSt} {As Bs o ra rb xs ra' rb':List Nat} {na nb:Nat}
structure Mh (key:Nat→O.α) (As Bs o ra rb:List Nat):Prop where
  perm:(ra++rb++o).Perm (As++Bs)
  so:Up key o
  le:∀ x∈ra++rb,∀ y∈o,O.kle (key x) (key y)
  sa:Up key ra
  sb:Up key rb
theorem Mh.takeBs (m:Mh key As Bs o ra rb) (e:rb=rb'++xs) (h:∀ x∈ra,∀ y∈xs,O.kle (key x) (key y)):Mh key As Bs (xs++o) ra rb':=by
  subst e
  have sb:=List.pairwise_append.mp m.sb
  refine ⟨(by rw [← List.append_assoc,List.append_assoc ra]; exact m.perm),List.pairwise_append.mpr ⟨sb.2.1,m.so,fun x hx y hy=>m.le x (by simp [hx]) y hy⟩,fun x hx y hy=>?_,m.sa,sb.1⟩
  rcases List.mem_append.mp hy with hy | hy
  · rcases List.mem_append.mp hx with z | z
    · exact h x z y hy
    · exact sb.2.2 x z y hy
  · exact m.le x (by rcases List.mem_append.mp hx with z | z <;> simp [z]) y hy
theorem Mh.takeAs (m:Mh key As Bs o ra rb) (e:ra=ra'++xs) (h:∀ x∈rb,∀ y∈xs,O.kle (key x) (key y)):Mh key As Bs (xs++o) ra' rb:=by
  subst e
  have sa:=List.pairwise_append.mp m.sa
  refine ⟨List.Perm.trans ?_ m.perm,List.pairwise_append.mpr ⟨sa.2.1,m.so,fun x hx y hy=>m.le x (by simp [hx]) y hy⟩,fun x hx y hy=>?_,sa.1,m.sb⟩
  · rw [← List.append_assoc]
    refine List.Perm.append_right o ?_
    rw [List.append_assoc,List.append_assoc]
    exact List.perm_append_comm.append_left ra'
  · rcases List.mem_append.mp hy with hy | hy
    · rcases List.mem_append.mp hx with z | z
      · exact sa.2.2 x z y hy
      · exact h x z y hy
    · exact m.le x (by rcases List.mem_append.mp hx with z | z <;> simp [z]) y hy
theorem Mh.doneB (m:Mh key As Bs o [] rb):Merged key it As Bs (arr it []++arr it rb++arr it o) :=
  ⟨rb++o,by rw [arr_app,arr_app,List.nil_append],by simpa using m.perm,List.pairwise_append.mpr ⟨m.sb,m.so,fun x hx y hy=>m.le x (by simp [hx]) y hy⟩⟩
theorem Mh.doneA (m:Mh key As Bs o ra []):Merged key it As Bs (arr it ra++arr it []++arr it o) :=
  ⟨ra++o,by rw [arr_app,arr_app,List.append_nil],by simpa using m.perm,List.pairwise_append.mpr ⟨m.sa,m.so,fun x hx y hy=>m.le x (by simp [hx]) y hy⟩⟩
theorem Mh.firstB (m:Mh key As Bs o ra rb) (h:∀ x∈ra,∀ y∈rb,O.kle (key y) (key x)):Merged key it As Bs (arr it rb++arr it ra++arr it o):=by
  refine ⟨rb++ra++o,by rw [arr_app,arr_app],List.Perm.trans (List.perm_append_comm.append_right o) m.perm,List.pairwise_append.mpr ⟨List.pairwise_append.mpr ⟨m.sb,m.sa,fun x hx y hy=>h y hy x hx⟩,m.so,fun x hx y hy=>m.le x (by rcases List.mem_append.mp hx with z | z <;> simp [z]) y hy⟩⟩
theorem take_snoc {l:List Nat} {i:Nat} (h:i < l.length):l.take (i+1)=l.take i++[l.getD i 0]:=by
  rw [getD_of h,List.take_add_one,List.getElem?_eq_getElem h]; rfl
theorem take_pred {l:List Nat} {i:Nat} (h0:0 < i) (h:i≤l.length):l.take i=l.take (i - 1)++[l.getD (i - 1) 0]:=by
  have:=take_snoc (l:=l) (i:=i - 1) (by omega)
  rwa [show i - 1+1=i by omega] at this
theorem take_split (l:List Nat) {i k:Nat} (h:k≤i):l.take i=l.take k++(l.drop k).take (i - k):=by
  have:=List.take_append_drop k (l.take i)
  rw [List.take_take,Nat.min_eq_left h,List.drop_take] at this
  exact this.symm
theorem up_take {l:List Nat} (h:Up key l) {i:Nat} (h0:0 < i) (hi:i≤l.length):∀ x∈l.take i,O.kle (key x) (key (l.getD (i - 1) 0)):=fun x hx=>by
  obtain ⟨j,hj,e⟩:=List.getElem_of_mem hx
  simp at hj
  have:=up_le h (i:=j) (j:=i - 1) (by omega) (by omega)
  rw [getD_of (by omega)] at this
  have e':l[j]=x:=by simpa using e
  rwa [e'] at this
theorem hi_stepB (m:Mh key As Bs o (As.take na) (Bs.take nb)) (h0:0 < nb) (hb:nb≤Bs.length) (hle:∀ x∈As.take na,O.kle (key x) (key (Bs.getD (nb - 1) 0))):Mh key As Bs ([Bs.getD (nb - 1) 0]++o) (As.take na) (Bs.take (nb - 1)) :=
  m.takeBs (take_pred h0 hb) fun x hx y hy=>by rw [List.mem_singleton.mp hy]; exact hle x hx
theorem hi_stepA (m:Mh key As Bs o (As.take na) (Bs.take nb)) (h0:0 < na) (ha:na≤As.length) (hle:∀ x∈Bs.take nb,O.kle (key x) (key (As.getD (na - 1) 0))):Mh key As Bs ([As.getD (na - 1) 0]++o) (As.take (na - 1)) (Bs.take nb) :=
  m.takeAs (take_pred h0 ha) fun x hx y hy=>by rw [List.mem_singleton.mp hy]; exact hle x hx
def JHi (key:Nat→O.α) (it:Array Keyed) (As Bs:List Nat) (out:Array Keyed) (na nb:Nat):Prop:=∃ o,out=arr it o.reverse∧Mh key As Bs o (As.take na) (Bs.take nb)∧0 < na∧na≤As.length∧1 < nb∧nb≤Bs.length
theorem rev_push (x:Nat) (o:List Nat):(arr it o.reverse).push (kas_item it x)=arr it ([x]++o).reverse:=by rw [arr_push]; simp
theorem rev_app (l:List Nat) (i k:Nat) (o:List Nat) (h:k≤i) (hi:i≤l.length):arr it o.reverse++((arr it l).extract k i).reverse=arr it ((l.drop k).take (i - k)++o).reverse:=by
  have e:=arr_part (it:=it) l k (i - k) (by omega)
  rw [show k+(i - k)=i by omega] at e
  rw [e,arr_rev,arr_app,List.reverse_append]
theorem wmergeHi {Q:Array Keyed→SortSt→Prop} (hc:Cmp key N (kas_cmp prog w A κ it) s) (hA:∀ x∈As,x < N) (hB:∀ x∈Bs,x < N) (hκ:kindOf st=κ) (sA:Up key As) (sB:Up key Bs) (nA:0 < As.length) (nB:0 < Bs.length)
    (first:∀ x∈As,O.klt (key (Bs.getD 0 0)) (key x)) (last:∀ y∈Bs,O.klt (key y) (key (As.getD (As.length - 1) 0))) (h:∀ r st',Stay st st'→Merged key it As Bs r→Q r st') :
    wpS (model prog w) A E s (mergeHi' (arr it As) (arr it Bs)) Q st:=by
  have gA:∀ i,i < As.length→As.getD i 0 < N:=fun i hi=>by rw [getD_of hi]; exact hA _ (List.getElem_mem _)
  have gB:∀ i,i < Bs.length→Bs.getD i 0 < N:=fun i hi=>by rw [getD_of hi]; exact hB _ (List.getElem_mem _)
  have retA:∀ o na nb,Mh key As Bs o (As.take na) (Bs.take nb)→na=0→Merged key it As Bs ((arr it As).extract 0 na++(arr it Bs).extract 0 nb++(arr it o.reverse).reverse):=fun o na nb m e=>by
    rw [arr_take,arr_take,arr_rev,List.reverse_reverse]
    rw [e,List.take_zero] at m ⊢
    exact m.doneB
  have retB:∀ o na nb,Mh key As Bs o (As.take na) (Bs.take nb)→nb=0→Merged key it As Bs ((arr it As).extract 0 na++(arr it Bs).extract 0 nb++(arr it o.reverse).reverse):=fun o na nb m e=>by
    rw [arr_take,arr_take,arr_rev,List.reverse_reverse]
    rw [e,List.take_zero] at m ⊢
    exact m.doneA
  have retF:∀ o na nb,Mh key As Bs o (As.take na) (Bs.take nb)→nb=1→Merged key it As Bs ((arr it Bs).extract 0 nb++(arr it As).extract 0 na++(arr it o.reverse).reverse):=fun o na nb m e=>by
    rw [arr_take,arr_take,arr_rev,List.reverse_reverse]
    refine m.firstB fun x hx y hy=>?_
    rw [e,take_pred (by omega) (by omega)] at hy
    have hy':y=Bs.getD 0 0:=by simpa using hy
    rw [hy']
    exact KeyOrd.kle_of_klt (first x (List.mem_of_mem_take hx))
  rw [mergeHi'_eq]
  refine wpS_bind (wpS_lift (wpAny_rule ⟨rfl,?_⟩))
  dsimp only
  simp only [arr_size]
  refine wpS_bind (welemL (by omega) ?_)
  have m0:Mh key As Bs ([As.getD (As.length - 1) 0]++[]) (As.take (As.length - 1)) (Bs.take Bs.length):=by
    refine hi_stepA (o:=[]) (na:=As.length) (nb:=Bs.length) ⟨by simp,List.Pairwise.nil,(fun x _ y hy=>by cases hy),by rw [List.take_length]; exact sA,by rw [List.take_length]; exact sB⟩ nA (Nat.le_refl _) fun x hx=>?_
    rw [List.take_length] at hx
    exact KeyOrd.kle_of_klt (last x hx)
  have e0:(#[kas_item it (As.getD (As.length - 1) 0)]:Array Keyed)=arr it ([As.getD (As.length - 1) 0]++[]).reverse:=by simp [arr]
  rw [e0]
  by_cases h1:(As.length - 1 == 0)=true
  · rw [if_pos h1]
    exact wpS_pure (h _ _ (Stay.refl _) (retA _ _ _ m0 (by simpa using h1)))
  rw [if_neg h1]
  by_cases h2:(Bs.length == 1)=true
  · rw [if_pos h2]
    exact wpS_pure (h _ _ (Stay.refl _) (retF _ _ _ m0 (by simpa using h2)))
  rw [if_neg h2]
  have h1':0 < As.length - 1:=by simp at h1; omega
  have h2':1 < Bs.length:=by simp at h2; omega
  refine wpS_bind (wpS_get ?_)
  refine wpS_bind (wpS_mono (wpS_forRange
    (I:=fun (x:Nat) (c:Option (Array Keyed) × Nat × Nat × Array Keyed × Nat) (st':SortSt)=>Stay st st'∧c.1=none∧JHi key it As Bs c.2.2.2.1 c.2.1 c.2.2.1∧c.2.1+c.2.2.1+x+1≤As.length+Bs.length)
    (Q:=fun (c:Option (Array Keyed) × Nat × Nat × Array Keyed × Nat) (st':SortSt)=>Stay st st'∧∃ r,c.1=some r∧Merged key it As Bs r) ?step ?fin ⟨Stay.refl _,rfl,⟨_,rfl,m0,h1',by dsimp only; omega,h2',Nat.le_refl _⟩,by dsimp only; omega⟩) ?post)
  case fin =>
    rintro ⟨c0,na,nb,out,mg⟩ st' ⟨hs,e0,⟨o,_,_,b1,b2,b3,b4⟩,hp⟩
    dsimp only at *
    omega
  case post =>
    rintro ⟨c0,na,nb,out,mg⟩ st' ⟨hs,r,e0,hm⟩
    dsimp only at *
    subst e0
    exact wpS_pure (h _ _ hs hm)
  case step =>
    rintro x ⟨c0,na,nb,out,mg⟩ st1 _ hx ⟨hs1,e0,j0,hp⟩
    dsimp only at *
    subst e0
    refine wpS_bind (wpS_mono (wpS_forRange
      (I:=fun (y:Nat) (c:Option (Array Keyed) × Nat × Nat × Array Keyed × Nat × Nat) (st':SortSt)=>st'=st1∧c.1=none∧JHi key it As Bs c.2.2.2.1 c.2.1 c.2.2.1∧c.2.1+c.2.2.1+y≤na+nb)
      (Q:=fun (c:Option (Array Keyed) × Nat × Nat × Array Keyed × Nat × Nat) (st':SortSt)=>st'=st1∧((∃ r,c.1=some r∧Merged key it As Bs r)∨(c.1=none∧JHi key it As Bs c.2.2.2.1 c.2.1 c.2.2.1∧c.2.1+c.2.2.1+1≤na+nb))) ?step1 ?fin1 ⟨rfl,rfl,j0,by dsimp only; omega⟩) ?post1)
    case fin1 =>
      rintro ⟨c0,na',nb',out',ac,bc⟩ st' ⟨hs,e0,j,hp'⟩
      dsimp only at *
      exact ⟨hs,.inr ⟨e0,j,by omega⟩⟩
    case step1 =>
      rintro y ⟨c0,na',nb',out',ac,bc⟩ st' _ hy ⟨rfl,e0,⟨o,rfl,m,b1,b2,b3,b4⟩,hp'⟩
      dsimp only at *
      subst e0
      refine wpS_bind (welemL (by omega) (wpS_bind (welemL (by omega) ?_)))
      refine wpS_bind (wlt hc (gB _ (by omega)) (gA _ (by omega)) (hs1.1.trans hκ) ?_)
      dsimp only
      cases hb:O.blt (key (Bs.getD (nb' - 1) 0)) (key (As.getD (na' - 1) 0)) with
      | true =>
        rw [if_pos rfl]
        refine wpS_bind (welemL (by omega) ?_)
        rw [rev_push]
        have m1:=hi_stepA m b1 b2 fun x hx=>KeyOrd.kle_trans (up_take sB (by omega) b4 x hx) (KeyOrd.kle_of_klt hb)
        by_cases h3:(na' - 1 == 0)=true
        · rw [if_pos h3]
          exact wpS_pure ⟨rfl,.inl ⟨_,rfl,retA _ _ _ m1 (by simpa using h3)⟩⟩
        rw [if_neg h3]
        have h3':0 < na' - 1:=by simp at h3; omega
        by_cases h4:ac+1 ≥ mg
        · rw [if_pos h4]
          exact wpS_pure ⟨rfl,.inr ⟨rfl,⟨_,rfl,m1,h3',by dsimp only; omega,b3,b4⟩,by dsimp only; omega⟩⟩
        · rw [if_neg h4]
          exact wpS_pure ⟨rfl,rfl,⟨_,rfl,m1,h3',by dsimp only; omega,b3,b4⟩,by dsimp only; omega⟩
      | false =>
        rw [if_neg (by simp)]
        refine wpS_bind (welemL (by omega) ?_)
        rw [rev_push]
        have m1:=hi_stepB m (by omega) b4 fun x hx=>KeyOrd.kle_trans (up_take sA b1 b2 x hx) (show O.kle _ _ from hb)
        by_cases h3:(nb' - 1 == 1)=true
        · rw [if_pos h3]
          exact wpS_pure ⟨rfl,.inl ⟨_,rfl,retF _ _ _ m1 (by simpa using h3)⟩⟩
        rw [if_neg h3]
        have h3':1 < nb' - 1:=by simp at h3; omega
        by_cases h4:bc+1 ≥ mg
        · rw [if_pos h4]
          exact wpS_pure ⟨rfl,.inr ⟨rfl,⟨_,rfl,m1,b1,b2,h3',by dsimp only; omega⟩,by dsimp only; omega⟩⟩
        · rw [if_neg h4]
          exact wpS_pure ⟨rfl,rfl,⟨_,rfl,m1,b1,b2,h3',by dsimp only; omega⟩,by dsimp only; omega⟩
    case post1 =>
      rintro ⟨c0,na',nb',out',ac,bc⟩ st' ⟨rfl,⟨r,e0,hm⟩ | ⟨e0,j,hp1⟩⟩
      · dsimp only at *
        subst e0
        exact wpS_pure ⟨hs1,r,rfl,hm⟩
      dsimp only at *
      subst e0
      dsimp only
      refine wpS_bind (wpS_lift (wpAny_rule ⟨rfl,?_⟩))
      refine wpS_bind (wpS_mono (wpS_forRange
        (I:=fun (y:Nat) (c:Option (Array Keyed) × Nat × Nat × Array Keyed × Nat × Nat × Nat) (st2:SortSt)=>Stay st' st2∧c.1=none∧JHi key it As Bs c.2.2.2.1 c.2.1 c.2.2.1∧c.2.1+c.2.2.1≤na' + nb')
        (Q:=fun (c:Option (Array Keyed) × Nat × Nat × Array Keyed × Nat × Nat × Nat) (st2:SortSt)=>Stay st' st2∧((∃ r,c.1=some r∧Merged key it As Bs r)∨(c.1=none∧JHi key it As Bs c.2.2.2.1 c.2.1 c.2.2.1∧c.2.1+c.2.2.1≤na' + nb'))) ?step2 ?fin2 ⟨Stay.refl _,rfl,j,Nat.le_refl _⟩) ?post2)
      case fin2 =>
        rintro ⟨c0,na2,nb2,out2,mg2,ac2,bc2⟩ st2 ⟨hs,e0,j,hp'⟩
        dsimp only at *
        exact ⟨hs,.inr ⟨e0,j,hp'⟩⟩
      case post2 =>
        rintro ⟨c0,na2,nb2,out2,mg2,ac2,bc2⟩ st2 ⟨hs,⟨r,e0,hm⟩ | ⟨e0,j,hp2⟩⟩
        · dsimp only at *
          subst e0
          exact wpS_pure ⟨hs1.trans hs,r,rfl,hm⟩
        · dsimp only at *
          subst e0
          dsimp only
          refine wpS_bind (wsetMin fun st3 hs3=>wpS_pure ⟨(hs1.trans hs).trans hs3,rfl,j,by dsimp only; omega⟩)
      case step2 =>
        rintro y ⟨c0,na2,nb2,out2,mg2,ac2,bc2⟩ st2 _ hy ⟨hs2,e0,⟨o,rfl,m,b1,b2,b3,b4⟩,hp2⟩
        dsimp only at *
        subst e0
        by_cases hmg:mg2 > 1
        all_goals first | rw [if_pos hmg] | rw [if_neg hmg]
        all_goals
          refine wpS_bind (wsetMin fun st3 hs3=>?_)
          have hS:=hs2.trans hs3
          have hκ3:kindOf st3=κ:=(hs1.trans hS).1.trans hκ
          refine wpS_bind (welemL (by omega) (wpS_bind (wgal hc hA (gB _ (by omega)) hκ3 (by omega) (by omega) sA fun at1 p1 p2 p3=>?_)))
          dsimp only
          by_cases hk0:na2 - at1 > 0
          · rw [if_pos hk0]
            rw [rev_app As na2 at1 o (by omega) b2]
            have m1:=m.takeAs (take_split As (i:=na2) (k:=at1) (by omega)) (fun x hx y hy=>by
              obtain ⟨j,hj,hjl,rfl⟩:=mem_part hy
              have:=p3 (at1+j) (by omega) (by omega)
              rw [Nat.zero_add] at this
              exact KeyOrd.kle_trans (up_take sB (by omega) b4 x hx) (KeyOrd.kle_of_klt (show O.klt _ _ from this)))
            by_cases h3:(at1 == 0)=true
            · rw [if_pos h3]
              exact wpS_pure ⟨hS,.inl ⟨_,rfl,retA _ _ _ m1 (by simpa using h3)⟩⟩
            rw [if_neg h3]
            have c1:0 < at1:=by simp at h3; omega
            have c2:at1≤As.length:=by omega
            have hle:∀ x∈As.take at1,O.kle (key x) (key (Bs.getD (nb2 - 1) 0)):=fun x hx=>by
              have:=p2 (at1 - 1) (by omega)
              rw [Nat.zero_add] at this
              exact KeyOrd.kle_trans (up_take sA c1 c2 x hx) (show O.kle _ _ from this)
            have hpk:at1≤na2:=by omega
            generalize (As.drop at1).take (na2 - at1)++o=o3 at m1 ⊢
            refine wpS_bind (welemL (by omega) ?_)
            rw [rev_push]
            have m2:=hi_stepB m1 (by omega) b4 hle
            by_cases h5:(nb2 - 1 == 1)=true
            · rw [if_pos h5]
              exact wpS_pure ⟨hS,.inl ⟨_,rfl,retF _ _ _ m2 (by simpa using h5)⟩⟩
            rw [if_neg h5]
            have b5:1 < nb2 - 1:=by simp at h5; omega
            refine wpS_bind (welemL (by omega) (wpS_bind (wgal hc hB (gA _ (by omega)) hκ3 (by omega) (by omega) sB fun at2 q1 q2 q3=>?_)))
            dsimp only
            generalize [Bs.getD (nb2 - 1) 0]++o3=o4 at m2 ⊢
            by_cases hk2:nb2 - 1 - at2 > 0
            · rw [if_pos hk2]
              rw [rev_app Bs (nb2 - 1) at2 o4 (by omega) (by omega)]
              have m3:=m2.takeBs (take_split Bs (i:=nb2 - 1) (k:=at2) (by omega)) (fun x hx y hy=>by
                obtain ⟨j,hj,hjl,rfl⟩:=mem_part hy
                have:=q3 (at2+j) (by omega) (by omega)
                rw [Nat.zero_add] at this
                exact KeyOrd.kle_trans (up_take sA c1 c2 x hx) (show O.kle _ _ from this))
              by_cases h6:(at2 == 1)=true
              · rw [if_pos h6]
                exact wpS_pure ⟨hS,.inl ⟨_,rfl,retF _ _ _ m3 (by simpa using h6)⟩⟩
              rw [if_neg h6]
              by_cases h6b:(at2 == 0)=true
              · rw [if_pos h6b]
                exact wpS_pure ⟨hS,.inl ⟨_,rfl,retB _ _ _ m3 (by simpa using h6b)⟩⟩
              rw [if_neg h6b]
              have d1:1 < at2:=by simp at h6 h6b; omega
              have d2:at2≤Bs.length:=by omega
              have hl2:∀ x∈Bs.take at2,O.kle (key x) (key (As.getD (at1 - 1) 0)):=fun x hx=>by
                have:=q2 (at2 - 1) (by omega)
                rw [Nat.zero_add] at this
                exact KeyOrd.kle_trans (up_take sB (by omega) d2 x hx) (KeyOrd.kle_of_klt (show O.klt _ _ from this))
              generalize (Bs.drop at2).take (nb2 - 1 - at2)++o4=o5 at m3 ⊢
              refine wpS_bind (welemL (by omega) ?_)
              rw [rev_push]
              have m4:=hi_stepA m3 c1 c2 hl2
              by_cases h7:(at1 - 1 == 0)=true
              · rw [if_pos h7]
                exact wpS_pure ⟨hS,.inl ⟨_,rfl,retA _ _ _ m4 (by simpa using h7)⟩⟩
              rw [if_neg h7]
              have b7:0 < at1 - 1:=by simp at h7; omega
              by_cases h8:(decide (na2 - at1 < 7) && decide (nb2 - 1 - at2 < 7))=true
              · rw [if_pos h8]
                exact wpS_pure ⟨hS,.inr ⟨rfl,⟨_,rfl,m4,b7,by dsimp only; omega,d1,d2⟩,by dsimp only; omega⟩⟩
              · rw [if_neg h8]
                exact wpS_pure ⟨hS,rfl,⟨_,rfl,m4,b7,by dsimp only; omega,d1,d2⟩,by dsimp only; omega⟩
            · rw [if_neg hk2]
              have m3:=m2
              have d1:=b5
              have d2:nb2 - 1≤Bs.length:=by omega
              have hl2:∀ x∈Bs.take (nb2 - 1),O.kle (key x) (key (As.getD (at1 - 1) 0)):=fun x hx=>by
                have:=q2 (nb2 - 1 - 1) (by omega)
                rw [Nat.zero_add] at this
                exact KeyOrd.kle_trans (up_take sB (by omega) d2 x hx) (KeyOrd.kle_of_klt (show O.klt _ _ from this))
              generalize o4=o5 at m3 ⊢
              refine wpS_bind (welemL (by omega) ?_)
              rw [rev_push]
              have m4:=hi_stepA m3 c1 c2 hl2
              by_cases h7:(at1 - 1 == 0)=true
              · rw [if_pos h7]
                exact wpS_pure ⟨hS,.inl ⟨_,rfl,retA _ _ _ m4 (by simpa using h7)⟩⟩
              rw [if_neg h7]
              have b7:0 < at1 - 1:=by simp at h7; omega
              by_cases h8:(decide (na2 - at1 < 7) && decide (nb2 - 1 - at2 < 7))=true
              · rw [if_pos h8]
                exact wpS_pure ⟨hS,.inr ⟨rfl,⟨_,rfl,m4,b7,by dsimp only; omega,d1,d2⟩,by dsimp only; omega⟩⟩
              · rw [if_neg h8]
                exact wpS_pure ⟨hS,rfl,⟨_,rfl,m4,b7,by dsimp only; omega,d1,d2⟩,by dsimp only; omega⟩
          · rw [if_neg hk0]
            have m1:=m
            have c1:=b1
            have c2:=b2
            have hle:∀ x∈As.take na2,O.kle (key x) (key (Bs.getD (nb2 - 1) 0)):=fun x hx=>by
              have:=p2 (na2 - 1) (by omega)
              rw [Nat.zero_add] at this
              exact KeyOrd.kle_trans (up_take sA c1 c2 x hx) (show O.kle _ _ from this)
            have hpk:=Nat.le_refl na2
            generalize o=o3 at m1 ⊢
            refine wpS_bind (welemL (by omega) ?_)
            rw [rev_push]
            have m2:=hi_stepB m1 (by omega) b4 hle
            by_cases h5:(nb2 - 1 == 1)=true
            · rw [if_pos h5]
              exact wpS_pure ⟨hS,.inl ⟨_,rfl,retF _ _ _ m2 (by simpa using h5)⟩⟩
            rw [if_neg h5]
            have b5:1 < nb2 - 1:=by simp at h5; omega
            refine wpS_bind (welemL (by omega) (wpS_bind (wgal hc hB (gA _ (by omega)) hκ3 (by omega) (by omega) sB fun at2 q1 q2 q3=>?_)))
            dsimp only
            generalize [Bs.getD (nb2 - 1) 0]++o3=o4 at m2 ⊢
            by_cases hk2:nb2 - 1 - at2 > 0
            · rw [if_pos hk2]
              rw [rev_app Bs (nb2 - 1) at2 o4 (by omega) (by omega)]
              have m3:=m2.takeBs (take_split Bs (i:=nb2 - 1) (k:=at2) (by omega)) (fun x hx y hy=>by
                obtain ⟨j,hj,hjl,rfl⟩:=mem_part hy
                have:=q3 (at2+j) (by omega) (by omega)
                rw [Nat.zero_add] at this
                exact KeyOrd.kle_trans (up_take sA c1 c2 x hx) (show O.kle _ _ from this))
              by_cases h6:(at2 == 1)=true
              · rw [if_pos h6]
                exact wpS_pure ⟨hS,.inl ⟨_,rfl,retF _ _ _ m3 (by simpa using h6)⟩⟩
              rw [if_neg h6]
              by_cases h6b:(at2 == 0)=true
              · rw [if_pos h6b]
                exact wpS_pure ⟨hS,.inl ⟨_,rfl,retB _ _ _ m3 (by simpa using h6b)⟩⟩
              rw [if_neg h6b]
              have d1:1 < at2:=by simp at h6 h6b; omega
              have d2:at2≤Bs.length:=by omega
              have hl2:∀ x∈Bs.take at2,O.kle (key x) (key (As.getD (na2 - 1) 0)):=fun x hx=>by
                have:=q2 (at2 - 1) (by omega)
                rw [Nat.zero_add] at this
                exact KeyOrd.kle_trans (up_take sB (by omega) d2 x hx) (KeyOrd.kle_of_klt (show O.klt _ _ from this))
              generalize (Bs.drop at2).take (nb2 - 1 - at2)++o4=o5 at m3 ⊢
              refine wpS_bind (welemL (by omega) ?_)
              rw [rev_push]
              have m4:=hi_stepA m3 c1 c2 hl2
              by_cases h7:(na2 - 1 == 0)=true
              · rw [if_pos h7]
                exact wpS_pure ⟨hS,.inl ⟨_,rfl,retA _ _ _ m4 (by simpa using h7)⟩⟩
              rw [if_neg h7]
              have b7:0 < na2 - 1:=by simp at h7; omega
              by_cases h8:(decide (na2 - at1 < 7) && decide (nb2 - 1 - at2 < 7))=true
              · rw [if_pos h8]
                exact wpS_pure ⟨hS,.inr ⟨rfl,⟨_,rfl,m4,b7,by dsimp only; omega,d1,d2⟩,by dsimp only; omega⟩⟩
              · rw [if_neg h8]
                exact wpS_pure ⟨hS,rfl,⟨_,rfl,m4,b7,by dsimp only; omega,d1,d2⟩,by dsimp only; omega⟩
            · rw [if_neg hk2]
              have m3:=m2
              have d1:=b5
              have d2:nb2 - 1≤Bs.length:=by omega
              have hl2:∀ x∈Bs.take (nb2 - 1),O.kle (key x) (key (As.getD (na2 - 1) 0)):=fun x hx=>by
                have:=q2 (nb2 - 1 - 1) (by omega)
                rw [Nat.zero_add] at this
                exact KeyOrd.kle_trans (up_take sB (by omega) d2 x hx) (KeyOrd.kle_of_klt (show O.klt _ _ from this))
              generalize o4=o5 at m3 ⊢
              refine wpS_bind (welemL (by omega) ?_)
              rw [rev_push]
              have m4:=hi_stepA m3 c1 c2 hl2
              by_cases h7:(na2 - 1 == 0)=true
              · rw [if_pos h7]
                exact wpS_pure ⟨hS,.inl ⟨_,rfl,retA _ _ _ m4 (by simpa using h7)⟩⟩
              rw [if_neg h7]
              have b7:0 < na2 - 1:=by simp at h7; omega
              by_cases h8:(decide (na2 - at1 < 7) && decide (nb2 - 1 - at2 < 7))=true
              · rw [if_pos h8]
                exact wpS_pure ⟨hS,.inr ⟨rfl,⟨_,rfl,m4,b7,by dsimp only; omega,d1,d2⟩,by dsimp only; omega⟩⟩
              · rw [if_neg h8]
                exact wpS_pure ⟨hS,rfl,⟨_,rfl,m4,b7,by dsimp only; omega,d1,d2⟩,by dsimp only; omega⟩
end
end SO
set_option Elab.async false
set_option linter.all false
set_option maxRecDepth 100000
set_option maxHeartbeats 2000000
namespace SO
open PySem PySem.W PyProof.Rows
def tail3L (lo n nrem:Nat):StateT SortSt Sem (Option Nat):=do
  reverseSlice' lo (lo+n)
  let mut m:=n
  for _ in [n:nrem] do
    let some smaller ← ltAt' (lo+m) (lo+m - 1) | return none
    if smaller then break
    m:=m+1
  return some m
def descL (lo n nrem:Nat):StateT SortSt Sem (Option Nat):=do
  rule "list.sort.descending-run"
  let mut m:=n
  let mut neq:=0
  for _ in [n:nrem] do
    let some smaller ← ltAt' (lo+m) (lo+m - 1) | return none
    if smaller then
      if neq > 0 then reverseSlice' (lo+m - (neq+1)) (lo+m)
      neq:=0
    else
      let some larger ← ltAt' (lo+m - 1) (lo+m) | return none
      if larger then break
      neq:=neq+1
    m:=m+1
  if neq > 0 then reverseSlice' (lo+m - (neq+1)) (lo+m)
  tail3L lo m nrem
theorem countRunL_eq (lo nrem:Nat):countRun' lo nrem=(do
  let mut n:=1
  for _ in [1:nrem] do
    let some smaller ← ltAt' (lo+n) (lo+n - 1) | return none
    if smaller then break
    n:=n+1
  if n == nrem then return some n
  if n > 1 then
    let some rose ← ltAt' lo (lo+n - 1) | return none
    if rose then return some n
    reverseSlice' lo (lo+n)
    descL lo (n+1) nrem
  else descL lo (n+1) nrem):=rfl
section
variable {O:KeyOrd} {key:Nat→O.α} {N:Nat} {prog:Program} {w:World} {A:Around} {E:Value→Shared→Prop} {s:Shared} {κ:SortKind} {it:Array Keyed} {pend:Array (Nat × Nat × Nat)} {st:SortSt} {q:Array Nat}
structure Ss (κ:SortKind) (it:Array Keyed) (pend:Array (Nat × Nat × Nat)) (q:Array Nat) (st:SortSt):Prop where
  kind:kindOf st=κ
  arr:arrOf st=q.map (kas_item it)
  pend:pendingOf st=pend
  failed:failedOf st=none
theorem wltAt {i j:Nat} {Q:Option Bool→SortSt→Prop} (hc:Cmp key N (kas_cmp prog w A κ it) s) (S:Ss κ it pend q st) (hq:InN N q) (hi:i < N) (hj:j < N) (h:Q (some (O.blt (KN key q i) (KN key q j))) st) :
    wpS (model prog w) A E s (ltAt' i j) Q st:=by
  rw [ltAt'_eq]
  refine wpS_bind (wpS_get ?_)
  show wpS _ _ _ _ (do let x ← elem' (arrOf st) i; let y ← elem' (arrOf st) j; lt' x y) Q st
  rw [S.arr]
  exact wpS_bind (welem (by rw [hq.size]; exact hi) (wpS_bind (welem (by rw [hq.size]; exact hj) (wlt hc (hq.lt hi) (hq.lt hj) S.kind h))))
theorem wrev {i j:Nat} {Q:Unit→SortSt→Prop} (S:Ss κ it pend q st) (h:∀ st',Ss κ it pend (kas_rev q i j) st'→Q () st'):wpS (model prog w) A E s (reverseSlice' i j) Q st:=by
  rw [reverseSlice'_eq]
  refine wpS_modify (h _ ⟨S.kind,?_,S.pend,S.failed⟩)
  show mirror (arrOf st) i j ((j - i) / 2)=_
  rw [S.arr]
  exact kas_swaps_map _ _ _ _ _
theorem wmove {k l:Nat} {Q:Unit→SortSt→Prop} (S:Ss κ it pend q st) (h:∀ st',Ss κ it pend (bubble q k (k - l)) st'→Q () st'):wpS (model prog w) A E s (moveDown' k l) Q st:=by
  rw [moveDown'_eq]
  refine wpS_modify (h _ ⟨S.kind,?_,S.pend,S.failed⟩)
  show bubble (arrOf st) k (k - l)=_
  rw [S.arr]
  exact kas_swaps_map _ _ _ _ _
def SortedR (key:Nat→O.α) (q:Array Nat) (lo n:Nat):Prop:=∀ i j,i≤j→j < n→O.kle (KN key q (lo+i)) (KN key q (lo+j))
def FallR (key:Nat→O.α) (q:Array Nat) (lo n:Nat):Prop:=∀ i j,i≤j→j < n→O.kle (KN key q (lo+j)) (KN key q (lo+i))
def Fix (key:Nat→O.α) (lo hi:Nat) (q q':Array Nat):Prop:=∀ i,(i < lo∨hi≤i)→KN key q' i=KN key q i
theorem Fix.refl {lo hi:Nat} (q:Array Nat):Fix key lo hi q q:=fun _ _=>rfl
theorem Fix.trans {lo hi:Nat} {q q1 q2:Array Nat} (a:Fix key lo hi q q1) (b:Fix key lo hi q1 q2):Fix key lo hi q q2:=fun i hi=>(b i hi).trans (a i hi)
theorem Fix.rev {lo hi i j:Nat} {q:Array Nat} (h1:lo≤i) (h2:j≤hi) (hj:j≤q.size):Fix key lo hi q (kas_rev q i j):=fun k hk=>by
  rw [KN_rev hj,if_neg (by omega)]
theorem SortedR.snoc {lo n:Nat} (h:SortedR key q lo n) (h1:1≤n) (hl:O.kle (KN key q (lo+n - 1)) (KN key q (lo+n))):SortedR key q lo (n+1):=fun i j hij hj=>by
  by_cases hjx:j < n
  · exact h i j hij hjx
  · have hj':j=n:=by omega
    subst hj'
    by_cases hi':i=j
    · subst hi'; exact KeyOrd.kle_refl _
    · have:=h i (j - 1) (by omega) (by omega)
      rw [show lo+(j - 1)=lo+j - 1 by omega] at this
      exact KeyOrd.kle_trans this hl
theorem FallR.snoc {lo n:Nat} (h:FallR key q lo n) (h1:1≤n) (hl:O.kle (KN key q (lo+n)) (KN key q (lo+n - 1))):FallR key q lo (n+1):=fun i j hij hj=>by
  by_cases hjx:j < n
  · exact h i j hij hjx
  · have hj':j=n:=by omega
    subst hj'
    by_cases hi':i=j
    · subst hi'; exact KeyOrd.kle_refl _
    · have:=h i (j - 1) (by omega) (by omega)
      rw [show lo+(j - 1)=lo+j - 1 by omega] at this
      exact KeyOrd.kle_trans hl this
theorem wtail3L {lo n nrem:Nat} {Q:Option Nat→SortSt→Prop} (hc:Cmp key N (kas_cmp prog w A κ it) s) (S:Ss κ it pend q st) (hq:InN N q) (hN:lo+nrem=N) (h1:1≤n) (hn:n≤nrem) (hf:FallR key q lo n)
    (h:∀ m q' st',Ss κ it pend q' st'→InN N q'→Fix key lo N q q'→1≤m→m≤nrem→SortedR key q' lo m→Q (some m) st'):wpS (model prog w) A E s (tail3L lo n nrem) Q st:=by
  have hsz:=hq.size
  unfold tail3L
  refine wpS_bind (wrev S fun st1 S1=>?_)
  have hq1:=hq.rev lo (lo+n)
  have hfix:Fix key lo N q (kas_rev q lo (lo+n)):=Fix.rev (Nat.le_refl _) (by omega) (by omega)
  have hs1:SortedR key (kas_rev q lo (lo+n)) lo n:=fun i j hij hj=>by
    rw [KN_rev (by omega),KN_rev (by omega),if_pos (by omega),if_pos (by omega)]
    have:=hf (n - 1 - j) (n - 1 - i) (by omega) (by omega)
    rw [show lo+(n - 1 - i)=lo+(lo+n) - 1 - (lo+i) by omega,show lo+(n - 1 - j)=lo+(lo+n) - 1 - (lo+j) by omega] at this
    exact this
  generalize kas_rev q lo (lo+n)=q1 at S1 hq1 hfix hs1
  refine wpS_bind (wpS_mono (wpS_forRange
    (I:=fun (x:Nat) (c:Option (Option Nat) × Nat) (st':SortSt)=>st'=st1∧c.1=none∧c.2=x∧SortedR key q1 lo c.2)
    (Q:=fun (c:Option (Option Nat) × Nat) (st':SortSt)=>st'=st1∧c.1=none∧n≤c.2∧c.2≤nrem∧SortedR key q1 lo c.2) ?step ?fin ⟨rfl,rfl,rfl,hs1⟩) ?post)
  case fin =>
    rintro ⟨c0,m⟩ st' ⟨rfl,e0,e1,i2⟩
    dsimp only at *
    exact ⟨rfl,e0,by omega,by omega,i2⟩
  case post =>
    rintro ⟨c0,m⟩ st' ⟨rfl,e0,b1,b2,i2⟩
    dsimp only at *
    subst e0
    exact wpS_pure (h m q1 _ S1 hq1 hfix (by omega) b2 i2)
  case step =>
    rintro x ⟨c0,m⟩ st' hx1 hx2 ⟨rfl,e0,e1,i2⟩
    dsimp only at *
    subst e0 e1
    refine wpS_bind (wltAt hc S1 hq1 (by omega) (by omega) ?_)
    dsimp only
    cases hb:O.blt (KN key q1 (lo+m)) (KN key q1 (lo+m - 1)) with
    | true =>
      rw [if_pos rfl]
      exact wpS_pure ⟨rfl,rfl,hx1,by dsimp only; omega,i2⟩
    | false =>
      rw [if_neg (by simp)]
      exact wpS_pure ⟨rfl,rfl,rfl,i2.snoc (by omega) hb⟩
theorem wdescL {lo n nrem:Nat} {Q:Option Nat→SortSt→Prop} (hc:Cmp key N (kas_cmp prog w A κ it) s) (S:Ss κ it pend q st) (hq:InN N q) (hN:lo+nrem=N) (h1:1≤n) (hn:n≤nrem) (hf:FallR key q lo n)
    (h:∀ m q' st',Ss κ it pend q' st'→InN N q'→Fix key lo N q q'→1≤m→m≤nrem→SortedR key q' lo m→Q (some m) st'):wpS (model prog w) A E s (descL lo n nrem) Q st:=by
  unfold descL
  refine wpS_bind (wpS_lift (wpAny_rule ⟨rfl,?_⟩))
  dsimp only
  refine wpS_bind (wpS_mono (wpS_forRange
    (I:=fun (x:Nat) (c:Option (Option Nat) × Nat × Nat) (st':SortSt)=>c.1=none∧c.2.1=x∧∃ q',Ss κ it pend q' st'∧InN N q'∧Fix key lo N q q'∧FallR key q' lo c.2.1∧c.2.2+1≤c.2.1∧∀ i,c.2.1 - (c.2.2+1)≤i→i < c.2.1→KN key q' (lo+i)=KN key q' (lo+c.2.1 - 1))
    (Q:=fun (c:Option (Option Nat) × Nat × Nat) (st':SortSt)=>c.1=none∧n≤c.2.1∧c.2.1≤nrem∧∃ q',Ss κ it pend q' st'∧InN N q'∧Fix key lo N q q'∧FallR key q' lo c.2.1∧c.2.2+1≤c.2.1∧∀ i,c.2.1 - (c.2.2+1)≤i→i < c.2.1→KN key q' (lo+i)=KN key q' (lo+c.2.1 - 1)) ?step ?fin
      ⟨rfl,rfl,q,S,hq,Fix.refl _,hf,by dsimp only; omega,fun i a b=>by dsimp only at *; congr 1; omega⟩) ?post)
  case fin =>
    rintro ⟨c0,m,e⟩ st' ⟨e0,e1,r⟩
    dsimp only at *
    exact ⟨e0,by omega,by omega,r⟩
  case post =>
    rintro ⟨c0,m,e⟩ st' ⟨e0,b1,b2,q1,S1,hq1,hfix,hf1,he1,heq⟩
    dsimp only at *
    subst e0
    dsimp only
    have hsz:=hq1.size
    by_cases hneq:e > 0
    · rw [if_pos hneq]
      refine wpS_bind (wrev S1 fun st2 S2=>?_)
      have same:∀ k,KN key (kas_rev q1 (lo+m - (e+1)) (lo+m)) k=KN key q1 k:=KN_rev_equal (by omega) fun k hk1 hk2=>by
        have:=heq (k - lo) (by omega) (by omega)
        rwa [show lo+(k - lo)=k by omega] at this
      refine wtail3L hc S2 (hq1.rev _ _) hN (by omega) b2 (fun i j hij hj=>?_) fun m' q' st3 S3 hq3 hfix3 c1 c2 c3=>h m' q' st3 S3 hq3 (fun i hi=>?_) c1 c2 c3
      · rw [same,same]; exact hf1 i j hij hj
      · rw [hfix3 i hi,same]; exact hfix i hi
    · rw [if_neg hneq]
      exact wtail3L hc S1 hq1 hN (by omega) b2 hf1 fun m' q' st3 S3 hq3 hfix3 c1 c2 c3=>h m' q' st3 S3 hq3 (hfix.trans hfix3) c1 c2 c3
  case step =>
    rintro x ⟨c0,m,e⟩ st' hx1 hx2 ⟨e0,e1,q1,S1,hq1,hfix,hf1,he1,heq⟩
    dsimp only at *
    subst e0 e1
    have hsz:=hq1.size
    refine wpS_bind (wltAt hc S1 hq1 (by omega) (by omega) ?_)
    dsimp only
    cases hb:O.blt (KN key q1 (lo+m)) (KN key q1 (lo+m - 1)) with
    | true =>
      rw [if_pos rfl]
      by_cases hneq:e > 0
      · rw [if_pos hneq]
        refine wpS_bind (wrev S1 fun st2 S2=>?_)
        have same:∀ k,KN key (kas_rev q1 (lo+m - (e+1)) (lo+m)) k=KN key q1 k:=KN_rev_equal (by omega) fun k hk1 hk2=>by
          have:=heq (k - lo) (by omega) (by omega)
          rwa [show lo+(k - lo)=k by omega] at this
        refine wpS_pure ⟨rfl,rfl,_,S2,hq1.rev _ _,(fun i hi=>by rw [same]; exact hfix i hi),(fun i j hij hj=>?_),by dsimp only; omega,fun i a b=>by dsimp only at *; congr 1; omega⟩
        rw [same,same]
        exact hf1.snoc (by omega) (KeyOrd.kle_of_klt hb) i j hij hj
      · rw [if_neg hneq]
        exact wpS_pure ⟨rfl,rfl,q1,S1,hq1,hfix,hf1.snoc (by omega) (KeyOrd.kle_of_klt hb),by dsimp only; omega,fun i a b=>by dsimp only at *; congr 1; omega⟩
    | false =>
      rw [if_neg (by simp)]
      refine wpS_bind (wltAt hc S1 hq1 (by omega) (by omega) ?_)
      dsimp only
      cases hg:O.blt (KN key q1 (lo+m - 1)) (KN key q1 (lo+m)) with
      | true =>
        rw [if_pos rfl]
        exact wpS_pure ⟨rfl,hx1,by dsimp only; omega,q1,S1,hq1,hfix,hf1,he1,heq⟩
      | false =>
        rw [if_neg (by simp)]
        have heqx:KN key q1 (lo+m)=KN key q1 (lo+m - 1):=KeyOrd.kle_antisymm hg hb
        refine wpS_pure ⟨rfl,rfl,q1,S1,hq1,hfix,hf1.snoc (by omega) hg,by dsimp only; omega,fun i a b=>?_⟩
        dsimp only at *
        rw [show lo+(m+1) - 1=lo+m by omega]
        by_cases hix:i=m
        · subst hix; rfl
        · rw [heqx]; exact heq i (by omega) (by omega)
theorem wcountRun {lo nrem:Nat} {Q:Option Nat→SortSt→Prop} (hc:Cmp key N (kas_cmp prog w A κ it) s) (S:Ss κ it pend q st) (hq:InN N q) (hN:lo+nrem=N) (h1:1≤nrem)
    (h:∀ m q' st',Ss κ it pend q' st'→InN N q'→Fix key lo N q q'→1≤m→m≤nrem→SortedR key q' lo m→Q (some m) st'):wpS (model prog w) A E s (countRun' lo nrem) Q st:=by
  have hsz:=hq.size
  rw [countRunL_eq]
  refine wpS_bind (wpS_mono (wpS_forRange
    (I:=fun (x:Nat) (c:Option (Option Nat) × Nat) (st':SortSt)=>st'=st∧c.1=none∧c.2=x∧SortedR key q lo c.2)
    (Q:=fun (c:Option (Option Nat) × Nat) (st':SortSt)=>st'=st∧c.1=none∧1≤c.2∧c.2≤nrem∧SortedR key q lo c.2∧(c.2=nrem∨O.klt (KN key q (lo+c.2)) (KN key q (lo+c.2 - 1)))) ?step ?fin
      ⟨rfl,rfl,rfl,fun i j hij hj=>by dsimp only at hj; have:i=j:=(by omega); subst this; exact KeyOrd.kle_refl _⟩) ?post)
  case fin =>
    rintro ⟨c0,m⟩ st' ⟨rfl,e0,e1,i2⟩
    dsimp only at *
    exact ⟨rfl,e0,by omega,by omega,i2,.inl (by omega)⟩
  case step =>
    rintro x ⟨c0,m⟩ st' hx1 hx2 ⟨rfl,e0,e1,i2⟩
    dsimp only at *
    subst e0 e1
    refine wpS_bind (wltAt hc S hq (by omega) (by omega) ?_)
    dsimp only
    cases hb:O.blt (KN key q (lo+m)) (KN key q (lo+m - 1)) with
    | true =>
      rw [if_pos rfl]
      exact wpS_pure ⟨rfl,rfl,hx1,by dsimp only; omega,i2,.inr hb⟩
    | false =>
      rw [if_neg (by simp)]
      exact wpS_pure ⟨rfl,rfl,rfl,i2.snoc (by omega) hb⟩
  case post =>
    rintro ⟨c0,m⟩ st' ⟨rfl,e0,b1,b2,i2,hor⟩
    dsimp only at *
    subst e0
    dsimp only
    by_cases hnn:(m == nrem)=true
    · rw [if_pos hnn]
      exact wpS_pure (h m q _ S hq (Fix.refl _) b1 b2 i2)
    rw [if_neg hnn]
    have hlt:m < nrem:=by simp at hnn; omega
    have hd:O.klt (KN key q (lo+m)) (KN key q (lo+m - 1)):=hor.resolve_left (by omega)
    by_cases hm:m > 1
    · rw [if_pos hm]
      refine wpS_bind (wltAt hc S hq (by omega) (by omega) ?_)
      dsimp only
      cases hb:O.blt (KN key q lo) (KN key q (lo+m - 1)) with
      | true =>
        rw [if_pos rfl]
        exact wpS_pure (h m q _ S hq (Fix.refl _) b1 b2 i2)
      | false =>
        rw [if_neg (by simp)]
        refine wpS_bind (wrev S fun st2 S2=>?_)
        have alike:∀ k,lo≤k→k < lo+m→KN key q k=KN key q (lo+m - 1):=fun k k1 k2=>by
          have a1:=i2 0 (k - lo) (by omega) (by omega)
          have a2:=i2 (k - lo) (m - 1) (by omega) (by omega)
          rw [show lo+(k - lo)=k by omega] at a1 a2
          rw [show lo+(m - 1)=lo+m - 1 by omega] at a2
          rw [Nat.add_zero] at a1
          exact KeyOrd.kle_antisymm a2 (KeyOrd.kle_trans (show O.kle _ _ from hb) a1)
        have same:∀ k,KN key (kas_rev q lo (lo+m)) k=KN key q k:=KN_rev_equal (by omega) alike
        refine wdescL hc S2 (hq.rev _ _) hN (by omega) (by omega) (fun i j hij hj=>?_) fun m' q' st3 S3 hq3 hfix3 c1 c2 c3=>h m' q' st3 S3 hq3 (fun i hi=>by rw [hfix3 i hi,same]) c1 c2 c3
        rw [same,same]
        refine FallR.snoc (q:=q) (fun i j hij hj=>?_) b1 (KeyOrd.kle_of_klt hd) i j hij hj
        rw [alike _ (by omega) (by omega),alike (lo+i) (by omega) (by omega)]
        exact KeyOrd.kle_refl _
    · rw [if_neg hm]
      obtain rfl:m=1:=by omega
      refine wdescL hc S hq hN (by omega) (by omega) ?_ fun m' q' st3 S3 hq3 hfix3 c1 c2 c3=>h m' q' st3 S3 hq3 hfix3 c1 c2 c3
      refine FallR.snoc (fun i j hij hj=>?_) (Nat.le_refl 1) (KeyOrd.kle_of_klt hd)
      have:i=j:=by omega
      subst this; exact KeyOrd.kle_refl _
end
end SO
set_option Elab.async false
set_option linter.all false
set_option maxRecDepth 100000
set_option maxHeartbeats 2000000
namespace SO
open PySem PySem.W PyProof.Rows
section
variable {O:KeyOrd} {key:Nat→O.α} {N:Nat} {prog:Program} {w:World} {A:Around} {E:Value→Shared→Prop} {s:Shared} {κ:SortKind} {it:Array Keyed} {pend:Array (Nat × Nat × Nat)} {st:SortSt} {q:Array Nat}
theorem wbinary {lo n ok:Nat} {Q:Bool→SortSt→Prop} (hc:Cmp key N (kas_cmp prog w A κ it) s) (S:Ss κ it pend q st) (hq:InN N q) (hN:lo+n≤N) (h1:1≤ok) (hok:ok≤n) (hs:SortedR key q lo ok)
    (h:∀ q' st',Ss κ it pend q' st'→InN N q'→Fix key lo (lo+n) q q'→SortedR key q' lo n→Q true st'):wpS (model prog w) A E s (binarySort' lo n ok) Q st:=by
  rw [binarySort'_eq]
  refine wpS_bind (wpS_mono (wpS_forRange
    (I:=fun (k:Nat) (c:Option Bool × PUnit) (st':SortSt)=>c.1=none∧∃ q',Ss κ it pend q' st'∧InN N q'∧Fix key lo (lo+n) q q'∧SortedR key q' lo (min k n))
    (Q:=fun (c:Option Bool × PUnit) (st':SortSt)=>c.1=none∧∃ q',Ss κ it pend q' st'∧InN N q'∧Fix key lo (lo+n) q q'∧SortedR key q' lo n) ?step ?fin ⟨rfl,q,S,hq,Fix.refl _,by rw [show min (max ok 1) n=ok by omega]; exact hs⟩) ?post)
  case fin =>
    rintro ⟨c0,_⟩ st' ⟨e0,q',a,b,c,d⟩
    rw [show min (max (max ok 1) n) n=n by omega] at d
    exact ⟨e0,q',a,b,c,d⟩
  case post =>
    rintro ⟨c0,_⟩ st' ⟨e0,q',a,b,c,d⟩
    dsimp only at *
    subst e0
    exact wpS_pure (h q' st' a b c d)
  case step =>
    rintro k ⟨c0,_⟩ st' hk1 hk2 ⟨e0,q',S',hq',hfix,hso⟩
    dsimp only at *
    subst e0
    rw [show min k n=k by omega] at hso
    have hsz:=hq'.size
    refine wpS_bind (wpS_mono (wpS_forRange
      (I:=fun (x:Nat) (c:Option Bool × Nat × Nat) (st2:SortSt)=>st2=st'∧c.1=none∧c.2.1≤c.2.2∧c.2.2≤k∧c.2.2 - c.2.1+x≤k∧(∀ i,i < c.2.1→O.kle (KN key q' (lo+i)) (KN key q' (lo+k)))∧∀ i,c.2.2≤i→i < k→O.klt (KN key q' (lo+k)) (KN key q' (lo+i)))
      (Q:=fun (c:Option Bool × Nat × Nat) (st2:SortSt)=>st2=st'∧c.1=none∧c.2.1≤k∧(∀ i,i < c.2.1→O.kle (KN key q' (lo+i)) (KN key q' (lo+k)))∧∀ i,c.2.1≤i→i < k→O.klt (KN key q' (lo+k)) (KN key q' (lo+i))) ?step1 ?fin1
        ⟨rfl,rfl,Nat.zero_le _,Nat.le_refl _,by dsimp only; omega,(fun i hi=>absurd hi (Nat.not_lt_zero _)),fun i a b=>by dsimp only at *; omega⟩) ?post1)
    case fin1 =>
      rintro ⟨c0,l,r⟩ st2 ⟨rfl,e0,i1,i2,i3,i4,i5⟩
      dsimp only at *
      exact ⟨rfl,e0,by omega,i4,fun i a b=>i5 i (by omega) b⟩
    case step1 =>
      rintro x ⟨c0,l,r⟩ st2 _ hx ⟨rfl,e0,i1,i2,i3,i4,i5⟩
      dsimp only at *
      subst e0
      by_cases hlr:l ≥ r
      · rw [if_pos hlr]
        exact wpS_pure ⟨rfl,rfl,by dsimp only; omega,i4,fun i a b=>i5 i (by dsimp only at a; omega) b⟩
      · rw [if_neg hlr]
        refine wpS_bind (wltAt hc S' hq' (by omega) (by omega) ?_)
        dsimp only
        cases hb:O.blt (KN key q' (lo+k)) (KN key q' (lo+(l+r) / 2)) with
        | true =>
          rw [if_pos rfl]
          exact wpS_pure ⟨rfl,rfl,by dsimp only; omega,by dsimp only; omega,by dsimp only; omega,i4,fun i a b=>KeyOrd.klt_of_klt_of_kle hb (hso _ i a b)⟩
        | false =>
          rw [if_neg (by simp)]
          exact wpS_pure ⟨rfl,rfl,by dsimp only; omega,i2,by dsimp only; omega,(fun i hi=>KeyOrd.kle_trans (hso i _ (by dsimp only at hi; omega) (by omega)) hb),i5⟩
    case post1 =>
      rintro ⟨c0,l,r⟩ st2 ⟨rfl,e0,i1,i4,i5⟩
      dsimp only at *
      subst e0
      dsimp only
      refine wpS_bind (wmove S' fun st3 S3=>?_)
      have hb:∀ j,KN key (bubble q' (lo+k) (lo+k - (lo+l))) j=if j=lo+l then KN key q' (lo+k) else if lo+l < j∧j≤lo+k then KN key q' (j - 1) else KN key q' j:=fun j=>by
        rw [KN_bubble (by omega) (by omega),show lo+k - (lo+k - (lo+l))=lo+l by omega]
      refine wpS_pure ⟨rfl,_,S3,hq'.of (bubble_perm _ _ _),hfix.trans (fun j hj=>?_),fun i j hij hj=>?_⟩
      · rw [hb,if_neg (by omega),if_neg (by omega)]
      · rw [show min (k+1) n=k+1 by omega] at hj
        rw [hb,hb]
        by_cases c1:j=l
        · rw [if_pos (show lo+j=lo+l by omega)]
          by_cases c2:i=l
          · rw [if_pos (by omega)]; exact KeyOrd.kle_refl _
          · rw [if_neg (by omega),if_neg (by omega)]
            exact i4 i (by omega)
        · rw [if_neg (show ¬ lo+j=lo+l by omega)]
          by_cases c3:l < j
          · rw [if_pos (show lo+l < lo+j∧lo+j≤lo+k by omega),show lo+j - 1=lo+(j - 1) by omega]
            by_cases c2:i=l
            · rw [if_pos (by omega)]
              exact KeyOrd.kle_of_klt (i5 (j - 1) (by omega) (by omega))
            · rw [if_neg (by omega)]
              by_cases c4:l < i
              · rw [if_pos (by omega),show lo+i - 1=lo+(i - 1) by omega]
                exact hso _ _ (by omega) (by omega)
              · rw [if_neg (by omega)]
                exact hso _ _ (by omega) (by omega)
          · rw [if_neg (by omega),if_neg (by omega),if_neg (by omega)]
            exact hso _ _ hij (by omega)
end
section
variable {O:KeyOrd} {key:Nat→O.α} {N:Nat} {q:Array Nat}
theorem KN_list (i:Nat):KN key q i=key (q.toList.getD i 0):=by
  unfold KN
  rw [Array.getD_eq_getD_getElem?,List.getD_eq_getElem?_getD,Array.getElem?_toList]
theorem region_get {lo n i:Nat} (h:lo+n≤q.size) (hi:i < n):((q.toList.drop lo).take n).getD i 0=q.toList.getD (lo+i) 0:=by
  rw [List.getD_eq_getElem?_getD,List.getD_eq_getElem?_getD,List.getElem?_take,if_pos hi,List.getElem?_drop]
theorem region_len {lo n:Nat} (h:lo+n≤q.size):((q.toList.drop lo).take n).length=n:=by
  rw [List.length_take,List.length_drop,Array.length_toList]; omega
theorem up_of_R {lo n:Nat} (h:SortedR key q lo n) (hz:lo+n≤q.size):Up key ((q.toList.drop lo).take n):=by
  rw [Up,List.pairwise_iff_getElem]
  intro i j hi hj hij
  rw [region_len hz] at hi hj
  have:=h i j (by omega) hj
  rw [KN_list,KN_list,← region_get hz hi,← region_get hz hj,getD_of (by rw [region_len hz]; exact hi),getD_of (by rw [region_len hz]; exact hj)] at this
  exact this
theorem R_of_up {lo n:Nat} (h:Up key ((q.toList.drop lo).take n)) (hz:lo+n≤q.size):SortedR key q lo n:=fun i j hij hj=>by
  have:=up_le h hij (by rw [region_len hz]; exact hj)
  rw [region_get hz (by omega),region_get hz hj] at this
  rw [KN_list,KN_list]
  exact this
theorem splice {α:Type}:∀ (l:List α) (a:Array α) (i k:Nat),i+k+l.length≤a.size→((l.zipIdx k).foldl (fun a (x:α × Nat)=>a.setIfInBounds (i+x.2) x.1) a).toList=a.toList.take (i+k)++l++a.toList.drop (i+k+l.length)
  | [],a,i,k,h=>by simp
  | x :: l,a,i,k,h=>by
    rw [List.zipIdx_cons,List.foldl_cons,splice l _ i (k+1) (by simp at h ⊢; omega)]
    have hlt:i+k < a.toList.length:=by simp at h ⊢; omega
    rw [Array.toList_setIfInBounds,show i+(k+1)=i+k+1 by omega,List.length_cons,show i+k+(l.length+1)=i+k+1+l.length by omega]
    have e1:(a.toList.set (i+k) x).take (i+k+1)=a.toList.take (i+k)++[x]:=by
      rw [List.take_add_one,List.take_set_of_le (Nat.le_refl _),List.getElem?_set_self hlt]
      rfl
    rw [e1,List.drop_set_of_lt (by omega)]
    simp
end
end SO
set_option Elab.async false
set_option linter.all false
set_option maxRecDepth 100000
set_option maxHeartbeats 2000000
namespace SO
open PySem PySem.W PyProof.Rows
theorem mergeAt'_eq (i:Nat):mergeAt' i=(do
  let s ← get
  let (some (sa,na,power),some (sb,nb,_)):=((pendingOf s)[i]?,(pendingOf s)[i+1]?) | unsupported "internal:list.sort.pending"
  set (SortSt.mk' (kindOf s) (arrOf s) (((pendingOf s).setIfInBounds i (sa,na+nb,power)).eraseIdxIfInBounds (i+1)) (gallopOf s) (failedOf s))
  let some k ← gallop' false (← elem' (arrOf s) sb) (arrOf s) sa na 0 | return false
  let (sa,na):=(sa+k,na - k)
  if na == 0 then return true
  let some nb ← gallop' true (← elem' (arrOf s) (sa+na - 1)) (arrOf s) sb nb (nb - 1) | return false
  if nb == 0 then return true
  let x:=(arrOf s).extract sa sb
  let y:=(arrOf s).extract sb (sb+nb)
  let merged ← if na≤nb then mergeLo' x y else mergeHi' x y
  modify fun s=>setArr s (merged.toList.zipIdx.foldl (fun a (p,j)=>a.setIfInBounds (sa+j) p) (arrOf s))
  return (failedOf (← get)).isNone):=rfl
section
variable {O:KeyOrd} {key:Nat→O.α} {N:Nat} {prog:Program} {w:World} {A:Around} {E:Value→Shared→Prop} {s:Shared} {κ:SortKind} {it:Array Keyed} {pend:Array (Nat × Nat × Nat)} {st:SortSt} {q:Array Nat}
theorem wset {st0:SortSt} {Q:PUnit→SortSt→Prop} (h:Q ⟨⟩ st0):wpS (model prog w) A E s (set st0:StateT SortSt Sem PUnit) Q st:=by
  unfold wpS; rw [StateT.run_set]; exact wpAny_pure ⟨rfl,h⟩
theorem wgalR {left:Bool} {k base n hint:Nat} {Q:Option Nat→SortSt→Prop} (hc:Cmp key N (kas_cmp prog w A κ it) s) (hq:InN N q) (hk:k < N) (hκ:kindOf st=κ) (hn:base+n≤N) (hh:hint < n) (hup:SortedR key q base n)
    (h:∀ r,r≤n→(∀ j,j < r→if left then O.klt (KN key q (base+j)) (key k) else O.kle (KN key q (base+j)) (key k))→(∀ j,r≤j→j < n→if left then O.kle (key k) (KN key q (base+j)) else O.klt (key k) (KN key q (base+j)))→Q (some r) st) :
    wpS (model prog w) A E s (gallop' left (kas_item it k) (q.map (kas_item it)) base n hint) Q st:=by
  refine wgallop hc (fun i hi=>hq.lt (by rw [← hq.size]; exact hi)) hk hκ (by rw [hq.size]; exact hn) hh (fun i j hij hj hb=>?_) fun r hr h1 h2=>h r hr (fun j hj=>?_) fun j hj hjn=>?_
  · have:=hup i j hij hj
    unfold Bey at hb ⊢
    cases left with
    | true =>
      rw [if_pos rfl] at hb ⊢
      exact KeyOrd.klt_of_kle_of_klt this hb
    | false =>
      rw [if_neg (by simp)] at hb ⊢
      have hb':O.kle (KN key q (base+j)) (key k):=by unfold KeyOrd.kle KN; simpa using hb
      have:=KeyOrd.kle_trans this hb'
      unfold KeyOrd.kle KN at this
      rw [this]
      rfl
  · have hb:=h1 j hj
    unfold Bey at hb
    cases left with
    | true=>rw [if_pos rfl] at hb ⊢; exact hb
    | false=>rw [if_neg (by simp)] at hb ⊢; unfold KeyOrd.kle KN; simpa using hb
  · have hb:=h2 j hj hjn
    unfold Bey at hb
    cases left with
    | true=>rw [if_pos rfl] at hb ⊢; exact hb
    | false=>rw [if_neg (by simp)] at hb ⊢; unfold KeyOrd.klt KN; simpa using hb
theorem arr_toList (q:Array Nat):q.map (kas_item it)=arr it q.toList:=by simp [arr]
theorem mem_region {lo n x:Nat} (h:x∈(q.toList.drop lo).take n):∃ j,j < n∧lo+j < q.size∧key x=KN key q (lo+j):=by
  obtain ⟨j,h1,h2,e⟩:=mem_part h
  exact ⟨j,h1,by simpa using h2,by rw [KN_list,← e]⟩
theorem wmergeAt {i sa na pw sb nb pw2:Nat} {Q:Bool→SortSt→Prop} (hc:Cmp key N (kas_cmp prog w A κ it) s) (S:Ss κ it pend q st) (hq:InN N q) (hp1:pend[i]?=some (sa,na,pw)) (hp2:pend[i+1]?=some (sb,nb,pw2)) (hsb:sb=sa+na) (h1:1≤na) (h2:1≤nb) (hz:sb+nb≤N)
    (sA:SortedR key q sa na) (sB:SortedR key q sb nb)
    (h:∀ q' st',Ss κ it ((pend.setIfInBounds i (sa,na+nb,pw)).eraseIdxIfInBounds (i+1)) q' st'→InN N q'→Fix key sa (sa+(na+nb)) q q'→SortedR key q' sa (na+nb)→Q true st') :
    wpS (model prog w) A E s (mergeAt' i) Q st:=by
  have hsz:=hq.size
  rw [mergeAt'_eq]
  refine wpS_bind (wpS_get ?_)
  rw [S.pend,hp1,hp2]
  dsimp only
  refine wpS_bind (wset ?_)
  have S1:Ss κ it ((pend.setIfInBounds i (sa,na+nb,pw)).eraseIdxIfInBounds (i+1)) q (SortSt.mk' (kindOf st) (arrOf st) ((pend.setIfInBounds i (sa,na+nb,pw)).eraseIdxIfInBounds (i+1)) (gallopOf st) (failedOf st)):=⟨S.kind,S.arr,rfl,S.failed⟩
  rw [S.arr]
  rw [S.arr] at S1
  generalize SortSt.mk' (kindOf st) (q.map (kas_item it)) ((pend.setIfInBounds i (sa,na+nb,pw)).eraseIdxIfInBounds (i+1)) (gallopOf st) (failedOf st)=st1 at S1
  generalize (pend.setIfInBounds i (sa,na+nb,pw)).eraseIdxIfInBounds (i+1)=pend1 at S1 h
  have join:(∀ i j,i < na→j < nb→O.kle (KN key q (sa+i)) (KN key q (sb+j)))→SortedR key q sa (na+nb):=fun hab i j hij hj=>by
    by_cases hj':j < na
    · exact sA i j hij hj'
    · by_cases hi':i < na
      · have:=hab i (j - na) hi' (by omega)
        rwa [show sb+(j - na)=sa+j by omega] at this
      · have:=sB (i - na) (j - na) (by omega) (by omega)
        rwa [show sb+(i - na)=sa+i by omega,show sb+(j - na)=sa+j by omega] at this
  have kb0:key (q.getD sb 0)=KN key q (sb+0):=rfl
  refine wpS_bind (welem (by omega) (wpS_bind (wgalR hc hq (hq.lt (by omega)) S1.kind (by omega) (by omega) sA fun k hk1 hk2 hk3=>?_)))
  dsimp only
  have a1:∀ j,j < k→O.kle (KN key q (sa+j)) (KN key q sb):=fun j hj=>hk2 j hj
  have a2:∀ j,k≤j→j < na→O.klt (KN key q sb) (KN key q (sa+j)):=fun j hj hjn=>hk3 j hj hjn
  have b0:∀ j,j < nb→O.kle (KN key q sb) (KN key q (sb+j)):=fun j hj=>by
    have:=sB 0 j (Nat.zero_le _) hj
    rwa [Nat.add_zero] at this
  by_cases hz1:(na - k == 0)=true
  · rw [if_pos hz1]
    have hk:k=na:=by simp at hz1; omega
    exact wpS_pure (h q st1 S1 hq (Fix.refl _) (join fun i j hi hj=>KeyOrd.kle_trans (a1 i (by omega)) (b0 j hj)))
  rw [if_neg hz1]
  have hkn:k < na:=by simp at hz1; omega
  refine wpS_bind (welem (by omega) (wpS_bind (wgalR hc hq (hq.lt (by omega)) S1.kind (by omega) (by omega) sB fun m hm1 hm2 hm3=>?_)))
  dsimp only
  have el:sa+k+(na - k) - 1=sa+(na - 1):=by omega
  have c1:∀ j,j < m→O.klt (KN key q (sb+j)) (KN key q (sa+(na - 1))):=fun j hj=>by
    have:=hm2 j hj
    rw [el] at this
    exact this
  have c2:∀ j,m≤j→j < nb→O.kle (KN key q (sa+(na - 1))) (KN key q (sb+j)):=fun j hj hjn=>by
    have:=hm3 j hj hjn
    rw [el] at this
    exact this
  have aL:∀ i,i < na→O.kle (KN key q (sa+i)) (KN key q (sa+(na - 1))):=fun i hi=>sA i (na - 1) (by omega) (by omega)
  by_cases hz2:(m == 0)=true
  · rw [if_pos hz2]
    have hm:m=0:=by simpa using hz2
    exact wpS_pure (h q st1 S1 hq (Fix.refl _) (join fun i j hi hj=>KeyOrd.kle_trans (aL i hi) (c2 j (by omega) hj)))
  rw [if_neg hz2]
  have hm0:0 < m:=by simp at hz2; omega
  have eA:(q.map (kas_item it)).extract (sa+k) sb=arr it ((q.toList.drop (sa+k)).take (na - k)):=by
    have:=arr_part (it:=it) q.toList (sa+k) (na - k) (by simp; omega)
    rw [show sa+k+(na - k)=sb by omega] at this
    rw [arr_toList]; exact this
  have eB:(q.map (kas_item it)).extract sb (sb+m)=arr it ((q.toList.drop sb).take m):=by
    rw [arr_toList]; exact arr_part q.toList sb m (by simp; omega)
  rw [eA,eB]
  have lA:((q.toList.drop (sa+k)).take (na - k)).length=na - k:=region_len (by omega)
  have lB:((q.toList.drop sb).take m).length=m:=region_len (by omega)
  have inQ:∀ x∈q.toList,x < N:=fun x hx=>List.mem_range.mp (hq.mem_iff.mp hx)
  have hA:∀ x∈(q.toList.drop (sa+k)).take (na - k),x < N:=fun x hx=>inQ x (List.mem_of_mem_drop (List.mem_of_mem_take hx))
  have hB:∀ x∈(q.toList.drop sb).take m,x < N:=fun x hx=>inQ x (List.mem_of_mem_drop (List.mem_of_mem_take hx))
  have uA:Up key ((q.toList.drop (sa+k)).take (na - k)):=up_of_R (fun i j hij hj=>by
    have:=sA (k+i) (k+j) (by omega) (by omega)
    rwa [← Nat.add_assoc,← Nat.add_assoc] at this) (by omega)
  have uB:Up key ((q.toList.drop sb).take m):=up_of_R (fun i j hij hj=>sB i j hij (by omega)) (by omega)
  have g0:key (((q.toList.drop sb).take m).getD 0 0)=KN key q sb:=by rw [region_get (by omega) hm0,KN_list,Nat.add_zero]
  have first:∀ x∈(q.toList.drop (sa+k)).take (na - k),O.klt (key (((q.toList.drop sb).take m).getD 0 0)) (key x):=fun x hx=>by
    obtain ⟨j,hj,_,e⟩:=mem_region (key:=key) hx
    rw [g0,e,Nat.add_assoc]
    exact a2 (k+j) (by omega) (by omega)
  have last:∀ y∈(q.toList.drop sb).take m,O.klt (key y) (key (((q.toList.drop (sa+k)).take (na - k)).getD (((q.toList.drop (sa+k)).take (na - k)).length - 1) 0)):=fun y hy=>by
    obtain ⟨j,hj,_,e⟩:=mem_region (key:=key) hy
    rw [lA,region_get (by omega) (by omega),e,← KN_list (key:=key) (q:=q),show sa+k+(na - k - 1)=sa+(na - 1) by omega]
    exact c1 j hj
  have fin:∀ r st2,Stay st1 st2→Merged key it ((q.toList.drop (sa+k)).take (na - k)) ((q.toList.drop sb).take m) r →
      wpS (model prog w) A E s (do
        modify fun s=>setArr s (r.toList.zipIdx.foldl (fun a (x:Keyed × Nat)=>a.setIfInBounds (sa+k+x.2) x.1) (arrOf s))
        return (failedOf (← get)).isNone) Q st2:=by
    intro r st2 hst ⟨l,er,hl,ul⟩
    subst er
    refine wpS_bind (wpS_modify ?_)
    refine wpS_bind (wpS_get ?_)
    have hf:(failedOf (setArr st2 ((arr it l).toList.zipIdx.foldl (fun a (x:Keyed × Nat)=>a.setIfInBounds (sa+k+x.2) x.1) (arrOf st2)))).isNone=true:=by
      show (failedOf st2).isNone=true
      rw [hst.2.2.2,S1.failed]; rfl
    rw [hf]
    have hll:l.length=na - k+m:=by rw [hl.length_eq,List.length_append,lA,lB]
    have hQl:q.toList.length=N:=by simpa using hsz
    have hap:(q.toList.drop (sa+k)).take (na - k)++(q.toList.drop sb).take m=(q.toList.drop (sa+k)).take (na - k+m):=by
      rw [List.take_add,List.drop_drop,show sa+k+(na - k)=sb by omega]
    have hnew:arrOf (setArr st2 ((arr it l).toList.zipIdx.foldl (fun a (x:Keyed × Nat)=>a.setIfInBounds (sa+k+x.2) x.1) (arrOf st2)))=(q.toList.take (sa+k)++l++q.toList.drop (sa+k+l.length)).toArray.map (kas_item it):=by
      show (arr it l).toList.zipIdx.foldl (fun a (x:Keyed × Nat)=>a.setIfInBounds (sa+k+x.2) x.1) (arrOf st2)=_
      rw [hst.2.1,S1.arr]
      apply Array.toList_inj.mp
      rw [splice _ _ _ 0 (by simp [hll]; omega)]
      simp [List.map_take,List.map_drop]
    have hperm:(q.toList.take (sa+k)++l++q.toList.drop (sa+k+l.length)).Perm q.toList:=by
      have e:q.toList=q.toList.take (sa+k)++((q.toList.drop (sa+k)).take (na - k+m)++q.toList.drop (sa+k+l.length)):=by
        rw [hll,← drop_split q.toList (sa+k) (na - k+m),List.take_append_drop]
      rw [List.append_assoc]
      refine List.Perm.trans (List.Perm.append_left _ (List.Perm.append_right _ ?_)) (List.Perm.of_eq e.symm)
      rw [← hap]; exact hl
    refine wpS_pure (h _ _ ⟨hst.1.trans S1.kind,hnew,hst.2.2.1.trans S1.pend,hst.2.2.2.trans S1.failed⟩ (show List.Perm _ _ from hperm.trans hq) (fun i hi=>?_) ?_)
    · rw [KN_list,KN_list]
      congr 1
      rw [List.getD_eq_getElem?_getD,List.getD_eq_getElem?_getD]
      congr 1
      show (q.toList.take (sa+k)++l++q.toList.drop (sa+k+l.length))[i]?=_
      have lt:(q.toList.take (sa+k)).length=sa+k:=by rw [List.length_take,hQl]; omega
      rcases hi with hi | hi
      · rw [List.append_assoc,List.getElem?_append_left (by omega),List.getElem?_take,if_pos (by omega)]
      · rw [List.getElem?_append_right (by rw [List.length_append]; omega),List.getElem?_drop]
        congr 1
        rw [List.length_append]; omega
    · have hsz':(q.toList.take (sa+k)++l++q.toList.drop (sa+k+l.length)).toArray.size=N:=by rw [List.size_toArray,hperm.length_eq,hQl]
      refine R_of_up ?_ (by rw [hsz']; omega)
      have ereg:((q.toList.take (sa+k)++l++q.toList.drop (sa+k+l.length)).toArray.toList.drop sa).take (na+nb)=(q.toList.drop sa).take k++l++(q.toList.drop (sb+m)).take (nb - m):=by
        show (((q.toList.take (sa+k)++l++q.toList.drop (sa+k+l.length))).drop sa).take (na+nb)=_
        have lt:(q.toList.take (sa+k)).length=sa+k:=by rw [List.length_take,hQl]; omega
        rw [List.append_assoc,List.drop_append_of_le_length (by omega),List.drop_take,show sa+k - sa=k by omega]
        have l1:((q.toList.drop sa).take k).length=k:=region_len (by omega)
        have t1:∀ X:List Nat,((q.toList.drop sa).take k++X).take (na+nb)=(q.toList.drop sa).take k++X.take (na+nb - k):=fun X=>by
          rw [List.take_append,l1,List.take_of_length_le (l:=(q.toList.drop sa).take k) (by rw [l1]; omega)]
        have t2:∀ X:List Nat,(l++X).take (na+nb - k)=l++X.take (nb - m):=fun X=>by
          rw [List.take_append,List.take_of_length_le (l:=l) (by omega),hll,show na+nb - k - (na - k+m)=nb - m by omega]
        rw [t1,t2,hll,show sa+k+(na - k+m)=sb+m by omega,List.append_assoc]
      rw [ereg]
      have u1:Up key ((q.toList.drop sa).take k):=up_of_R (fun i j hij hj=>sA i j hij (by omega)) (by omega)
      have u3:Up key ((q.toList.drop (sb+m)).take (nb - m)):=up_of_R (fun i j hij hj=>by
        have:=sB (m+i) (m+j) (by omega) (by omega)
        rwa [← Nat.add_assoc,← Nat.add_assoc] at this) (by omega)
      have of3:∀ y∈(q.toList.drop (sb+m)).take (nb - m),∃ j,m≤j∧j < nb∧key y=KN key q (sb+j):=fun y hy=>by
        obtain ⟨j,hj,_,e⟩:=mem_region (key:=key) hy
        exact ⟨m+j,by omega,by omega,by rw [e,Nat.add_assoc]⟩
      have of1:∀ x∈(q.toList.drop sa).take k,∃ i,i < k∧key x=KN key q (sa+i):=fun x hx=>by
        obtain ⟨i,hi,_,e⟩:=mem_region (key:=key) hx
        exact ⟨i,hi,e⟩
      have ofl:∀ x∈l,(∃ i,k≤i∧i < na∧key x=KN key q (sa+i))∨∃ j,j < m∧key x=KN key q (sb+j):=fun x hx=>by
        rcases List.mem_append.mp (hl.mem_iff.mp hx) with z | z
        · obtain ⟨i,hi,_,e⟩:=mem_region (key:=key) z
          exact .inl ⟨k+i,by omega,by omega,by rw [e,Nat.add_assoc]⟩
        · obtain ⟨j,hj,_,e⟩:=mem_region (key:=key) z
          exact .inr ⟨j,hj,e⟩
      refine List.pairwise_append.mpr ⟨List.pairwise_append.mpr ⟨u1,ul,fun x hx y hy=>?_⟩,u3,fun x hx y hy=>?_⟩
      · obtain ⟨i,hi,ex⟩:=of1 x hx
        rw [ex]
        rcases ofl y hy with ⟨j,hj1,hj2,ey⟩ | ⟨j,hj,ey⟩
        · rw [ey]; exact sA i j (by omega) hj2
        · rw [ey]; exact KeyOrd.kle_trans (a1 i hi) (b0 j (by omega))
      · obtain ⟨j,hj1,hj2,ey⟩:=of3 y hy
        rw [ey]
        rcases List.mem_append.mp hx with z | z
        · obtain ⟨i,hi,ex⟩:=of1 x z
          rw [ex]; exact KeyOrd.kle_trans (a1 i hi) (b0 j hj2)
        · rcases ofl x z with ⟨i,hi1,hi2,ex⟩ | ⟨i,hi,ex⟩
          · rw [ex]; exact KeyOrd.kle_trans (aL i hi2) (c2 j hj1 hj2)
          · rw [ex]; exact sB i j (by omega) hj2
  by_cases hle:na - k≤m
  · rw [if_pos hle]
    refine wpS_bind (wmergeLo hc hA hB S1.kind uA uB (by omega) (by omega) ?_ last fun r st2 hst hm=>fin r st2 hst hm)
    refine first _ ?_
    rw [getD_of (by omega)]
    exact List.getElem_mem _
  · rw [if_neg hle]
    exact wpS_bind (wmergeHi hc hA hB S1.kind uA uB (by omega) (by omega) first last fun r st2 hst hm=>fin r st2 hst hm)
end
end SO
set_option Elab.async false
set_option linter.all false
set_option maxRecDepth 100000
set_option maxHeartbeats 2000000
namespace SO
open PySem PySem.W PyProof.Rows
abbrev pr (t:Nat × Nat × Nat):Nat × Nat:=(t.1,t.2.1)
def Chain:Nat→List (Nat × Nat)→Nat→Prop
  | a,[],b=>a=b
  | a,t :: r,b=>t.1=a∧1≤t.2∧Chain (a+t.2) r b
theorem Chain.append:∀ {a b:Nat} {P S:List (Nat × Nat)},Chain a (P++S) b↔∃ c,Chain a P c∧Chain c S b
  | a,b,[],S=>⟨fun h=>⟨a,rfl,h⟩,fun ⟨c,e,h⟩=>by have e:a=c:=e; subst e; exact h⟩
  | a,b,t :: P,S=>by
    constructor
    · rintro ⟨h1,h2,h3⟩
      obtain ⟨c,h4,h5⟩:=Chain.append.mp h3
      exact ⟨c,⟨h1,h2,h4⟩,h5⟩
    · rintro ⟨c,⟨h1,h2,h4⟩,h5⟩
      exact ⟨h1,h2,Chain.append.mpr ⟨c,h4,h5⟩⟩
theorem Chain.le:∀ {a b:Nat} {P:List (Nat × Nat)},Chain a P b→a+P.length≤b∧∀ t∈P,a≤t.1∧t.1+t.2≤b
  | a,b,[],h=>by have h:a=b:=h; subst h; exact ⟨Nat.le_refl _,fun t ht=>by cases ht⟩
  | a,b,t :: P,⟨h1,h2,h3⟩=>by
    obtain ⟨g1,g2⟩:=Chain.le h3
    refine ⟨by rw [List.length_cons]; omega,fun u hu=>?_⟩
    rcases List.mem_cons.mp hu with rfl | hu
    · omega
    · have:=g2 u hu
      omega
section
variable {O:KeyOrd} {key:Nat→O.α} {N:Nat} {prog:Program} {w:World} {A:Around} {E:Value→Shared→Prop} {s:Shared} {κ:SortKind} {it:Array Keyed} {pend:Array (Nat × Nat × Nat)} {st:SortSt} {q:Array Nat}
structure Rn (key:Nat→O.α) (N:Nat) (κ:SortKind) (it:Array Keyed) (pend:Array (Nat × Nat × Nat)) (q:Array Nat) (st:SortSt) (lo:Nat):Prop where
  S:Ss κ it pend q st
  hq:InN N q
  ch:Chain 0 (pend.toList.map pr) lo
  up:∀ t∈pend.toList.map pr,SortedR key q t.1 t.2
theorem wmergeRn {i lo:Nat} {Q:Bool→SortSt→Prop} (hc:Cmp key N (kas_cmp prog w A κ it) s) (R:Rn key N κ it pend q st lo) (hlo:lo≤N) (hi:i+1 < pend.size) (h:∀ pend' q' st',Rn key N κ it pend' q' st' lo→pend'.size+1=pend.size→Fix key 0 lo q q'→Q true st') :
    wpS (model prog w) A E s (mergeAt' i) Q st:=by
  have hl:pend.toList.length=pend.size:=by simp
  obtain ⟨P,t,u,S',hP,e⟩:∃ P t u S',P.length=i∧pend.toList=P++t :: u :: S':=by
    refine ⟨pend.toList.take i,pend.toList[i],pend.toList[i+1],pend.toList.drop (i+2),by rw [List.length_take]; omega,?_⟩
    rw [← List.drop_eq_getElem_cons (by omega),← List.drop_eq_getElem_cons (by omega),List.take_append_drop]
  have hch:=R.ch
  rw [e,List.map_append,List.map_cons,List.map_cons] at hch
  obtain ⟨c,c1,c2,c3,c4,c5,c6⟩:=Chain.append.mp hch
  obtain ⟨sa,na,pw⟩:=t
  obtain ⟨sb,nb,pw2⟩:=u
  dsimp only [pr] at c2 c3 c4 c5 c6
  have l6:=Chain.le c6
  have l1:=Chain.le c1
  have g1:pend[i]?=some (sa,na,pw):=by
    rw [← Array.getElem?_toList,e,← hP,List.getElem?_append_right (Nat.le_refl _)]; simp
  have g2:pend[i+1]?=some (sb,nb,pw2):=by
    rw [← Array.getElem?_toList,e,← hP,List.getElem?_append_right (by omega)]; simp
  have up1:=R.up (sa,na) (by rw [e]; simp [pr])
  have up2:=R.up (sb,nb) (by rw [e]; simp [pr])
  refine wmergeAt hc R.S R.hq g1 g2 (by omega) c3 c5 (by omega) up1 up2 fun q' st' S2 hq2 hfix hso=>?_
  have e2:((pend.setIfInBounds i (sa,na+nb,pw)).eraseIdxIfInBounds (i+1)).toList=P++(sa,na+nb,pw) :: S':=by
    rw [Array.toList_eraseIdxIfInBounds,Array.toList_setIfInBounds,e,← hP,List.set_append_right _ _ (Nat.le_refl _),List.eraseIdx_append_of_length_le (by omega)]
    simp
  refine h _ q' st' ⟨S2,hq2,?_,fun v hv=>?_⟩ ?_ fun j hj=>hfix j (by omega)
  · rw [e2,List.map_append,List.map_cons]
    refine Chain.append.mpr ⟨c,c1,c2,by dsimp only [pr]; omega,?_⟩
    dsimp only [pr]
    rw [show c+(na+nb)=c+na+nb by omega]
    exact c6
  · rw [e2,List.map_append,List.map_cons] at hv
    rcases List.mem_append.mp hv with hv | hv
    · have b:=l1.2 v hv
      intro x y hxy hy
      rw [hfix _ (by omega),hfix _ (by omega)]
      exact R.up v (by rw [e,List.map_append]; exact List.mem_append_left _ hv) x y hxy hy
    · rcases List.mem_cons.mp hv with rfl | hv
      · exact hso
      · have b:=l6.2 v hv
        intro x y hxy hy
        rw [hfix _ (by omega),hfix _ (by omega)]
        exact R.up v (by rw [e,List.map_append]; exact List.mem_append_right _ (List.mem_cons_of_mem _ (List.mem_cons_of_mem _ hv))) x y hxy hy
  · have h3:=congrArg List.length e2
    have h0:=congrArg List.length e
    rw [Array.length_toList] at h3 h0
    simp only [List.length_append,List.length_cons] at h3 h0
    omega
theorem mod_pr (p:Array (Nat × Nat × Nat)) (i g:Nat):(p.modify i fun x=>(x.1,x.2.1,g)).toList.map pr=p.toList.map pr:=by
  apply List.ext_getElem?
  intro k
  rw [List.getElem?_map,List.getElem?_map,Array.getElem?_toList,Array.getElem?_toList,Array.getElem?_modify]
  split
  · rw [Option.map_map]; rfl
  · rfl
theorem wruns {Q:Unit→SortSt→Prop} (hc:Cmp key N (kas_cmp prog w A κ it) s) (S:Ss κ it #[] q st) (hq:InN N q) (h2:2≤N)
    (h:∀ q' st',arrOf st'=q'.map (kas_item it)→failedOf st'=none→InN N q'→SortedN key q' N→Q () st'):wpS (model prog w) A E s sortRuns' Q st:=by
  have hsz:(arrOf st).size=N:=by rw [S.arr,Array.size_map,hq.size]
  rw [sortRuns'_eq]
  refine wpS_bind (wpS_get ?_)
  dsimp only
  rw [hsz]
  refine wpS_bind (wpS_mono (wpS_forRange
    (I:=fun (x:Nat) (c:Option Unit × Nat) (st':SortSt)=>c.1=none∧∃ pend' q',Rn key N κ it pend' q' st' c.2∧c.2≤N∧x≤c.2)
    (Q:=fun (c:Option Unit × Nat) (st':SortSt)=>c.1=none∧∃ pend' q',Rn key N κ it pend' q' st' N) ?step ?fin ⟨rfl,#[],q,⟨S,hq,rfl,fun t ht=>by cases ht⟩,Nat.zero_le _,Nat.zero_le _⟩) ?post)
  case fin =>
    rintro ⟨c0,lo⟩ st' ⟨e0,pend',q',R,b1,b2⟩
    dsimp only at *
    obtain rfl:lo=N:=by omega
    exact ⟨e0,pend',q',R⟩
  case step =>
    rintro x ⟨c0,lo⟩ st0 _ hx ⟨e0,pend0,q0,R0,b1,b2⟩
    dsimp only at *
    subst e0
    by_cases hlo:lo ≥ N
    · rw [if_pos hlo]
      obtain rfl:lo=N:=by omega
      exact wpS_pure ⟨rfl,pend0,q0,R0⟩
    rw [if_neg hlo]
    refine wpS_bind (wcountRun hc R0.S R0.hq (by omega) (by omega) fun m q2 st2 S2 hq2 hfix2 m1 m2 hm=>?_)
    dsimp only
    have keep:∀ {q2 q3:Array Nat} {hi:Nat},(∀ t∈pend0.toList.map pr,SortedR key q2 t.1 t.2)→Fix key lo hi q2 q3→∀ t∈pend0.toList.map pr,SortedR key q3 t.1 t.2:=fun {q2 q3 hi} hu hf t ht i j hij hj=>by
      have:=(Chain.le R0.ch).2 t ht
      rw [hf _ (by omega),hf _ (by omega)]
      exact hu t ht i j hij hj
    have u2:=keep R0.up hfix2
    by_cases hmr:m < minRun' N N 0
    · rw [if_pos hmr]
      refine wpS_bind (wpS_lift (wpAny_rule ⟨rfl,?_⟩))
      refine wpS_bind (wbinary hc S2 hq2 (by omega) m1 (by omega) hm fun q1 st1 S1 hq1 hfix1 hs1=>?_)
      rw [if_neg (by simp)]
      have R1:Rn key N κ it pend0 q1 st1 lo:=⟨S1,hq1,R0.ch,keep u2 hfix1⟩
      have hn1:1≤min (N - lo) (minRun' N N 0):=by omega
      have hn2:lo+min (N - lo) (minRun' N N 0)≤N:=by omega
      generalize min (N - lo) (minRun' N N 0)=n at hs1 hn1 hn2 ⊢
      generalize pend0=pend1 at R1
      refine wpS_bind (wpS_get ?_)
      rw [R1.S.pend]
      have fin:∀ pend2 q2 st2,Rn key N κ it pend2 q2 st2 lo→SortedR key q2 lo n→∃ pend' q',Rn key N κ it pend' q' (setPending st2 ((pendingOf st2).push (lo,n,0))) (lo+n):=fun pend2 q2 st2 R2 hs2=>by
        refine ⟨pend2.push (lo,n,0),q2,⟨R2.S.kind,R2.S.arr,by show (pendingOf st2).push _=_; rw [R2.S.pend],R2.S.failed⟩,R2.hq,?_,fun t ht=>?_⟩
        · rw [Array.toList_push,List.map_append]
          exact Chain.append.mpr ⟨lo,R2.ch,rfl,hn1,rfl⟩
        · rw [Array.toList_push,List.map_append] at ht
          rcases List.mem_append.mp ht with ht | ht
          · exact R2.up t ht
          · rw [List.mem_singleton.mp ht]; exact hs2
      cases hb:pend1.back? with
      | none =>
        dsimp only
        refine wpS_bind (wpS_modify (wpS_pure ?_))
        obtain ⟨pend',q',R'⟩:=fin pend1 q1 _ R1 hs1
        exact ⟨rfl,pend',q',R',by dsimp only; omega,by dsimp only; omega⟩
      | some t =>
        obtain ⟨s1,n1,p1⟩:=t
        dsimp only
        refine wpS_bind (wpS_mono (wpS_forRange
          (I:=fun (_:Nat) (c:Option Unit × PUnit) (st':SortSt)=>c.1=none∧∃ pend' q',Rn key N κ it pend' q' st' lo∧SortedR key q' lo n)
          (Q:=fun (c:Option Unit × PUnit) (st':SortSt)=>c.1=none∧∃ pend' q',Rn key N κ it pend' q' st' lo∧SortedR key q' lo n) ?_ (fun _ _ z=>z) ⟨rfl,pend1,q1,R1,hs1⟩) ?_)
        · rintro y ⟨c0,_⟩ st2 _ hy ⟨e0,pend2,q2,R2,hs2⟩
          dsimp only at *
          subst e0
          refine wpS_bind (wpS_get ?_)
          rw [R2.S.pend]
          by_cases h2z:pend2.size > 1
          · rw [if_pos h2z,getElem?_pos pend2 (pend2.size - 2) (by omega)]
            generalize pend2[pend2.size - 2]=t2
            obtain ⟨x1,x2,older⟩:=t2
            dsimp only
            split
            · exact wpS_pure ⟨rfl,pend2,q2,R2,hs2⟩
            · refine wpS_bind (wmergeRn hc R2 (by omega) (by omega) fun pend3 q3 st3 R3 _ hfix=>?_)
              rw [if_neg (by simp)]
              refine wpS_pure ⟨rfl,pend3,q3,R3,fun i j hij hj=>?_⟩
              rw [hfix _ (by omega),hfix _ (by omega)]
              exact hs2 i j hij hj
          · rw [if_neg h2z]
            exact wpS_pure ⟨rfl,pend2,q2,R2,hs2⟩
        · rintro ⟨c0,_⟩ st2 ⟨e0,pend2,q2,R2,hs2⟩
          dsimp only at *
          subst e0
          dsimp only
          refine wpS_bind (wpS_modify (wpS_bind (wpS_modify (wpS_pure ?_))))
          have R3:Rn key N κ it (pend2.modify (pend2.size - 1) fun x=>(x.1,x.2.1,power' N (2 * s1+n1) (2 * s1+n1+n1+n) N)) q2 (setPending st2 ((pendingOf st2).modify ((pendingOf st2).size - 1) fun x=>(x.1,x.2.1,power' N (2 * s1+n1) (2 * s1+n1+n1+n) N))) lo :=
            ⟨⟨R2.S.kind,R2.S.arr,by rw [R2.S.pend],R2.S.failed⟩,R2.hq,by rw [mod_pr]; exact R2.ch,by rw [mod_pr]; exact R2.up⟩
          obtain ⟨pend',q',R'⟩:=fin _ q2 _ R3 hs2
          exact ⟨rfl,pend',q',R',by dsimp only; omega,by dsimp only; omega⟩
    · rw [if_neg hmr]
      have R1:Rn key N κ it pend0 q2 st2 lo:=⟨S2,hq2,R0.ch,u2⟩
      have hn1:=m1
      have hn2:lo+m≤N:=by omega
      have hs1:=hm
      generalize m=n at hs1 hn1 hn2 ⊢
      generalize pend0=pend1 at R1
      generalize q2=q1 at R1 hs1
      refine wpS_bind (wpS_get ?_)
      rw [R1.S.pend]
      have fin:∀ pend2 q2 st2,Rn key N κ it pend2 q2 st2 lo→SortedR key q2 lo n→∃ pend' q',Rn key N κ it pend' q' (setPending st2 ((pendingOf st2).push (lo,n,0))) (lo+n):=fun pend2 q2 st2 R2 hs2=>by
        refine ⟨pend2.push (lo,n,0),q2,⟨R2.S.kind,R2.S.arr,by show (pendingOf st2).push _=_; rw [R2.S.pend],R2.S.failed⟩,R2.hq,?_,fun t ht=>?_⟩
        · rw [Array.toList_push,List.map_append]
          exact Chain.append.mpr ⟨lo,R2.ch,rfl,hn1,rfl⟩
        · rw [Array.toList_push,List.map_append] at ht
          rcases List.mem_append.mp ht with ht | ht
          · exact R2.up t ht
          · rw [List.mem_singleton.mp ht]; exact hs2
      cases hb:pend1.back? with
      | none =>
        dsimp only
        refine wpS_bind (wpS_modify (wpS_pure ?_))
        obtain ⟨pend',q',R'⟩:=fin pend1 q1 _ R1 hs1
        exact ⟨rfl,pend',q',R',by dsimp only; omega,by dsimp only; omega⟩
      | some t =>
        obtain ⟨s1,n1,p1⟩:=t
        dsimp only
        refine wpS_bind (wpS_mono (wpS_forRange
          (I:=fun (_:Nat) (c:Option Unit × PUnit) (st':SortSt)=>c.1=none∧∃ pend' q',Rn key N κ it pend' q' st' lo∧SortedR key q' lo n)
          (Q:=fun (c:Option Unit × PUnit) (st':SortSt)=>c.1=none∧∃ pend' q',Rn key N κ it pend' q' st' lo∧SortedR key q' lo n) ?_ (fun _ _ z=>z) ⟨rfl,pend1,q1,R1,hs1⟩) ?_)
        · rintro y ⟨c0,_⟩ st2 _ hy ⟨e0,pend2,q2,R2,hs2⟩
          dsimp only at *
          subst e0
          refine wpS_bind (wpS_get ?_)
          rw [R2.S.pend]
          by_cases h2z:pend2.size > 1
          · rw [if_pos h2z,getElem?_pos pend2 (pend2.size - 2) (by omega)]
            generalize pend2[pend2.size - 2]=t2
            obtain ⟨x1,x2,older⟩:=t2
            dsimp only
            split
            · exact wpS_pure ⟨rfl,pend2,q2,R2,hs2⟩
            · refine wpS_bind (wmergeRn hc R2 (by omega) (by omega) fun pend3 q3 st3 R3 _ hfix=>?_)
              rw [if_neg (by simp)]
              refine wpS_pure ⟨rfl,pend3,q3,R3,fun i j hij hj=>?_⟩
              rw [hfix _ (by omega),hfix _ (by omega)]
              exact hs2 i j hij hj
          · rw [if_neg h2z]
            exact wpS_pure ⟨rfl,pend2,q2,R2,hs2⟩
        · rintro ⟨c0,_⟩ st2 ⟨e0,pend2,q2,R2,hs2⟩
          dsimp only at *
          subst e0
          dsimp only
          refine wpS_bind (wpS_modify (wpS_bind (wpS_modify (wpS_pure ?_))))
          have R3:Rn key N κ it (pend2.modify (pend2.size - 1) fun x=>(x.1,x.2.1,power' N (2 * s1+n1) (2 * s1+n1+n1+n) N)) q2 (setPending st2 ((pendingOf st2).modify ((pendingOf st2).size - 1) fun x=>(x.1,x.2.1,power' N (2 * s1+n1) (2 * s1+n1+n1+n) N))) lo :=
            ⟨⟨R2.S.kind,R2.S.arr,by rw [R2.S.pend],R2.S.failed⟩,R2.hq,by rw [mod_pr]; exact R2.ch,by rw [mod_pr]; exact R2.up⟩
          obtain ⟨pend',q',R'⟩:=fin _ q2 _ R3 hs2
          exact ⟨rfl,pend',q',R',by dsimp only; omega,by dsimp only; omega⟩
  case post =>
    rintro ⟨c0,lo⟩ st0 ⟨e0,pend0,q0,R0⟩
    dsimp only at *
    subst e0
    dsimp only
    have hl0:pend0.size≤N:=by
      have:=(Chain.le R0.ch).1
      rw [List.length_map,Array.length_toList] at this
      omega
    refine wpS_bind (wpS_mono (wpS_forRange
      (I:=fun (x:Nat) (c:Option Unit × PUnit) (st':SortSt)=>c.1=none∧∃ pend' q',Rn key N κ it pend' q' st' N∧pend'.size+x≤N)
      (Q:=fun (c:Option Unit × PUnit) (st':SortSt)=>c.1=none∧∃ pend' q',Rn key N κ it pend' q' st' N∧pend'.size≤1) ?step3 ?fin3 ⟨rfl,pend0,q0,R0,by omega⟩) ?post3)
    case fin3 =>
      rintro ⟨c0,_⟩ st' ⟨e0,pend',q',R,b⟩
      exact ⟨e0,pend',q',R,by omega⟩
    case post3 =>
      rintro ⟨c0,_⟩ st' ⟨e0,pend',q',R,b⟩
      dsimp only at *
      subst e0
      dsimp only
      have hch:=R.ch
      have hup:=R.up
      obtain ⟨n0,e⟩:∃ n0,pend'.toList.map pr=[(0,n0)]∧n0=N:=by
        match hL:pend'.toList.map pr with
        | []=>rw [hL] at hch; have:0=N:=hch; omega
        | [(a,n0)] =>
          rw [hL] at hch
          obtain ⟨h3,h4,h5⟩:=hch
          have h3:a=0:=h3
          have h5:0+n0=N:=h5
          subst h3
          exact ⟨n0,rfl,by omega⟩
        | _ :: _ :: _ =>
          have:=congrArg List.length hL
          rw [List.length_map,Array.length_toList,List.length_cons,List.length_cons] at this
          omega
      obtain ⟨e,rfl⟩:=e
      refine wpS_pure (h q' st' R.S.arr R.S.failed R.hq fun i j hij hj=>?_)
      have:=hup (0,n0) (by rw [e]; exact .head _) i j hij hj
      rwa [Nat.zero_add,Nat.zero_add] at this
    case step3 =>
      rintro x ⟨c0,_⟩ st2 _ hx ⟨e0,pend2,q2,R2,b⟩
      dsimp only at *
      subst e0
      refine wpS_bind (wpS_get ?_)
      rw [R2.S.pend]
      by_cases h1:pend2.size≤1
      · rw [if_pos h1]
        exact wpS_pure ⟨rfl,pend2,q2,R2,h1⟩
      · rw [if_neg h1]
        have hi:∀ (c:Prop) [Decidable c],(if c then pend2.size - 2 - 1 else pend2.size - 2)+1 < pend2.size:=fun c _=>by split <;> omega
        refine wpS_bind (wmergeRn hc R2 (Nat.le_refl _) (hi _) fun pend3 q3 st3 R3 hsz3 _=>?_)
        rw [if_neg (by simp)]
        exact wpS_pure ⟨rfl,pend3,q3,R3,by omega⟩
end
end SO
set_option Elab.async false
set_option linter.all false
set_option maxRecDepth 100000
set_option maxHeartbeats 1000000
namespace SO
open PySem PySem.W PyProof.Rows
variable {O:KeyOrd} {key:Nat→O.α} {N:Nat}
section
variable {prog:Program} {w:World} {A:Around} {E:Value→Shared→Prop} {s:Shared}
theorem list_sortB {a:Addr} {vs:List Value} {n:Nat} {P:PySem.Fin→Shared→Prop} (key:Nat→O.α) (κ:SortKind) (ho:s.heap.get? a=some (seqObj "list" vs.toArray n)) (h64:vs.length≤100000)
    (hk:2≤vs.length→∀ h',(∀ b o,b≠a→s.heap.get? b=some o→h'.get? b=some o)→∀ (Q:SortKind→Shared→Prop),Q κ { s with heap:=h' }→wpAny (model prog w) A (keyKind' vs.toArray) Q E { s with heap:=h' })
    (hc:∀ h',(∀ b o,b≠a→s.heap.get? b=some o→h'.get? b=some o)→Cmp key vs.length (kas_ask prog w A κ vs) { s with heap:=h' })
    (h:∀ p,InN vs.length p→SortedN key p vs.length→P (.done (.ret .none)) { s with heap:=sortedHeap s.heap a vs (List.toArray (p.toList.map fun i=>vs.getD i Value.none)) }) :
    wpAny (model prog w) A (Builtin.«list.sort» ⟨[.ref a],[]⟩) P E s:=by
  rw [list_sort_plain]
  have ha:a < s.heap.objs.size:=Heap.lt_size ho
  refine wpAny_bind (listItems_at ho rfl ?_)
  refine wpAny_bind (listUpdate_at ho rfl ?_ (by rw [sizeLine_eq]; simp; omega))
  obtain ⟨e1,ho1⟩:∃ e1,(s.heap.update a (Obj.mapSeq fun _=>#[])).get? a=some (seqObj "list" #[] e1):=⟨_,get?_update_seq ho (fun _=>#[])⟩
  refine wpAny_bind (seqEpoch_at ho1 rfl ?_)
  refine wpAny_bind (wpAny_newTuple ?_ (by rw [sizeLine_eq]; simp; omega))
  refine wpAny_bind (wpAny_newList ?_)
  refine wpAny_holding ?_
  have keep:∀ b o,b≠a→s.heap.get? b=some o→(((s.heap.update a (Obj.mapSeq fun _=>#[])).push (seqObj "tuple" vs.toArray 0)).push (seqObj "list" #[] 0)).get? b=some o:=fun b o hb q=>by
    have hlt:b < s.heap.objs.size:=Heap.lt_size q
    rw [Heap.get?_push_ne _ _ _ (by rw [size_push',Heap.size_update]; exact Nat.ne_of_lt (Nat.lt_succ_of_lt hlt)),Heap.get?_push_ne _ _ _ (by rw [Heap.size_update]; exact Nat.ne_of_lt hlt),Heap.get?_update_ne _ _ _ _ hb]
    exact q
  have ho6:(((s.heap.update a (Obj.mapSeq fun _=>#[])).push (seqObj "tuple" vs.toArray 0)).push (seqObj "list" #[] 0)).get? a=some (seqObj "list" #[] e1):=by
    rw [Heap.get?_push_ne _ _ _ (by rw [size_push',Heap.size_update]; exact Nat.ne_of_lt (Nat.lt_succ_of_lt ha)),Heap.get?_push_ne _ _ _ (by rw [Heap.size_update]; exact Nat.ne_of_lt ha)]
    exact ho1
  show wpAny (model prog w) A _ P E { s with heap:=((s.heap.update a (Obj.mapSeq fun _=>#[])).push (seqObj "tuple" vs.toArray 0)).push (seqObj "list" #[] 0) }
  dsimp only
  have hsz:vs.toArray.size=vs.length:=by simp
  by_cases h2:vs.toArray.size < 2
  · rw [if_pos h2,if_pos h2]
    refine wpAny_bind (wpAny_pure ?_)
    rw [StateT.run_pure]
    refine wpAny_bind (wpAny_pure ?_)
    dsimp only
    refine wpAny_bind (seqEpoch_at ho6 rfl ?_)
    have e:((arrOf (SortSt.mk' general' (vs.toArray.zip vs.toArray) #[] 7 none)).map (·.2))=List.toArray ((List.range vs.length).toArray.toList.map fun i=>vs.getD i Value.none):=by
      show (vs.toArray.zip vs.toArray).map (·.2)=_
      apply Array.toList_inj.mp
      apply List.ext_getElem
      · simp
      · intro i h1 h2'
        simp at h1 h2' ⊢
        simp [h1]
    rw [e]
    refine wpAny_bind (listUpdate_at ho6 rfl ?_ (hsz2:=by rw [sizeLine_eq]; simp; omega))
    simp only [bne_self_eq_false,Bool.false_eq_true,if_false]
    refine wpAny_pure (h _ (show InN vs.length (List.range vs.length).toArray from List.Perm.refl _) ?_)
    intro i j hij hj
    have:i=j:=by omega
    subst this; exact KeyOrd.kle_refl _
  · rw [if_neg h2,if_neg h2]
    refine wpAny_bind (hk (by omega) _ keep _ ?_)
    have hN:(vs.toArray.zip vs.toArray).size=vs.length:=by simp
    refine wpAny_bind (wpAny_mono (wruns (key:=key) (κ:=κ) (it:=vs.toArray.zip vs.toArray) (N:=vs.length) (q:=(List.range vs.length).toArray) (Q:=fun _ st'=>∃ p:Array Nat,arrOf st'=p.map (kas_item (vs.toArray.zip vs.toArray))∧failedOf st'=none∧InN vs.length p∧SortedN key p vs.length)
      (by have:=hc _ keep; rw [kas_ask_eq] at this; exact this) ⟨rfl,?_,rfl,rfl⟩ (show InN vs.length (List.range vs.length).toArray from List.Perm.refl _) (by omega) fun p st' a b c d=>⟨p,a,b,c,d⟩) ?_ fun _ _ x=>x)
    · show vs.toArray.zip vs.toArray=_
      have:=kas_range (vs.toArray.zip vs.toArray)
      rw [hN] at this
      exact this.symm
    rintro ⟨⟨⟩,st'⟩ s' ⟨rfl,p,har,hf,hi,hso⟩
    dsimp only
    have hpl:p.size≤100000:=by rw [hi.size]; omega
    refine wpAny_bind (seqEpoch_at ho6 rfl ?_)
    rw [kat_snds rfl har]
    refine wpAny_bind (listUpdate_at ho6 rfl ?_ (hsz2:=by rw [sizeLine_eq]; simp; omega))
    rw [hf]
    simp only [bne_self_eq_false,Bool.false_eq_true,if_false]
    exact wpAny_pure (h p hi hso)
theorem sorted_ofB {v:Value} {vs:List Value} {g:Heap} {Q:Value→Shared→Prop} (key:Nat→O.α) (κ:SortKind) (h64:vs.length≤100000) (kg:Keeps s.heap g)
    (hcol:∀ (Q:List Value→Shared→Prop),Q vs { s with heap:=g }→wpAny (model prog w) A.in1 (collect v) Q E { s with heap:=s.heap })
    (hk:2≤vs.length→∀ h',Keeps s.heap h'→∀ (E:Value→Shared→Prop) (Q:SortKind→Shared→Prop),Q κ { s with heap:=h' }→wpAny (model prog w) A.in1.in1 (keyKind' vs.toArray) Q E { s with heap:=h' })
    (hc:∀ h',Keeps s.heap h'→Cmp key vs.length (kas_ask prog w A.in1.in1 κ vs) { s with heap:=h' })
    (h:∀ (g':Heap) (p:Array Nat),Keeps s.heap g'→InN vs.length p→SortedN key p vs.length→(∃ n,g'.get? g.objs.size=some (seqObj "list" (List.toArray (p.toList.map fun i=>vs.getD i Value.none)) n))→Q (.ref g.objs.size) { s with heap:=g' }) :
    wpAny (model prog w) A (call (.builtin "sorted") [v]) Q E s:=by
  refine Calls.call_function_entry kind_sorted plain_sorted entry_sorted (args_sorted1 _) ?_
  unfold Builtin.«sorted»
  refine wpAny_bind (m:=checkCount "sorted" 1 1 _) (wpAny_pure ?_)
  refine wpAny_bind (hcol _ ?_)
  refine wpAny_bind (wpAny_newList ?_ (by rw [sizeLine_eq]; omega))
  have hoL:(g.push (seqObj "list" vs.toArray 0)).get? g.objs.size=some (seqObj "list" vs.toArray 0):=Heap.get?_push_size _ rfl
  have keep:∀ h',(∀ b o,b≠g.objs.size→(g.push (seqObj "list" vs.toArray 0)).get? b=some o→h'.get? b=some o)→Keeps s.heap h':=fun h' k b o q=>by
    have q':=kg b o q
    exact k b o (Nat.ne_of_lt (Heap.lt_size q')) (Heap.get?_push_of_some _ q')
  show wpAny _ _ _ _ _ { s with heap:=g.push (seqObj "list" vs.toArray 0) }
  refine wpAny_bind (wpAny_holding (wpAny_call_entry slot_list_sort ⟨_,hoL,rfl⟩ entry_list_sort (list_sortB key κ hoL h64 (fun z h' k Q q=>hk z h' (keep h' k) _ Q q) (fun h' k=>hc h' (keep h' k)) fun p a1 a2=>⟨_,rfl,?_⟩) (args_list_sort _)))
  refine wpAny_pure ⟨_,rfl,h _ p (keep _ fun b o hb q=>?_) a1 a2 ?_⟩
  · unfold sortedHeap
    have hlt:b < (g.push (seqObj "list" vs.toArray 0)).objs.size:=Heap.lt_size q
    rw [Heap.get?_update_ne _ _ _ _ hb,Heap.get?_push_ne _ _ _ (by rw [size_push',Heap.size_update]; exact Nat.ne_of_lt (Nat.lt_succ_of_lt hlt)),Heap.get?_push_ne _ _ _ (by rw [Heap.size_update]; exact Nat.ne_of_lt hlt),Heap.get?_update_ne _ _ _ _ hb]
    exact q
  · unfold sortedHeap
    have ha:g.objs.size < (g.push (seqObj "list" vs.toArray 0)).objs.size:=Heap.lt_size hoL
    obtain ⟨e1,ho1⟩:∃ e1,((g.push (seqObj "list" vs.toArray 0)).update g.objs.size (Obj.mapSeq fun _=>#[])).get? g.objs.size=some (seqObj "list" #[] e1):=⟨_,get?_update_seq hoL (fun _=>#[])⟩
    have ho6:((((g.push (seqObj "list" vs.toArray 0)).update g.objs.size (Obj.mapSeq fun _=>#[])).push (seqObj "tuple" vs.toArray 0)).push (seqObj "list" #[] 0)).get? g.objs.size=some (seqObj "list" #[] e1):=by
      rw [Heap.get?_push_ne _ _ _ (by rw [size_push',Heap.size_update]; exact Nat.ne_of_lt (Nat.lt_succ_of_lt ha)),Heap.get?_push_ne _ _ _ (by rw [Heap.size_update]; exact Nat.ne_of_lt ha)]
      exact ho1
    exact ⟨_,get?_update_seq ho6 _⟩
end
end SO
set_option Elab.async false
set_option linter.all false
set_option maxRecDepth 100000
namespace L2
open PySem PySem.W PyProof.Rows
section
variable {prog:Program} {w:World} {A:Around} {E:Value→Shared→Prop} {s:Shared}
variable {X:Cx} {pins:List (Addr × Obj)} {σ:St} {H:Hp} {s:Shared}
def rSortDB (K:PySem.W.Frag):List V→Hp→VK→Prop:=fun xs H Q=>∃ (p:Addr) (vs:List V) (ds:List D),xs=[.ref p]∧(SqL K H p vs∨SqT K H p vs)∧DenL H vs ds∧Hom ds∧ds.length≤100000∧(∀ d∈ds,Shal 50 d) ∧
  ∀ (l:Addr) (us:List V) (ds':List D),H l=none→ds'.Perm ds→UpD ds'→DenL H us ds'→Q (.ref l) (upd H l (.lst us))
theorem sortD_withB {E:Value→Shared→Prop} (I:Inv X pins σ H s) {a:Addr} {c:String} {o:Obj} {n:Nat} {vs:List V} {ds:List D} {its:List Value} {Q:VK} (κ:SortKind) (ho:s.heap.get? a=some o) (hc:o.cls=.type c) (hcc:c = "list"∨c = "tuple") (hd:o.data=.seq its.toArray n)
    (hD:DenL H vs ds) (r:Vals vs its) (h64:ds.length≤100000)
    (hk:2≤its.length→∀ h',SO.Keeps s.heap h'→∀ (E:Value→Shared→Prop) (Q:SortKind→Shared→Prop),Q κ { s with heap:=h' }→wpAny (model X.prog X.w) X.A.in1.in1 (keyKind' its.toArray) Q E { s with heap:=h' })
    (hcm:∀ h',SO.Keeps s.heap h'→SO.Cmp (O:=ordD) (fun i=>ds.getD i .non) its.length (PySem.W.kas_ask X.prog X.w X.A.in1.in1 κ its) { s with heap:=h' })
    (q:∀ (l:Addr) (us:List V) (ds':List D),H l=none→ds'.Perm ds→UpD ds'→DenL H us ds'→Q (.ref l) (upd H l (.lst us))):wpAny (model X.prog X.w) X.A (call (.builtin "sorted") [.ref a]) (EP X pins σ Q) E s:=by
  have l1:=hD.len
  have l2:=r.length
  have kg:SO.Keeps s.heap ((s.heap.push (seqObj "list" #[] 0)).update s.heap.objs.size (Obj.mapSeq (· ++ its.toArray))):=fun b u e=>by
    rw [Heap.get?_update_ne _ _ _ _ (Nat.ne_of_lt (Heap.lt_size e))]
    exact Heap.get?_push_of_some _ e
  refine SO.sorted_ofB (O:=ordD) (vs:=its) (fun i=>ds.getD i .non) κ (by omega) kg (fun Q q=>SO.collect_seq ho hc hcc hd q (by rw [sizeLine_eq]; omega)) hk hcm fun g' p kp hp hs hob=>?_
  obtain ⟨m,hob⟩:=hob
  have hlt:∀ i∈p.toList,i < its.length:=fun i hi=>List.mem_range.mp (hp.mem_iff.mp hi)
  have hsz:s.heap.objs.size≤((s.heap.push (seqObj "list" #[] 0)).update s.heap.objs.size (Obj.mapSeq (· ++ its.toArray))).objs.size:=by
    rw [Heap.size_update,size_push']
    exact Nat.le_succ _
  have hps:p.toList.length=its.length:=by simpa using hp.length_eq
  have hU:=vals_map r p.toList fun i hi=>by rw [l2]; exact hlt i hi
  refine ⟨.ref _,_,I.laid (t':=s.toks) (o:=.lst (p.toList.map fun i=>vs.getD i .non)) kp hsz ⟨?_,_,m,hU,hob⟩,rfl,q _ _ (p.toList.map fun i=>ds.getD i .non) (I.hok.fresh hsz) ?_ ?_ (denL_map hD _ fun i hi=>by have:=hlt i hi; omega)⟩
  · rw [List.length_map,sizeLine_eq]
    omega
  · have e:(List.range its.length).map (fun i=>ds.getD i .non)=ds:=by
      apply List.ext_getElem
      · simp; omega
      · intro i h1 h2
        simp [List.getD_eq_getElem?_getD,h2]
    have:=hp.map fun i=>ds.getD i D.non
    rw [e] at this
    exact this
  · unfold UpD
    rw [List.pairwise_iff_getElem]
    intro i j hi hj hij
    have h:=hs i j (Nat.le_of_lt hij) (by simpa [hps] using hj)
    have e:∀ k (hk:k < p.toList.length),SO.KN (O:=ordD) (fun i=>ds.getD i .non) p k=(p.toList.map fun i=>ds.getD i D.non)[k]'(by rw [List.length_map]; exact hk):=by
      intro k hk
      have hk':k < p.size:=by simpa using hk
      unfold SO.KN
      rw [List.getElem_map]
      congr 1
      simp [Array.getD,hk']
    rw [e i (by simpa using hi),e j (by simpa using hj)] at h
    exact h
theorem call_sortedDB (hu:X.A.units+64 < cLine):CallR X (.builtin "sorted") (rSortDB X.K):=by
  intro pins s σ H xs us Q I r h
  obtain ⟨a,vs,ds,rfl,hp,hD,hom,h64,hsh,q⟩:=h
  obtain ⟨u,rfl,rx⟩:=vals1 r
  cases rx
  obtain ⟨its,rv,c,o,n,hcc,ho,hc,hd⟩:∃ its:List Value,Vals vs its∧∃ (c:String) (o:Obj) (n:Nat),(c = "list"∨c = "tuple")∧s.heap.get? a=some o∧o.cls=.type c∧o.data=.seq its.toArray n:=by
    rcases hp with hp | hp
    · obtain ⟨its,rv,pl,_⟩:=I.list hp
      obtain ⟨o,ho,hc,n,hd⟩:=pl.isList
      exact ⟨its,rv, "list",o,n,.inl rfl,ho,hc,hd⟩
    · obtain ⟨its,rv,⟨o,ho,hc,n,hd⟩,_⟩:=I.tuple hp
      exact ⟨its,rv, "tuple",o,n,.inr rfl,ho,hc,hd⟩
  have l1:=hD.len
  have l2:=rv.length
  have one:(∀ d∈ds,∀ xs,d≠.tup xs)→∀ T,(T != Value.type "tuple")=true→(T == T)=true→(∀ d∈ds,tyD d=T)→wpAny (model X.prog X.w) X.A (call (.builtin "sorted") [.ref a]) (EP X pins σ Q) X.xe s:=by
    intro nt T hT1 hT2 hT
    refine sortD_withB I oneType' ho hc hcc hd hD rv h64 (fun h2 h' kp E Q q=>?_) (fun h' kp i j C hi hj q=>?_) q
    · refine PySem.W.kas_kind h2 (T:=T) (fun v hv=>?_) hT1 hT2 q
      obtain ⟨i,hi,rfl⟩:=List.mem_iff_getElem.mp hv
      obtain ⟨x,v,e1,e2,e3,e4,e5,e6⟩:=at3 (i:=i) hD rv (by omega)
      rw [List.getElem?_eq_getElem hi] at e2
      cases e2
      rw [← hT _ e6]
      exact looks_ty I kp (hom.1 _ e6 _ e6) e4 e5
    · obtain ⟨x,v,e1,e2,e3,e4,e5,e6⟩:=at3 (i:=i) hD rv (by omega)
      obtain ⟨y,u,f1,f2,f3,f4,f5,f6⟩:=at3 (i:=j) hD rv (by omega)
      unfold PySem.W.kas_ask
      rw [e3,f3,keyLt'_oneType]
      exact one_true (hom.1 _ e6 _ f6) e4 f4 e5 f5 (nt _ e6) _ _ q
  rcases hom.2 with hi | hi | hi
  · exact one (fun d hd xs e=>by obtain ⟨i,z⟩:=hi d hd; rw [z] at e; cases e) (.type "int") (by decide) (by rfl) (fun d hd=>by obtain ⟨i,z⟩:=hi d hd; rw [z]; rfl)
  · exact one (fun d hd xs e=>by obtain ⟨i,z⟩:=hi d hd; rw [z] at e; cases e) (.type "str") (by decide) (by rfl) (fun d hd=>by obtain ⟨i,z⟩:=hi d hd; rw [z]; rfl)
  · obtain ⟨T,hT2,hT⟩:∃ T:Value,(T == T)=true∧∀ d r,D.tup (d :: r)∈ds→tyD d=T∧Sim d d:=by
      cases hds:ds with
      | nil=>exact ⟨.type "int",by rfl,fun d r z=>by cases z⟩
      | cons d0 ds0 =>
        obtain ⟨e0,r0,rfl⟩:=hi d0 (by rw [hds]; exact .head _)
        refine ⟨tyD e0,tyD_self e0,fun d r z=>?_⟩
        have s1:=hom.1 _ (show D.tup (d :: r)∈ds by rw [hds]; exact z) (.tup (e0 :: r0)) (by rw [hds]; exact .head _)
        have s2:=hom.1 _ (show D.tup (d :: r)∈ds by rw [hds]; exact z) (.tup (d :: r)) (by rw [hds]; exact z)
        replace s1:=SimL_c' (Sim_t' s1)
        replace s2:=SimL_c' (Sim_t' s2)
        exact ⟨tyD_sim s1.1,s2.1⟩
    refine sortD_withB I (tuples' (T != Value.type "tuple")) ho hc hcc hd hD rv h64 (fun h2 h' kp E Q q=>?_) (fun h' kp i j C hi' hj q=>?_) q
    · obtain ⟨fs,k,l,m⟩:=kat_tups I kp hD rv hi
      refine PySem.W.kat_kind k (by omega) (T:=T) (fun v hv=>?_) hT2 q
      obtain ⟨x,d,r,z1,z2,z3⟩:=m v hv
      obtain ⟨t1,t2⟩:=hT d r z3
      rw [← t1]
      exact looks_ty I kp t2 z1 z2
    · obtain ⟨x,v,e1,e2,e3,e4,e5,e6⟩:=at3 (i:=i) hD rv (by omega)
      obtain ⟨y,u,f1,f2,f3,f4,f5,f6⟩:=at3 (i:=j) hD rv (by omega)
      unfold PySem.W.kas_ask
      rw [e3,f3]
      have hq:C (dlt (ds.getD i .non) (ds.getD j .non)) { s with heap:=h' }:=q
      obtain ⟨d1,r1,E1⟩:=hi _ e6
      obtain ⟨d2,r2,E2⟩:=hi _ f6
      have sh1:=hsh _ e6
      have sh2:=hsh _ f6
      have sm:=hom.1 _ e6 _ f6
      rw [E1] at e4 e6 hq sh1 sm
      rw [E2] at f4 f6 hq sh2 sm
      obtain ⟨a1,w1,rfl,ha1,hda1⟩:=den_tup e4
      obtain ⟨a2,w2,rfl,ha2,hda2⟩:=den_tup f4
      cases e5
      cases f5
      obtain ⟨its1,v1,⟨o1,eo1,ec1,n1,ed1⟩,_⟩:=I.tuple (SqT.of (K:=X.K) ha1)
      obtain ⟨its2,v2,⟨o2,eo2,ec2,n2,ed2⟩,_⟩:=I.tuple (SqT.of (K:=X.K) ha2)
      have k1:=hda1.len
      have k2:=hda2.len
      have k3:=v1.length
      have k4:=v2.length
      replace sm:=Sim_t' sm
      have cm:=cmpD I (s':={ s with heap:=h' }) kp 49
      have each:∀ (k:Nat) (p q:Value),(its1.zip its2)[k]?=some (p,q)→∃ (x y:V),Den H x ((d1 :: r1).getD k .non)∧Den H y ((d2 :: r2).getD k .non)∧RelV x p∧RelV y q∧Sim ((d1 :: r1).getD k .non) ((d2 :: r2).getD k .non)∧Shal 49 ((d1 :: r1).getD k .non)∧Shal 49 ((d2 :: r2).getD k .non):=by
        intro k p q hz
        rw [List.getElem?_zip_eq_some] at hz
        have b1:k < its1.length:=(List.getElem?_eq_some_iff.mp hz.1).1
        have b2:k < its2.length:=(List.getElem?_eq_some_iff.mp hz.2).1
        obtain ⟨x1,p1,_,g1,_,g2,g3,g4⟩:=at3 (i:=k) hda1 v1 (by omega)
        obtain ⟨x2,p2,_,g1',_,g2',g3',g4'⟩:=at3 (i:=k) hda2 v2 (by omega)
        rw [hz.1] at g1
        rw [hz.2] at g1'
        cases g1
        cases g1'
        refine ⟨x1,x2,g2,g2',g3,g3',sm.at_ (i:=k) ?_ ?_,(sh1.2 _ rfl).2 _ g4,(sh2.2 _ rfl).2 _ g4'⟩
        · rw [List.getD_eq_getElem?_getD,List.getElem?_eq_getElem (by omega)]; rfl
        · rw [List.getD_eq_getElem?_getD,List.getElem?_eq_getElem (by omega)]; rfl
      refine PySem.W.kat_lt (kp _ _ eo1) ed1 (kp _ _ eo2) ed2 (SO.katlex (e:=fun k=>eqD ((d1 :: r1).getD k .non) ((d2 :: r2).getD k .non)) (f:=fun k=>dlt ((d1 :: r1).getD k .non) ((d2 :: r2).getD k .non)) _ 0 (fun k p q z=>?_) (fun k p q z _ Q E hq=>?_) ?_)
      · obtain ⟨x,y,h1,h2,h3,h4,h5,h6,h7⟩:=each k p q z
        rw [Nat.zero_add]
        exact (cm _ _ _ _ _ _ _ h6 h7 h5 h1 h2 h3 h4 (by simp only [Around.in1]; omega)).1
      · obtain ⟨x,y,h1,h2,h3,h4,h5,h6,h7⟩:=each k p q z
        rw [Nat.zero_add] at hq ⊢
        have lt:=(cm _ _ X.A.in1.in1 _ _ _ _ h6 h7 h5 h1 h2 h3 h4 (by simp only [Around.in1]; omega)).2
        cases hb:(T != Value.type "tuple") && k == 0 with
        | false=>exact one_false lt Q E hq
        | true =>
          rw [Bool.and_eq_true,beq_iff_eq] at hb
          obtain ⟨hb,rfl⟩:=hb
          have t1:=hT d1 r1 e6
          exact one_true h5 h1 h2 h3 h4 (show ∀ ds,d1≠.tup ds from tyD_tup t1.2 (by rw [t1.1]; exact hb)) Q E hq
      · have hl:=lexR_dlt (d1 :: r1) (d2 :: r2)
        have e:List.range' 0 (its1.toArray.toList.zip its2.toArray.toList).length=List.range (min (d1 :: r1).length (d2 :: r2).length):=by
          rw [List.range_eq_range']
          congr 1
          simp only [List.length_zip]
          omega
        have ef:decide (its1.toArray.size < its2.toArray.size)=decide ((d1 :: r1).length < (d2 :: r2).length):=by
          rw [show its1.toArray.size=(d1 :: r1).length by simp at k1 k3 ⊢; omega,show its2.toArray.size=(d2 :: r2).length by simp at k2 k4 ⊢; omega]
        rw [e,ef,hl]
        rw [dlt_tt] at hq
        exact hq
end
end L2
set_option Elab.async false
set_option linter.all false
set_option maxRecDepth 100000
set_option maxHeartbeats 4000000
namespace L2
open PySem PySem.Spec PyProof.Rows
def GoodV (H:Hp):V→Prop
  | .str x=>x.length≤1000
  | .non=>True
  | .bl _=>True
  | .int _=>True
  | .ref p=>(∃ xs,H p=some (.lst xs))∨(∃ xs,H p=some (.tup xs))∨∃ kvs,H p=some (.dK kvs)
  | _=>False
theorem GoodV.same {H H':Hp} (s:Same H H'):∀ {v:V},GoodV H v→GoodV H' v
  | .str _,h=>h
  | .non,h=>h
  | .bl _,h=>h
  | .int _,h=>h
  | .ref p,h=>by
    rcases h with ⟨xs,e⟩ | ⟨xs,e⟩ | ⟨xs,e⟩
    · exact .inl ⟨xs,s _ _ e⟩
    · exact .inr (.inl ⟨xs,s _ _ e⟩)
    · exact .inr (.inr ⟨xs,s _ _ e⟩)
  | .byt _,h=>h.elim
  | .flt _,h=>h.elim
  | .ty _,h=>h.elim
theorem GoodV.lst {H:Hp} {l:Addr} {ys:List V}:∀ {v:V},GoodV H v→∀ H':Hp,H' l=some (.lst ys)→(∀ c o,H c=some o→c≠l→H' c=some o)→GoodV H' v
  | .str _,h,_,_,_=>h
  | .non,h,_,_,_=>h
  | .bl _,h,_,_,_=>h
  | .int _,h,_,_,_=>h
  | .ref p,h,H',e,s=>by
    by_cases hp:p=l
    · subst hp
      exact .inl ⟨ys,e⟩
    · rcases h with ⟨xs,e⟩ | ⟨xs,e⟩ | ⟨xs,e⟩
      · exact .inl ⟨xs,s _ _ e hp⟩
      · exact .inr (.inl ⟨xs,s _ _ e hp⟩)
      · exact .inr (.inr ⟨xs,s _ _ e hp⟩)
  | .byt _,h,_,_,_=>h.elim
  | .flt _,h,_,_,_=>h.elim
  | .ty _,h,_,_,_=>h.elim
theorem GoodV.pot {H H':Hp} {p:Addr} {v:V} (h:GoodV H v) (P:Pot H p H'):GoodV H' v:=by
  obtain ⟨a,b,e⟩:=P.at_
  exact h.lst H' e P.old
theorem GoodV.upd {H:Hp} {l:Addr} {ys:List V} {v:V} (h:GoodV H v):GoodV (upd H l (.lst ys)) v:=h.lst _ upd_same fun c o e n=>(upd_ne n).trans e
end L2
namespace L2
open PySem PySem.Spec PyProof.Rows
def notStar:Expr→Bool
  | .Starred ..=>false
  | _=>true
theorem star_cons {e:Expr} {es:List Expr} {env:Env} (h:notStar e=true):starEach (e :: es) env=(false,eval e env) :: starEach es env:=by
  cases e <;> first | rfl | cases h
theorem pa_c {X:Cx} {e:Expr} {es:List Expr} {te:TE} {t:TA} (ha:PE X e te) (hr:PA X es t) (h:notStar e=true:=by rfl):PA X (e :: es) (tCons te t):=pa_cons ha hr (star_cons h)
structure QSs (X:Cx) (st:List Stmt) (t:TS):Prop where
  h:PSs X st t
structure QS (X:Cx) (st:Stmt) (t:TS):Prop where
  h:PS X st t
structure QE (X:Cx) (e:Expr) (t:TE):Prop where
  h:PE X e t
structure QA (X:Cx) (es:List Expr) (t:TA):Prop where
  h:PA X es t
theorem qss_cons {X:Cx} {st:Stmt} {rest:List Stmt} {t u:TS} (h1:QS X st t) (h2:QSs X rest u):QSs X (st :: rest) (tSeq t u):=⟨pss_cons h1.h h2.h⟩
theorem qs_set {X:Cx} {i:Nat} {x:Str} {e:Expr} {te:TE} {pos pos':Pos} (hN:X.N.Nodup) (hi:X.N[i]?=some x) (hx:Loc X.env.scope x) (he:QE X e te) (hs:swapsWith e (some (.Name x pos')) pos.line X.env=pure false:=by rfl)
    (hf:X.fn x=true∨X.env.scope.names.lookup x=some .local:=by first | exact .inl rfl | exact .inr rfl):QS X (.Assign [.Name x pos'] e pos) (tAsg te (gName i)):=⟨ps_set hN hi hx he.h hs hf⟩
theorem qe_lst {X:Cx} {es:List Expr} {t:TA} {pos:Pos} (h:QA X es t):QE X (.List es pos) (tLst t):=⟨pe_lst h.h⟩
theorem qa_nil {X:Cx}:QA X [] tNil:=⟨pa_nil⟩
theorem qa_c {X:Cx} {e:Expr} {es:List Expr} {te:TE} {t:TA} (ha:QE X e te) (hr:QA X es t) (h:notStar e=true:=by rfl):QA X (e :: es) (tCons te t):=⟨pa_c ha.h hr.h h⟩
end L2
set_option Elab.async false
set_option linter.all false
set_option maxRecDepth 100000
namespace L2
open PySem PySem.Spec PyProof.Rows
structure QI (X:Cx) (tg e:Expr) (t:TI):Prop where
  h:PI X tg e t
theorem qss_one {X:Cx} {st:Stmt} {t:TS} (h1:QS X st t):QSs X [st] t:=⟨pss_one h1.h⟩
theorem qi_list {X:Cx} {tg l:Expr} {tl:TE} (hl:QE X l tl):QI X tg l (iList X.K tl):=⟨pi_list hl.h⟩
theorem qs_for {X:Cx} {tg iter:Expr} {body:List Stmt} {wi:TI} {g:TG} {tb:TS} {pos:Pos} (hp:PassesOwn (model X.prog X.w) X.A X.env X.xe) (hc:X.calm=true) (hi:QI X tg iter wi) (hg:PG X tg g) (hb:QSs X body tb)
    (hs:∀ x,foldedSetIterable iter X.env x=pure x:=by intro _; rfl):QS X (.For tg iter body [] pos) (tFor wi g tb):=⟨ps_for hp hc hi.h hg hb.h hs⟩
theorem qe_cal {X:Cx} {x:Str} {k n:Nat} {ps:List Str} {sp:Sp} {e:Expr} {es:List Expr} {t:TA} {p pos:Pos} (C:Cal X.prog X.w X.K X.mg X.base x k ps sp) (hr:Room n X.A) (hk:k≤n) (hg:Gl X x) (ha:QA X (e :: es) t)
    (hdb:(x == ("__debug__" : Str))=false:=by decide) (he:starEach (e :: es) X.env=(false,eval e X.env) :: starEach es X.env:=by rfl) (hpl:(backTo pos (starEach es X.env)).any (·.1)=false:=by rfl) :
    QE X (.Call (.Name x p) (e :: es) [] pos) (tCall sp [] E0 t):=⟨pe_cal C hr hk hg ha.h hdb he hpl⟩
theorem qe_op {X:Cx} {a b:Expr} {ta tb:TE} {pos:Pos} {op:Operator} {r:R2} (ho:OpR X (binaryOp op) r) (ha:QE X a ta) (hb:QE X b tb):QE X (.BinOp a op b pos) (tOp r ta tb):=⟨pe_op ho ha.h hb.h⟩
theorem qs_asg {X:Cx} {tg e:Expr} {te:TE} {g:TG} {pos:Pos} (he:QE X e te) (hg:PG X tg g) (hs:swapsWithSole [tg] e pos.line X.env=pure false:=by rfl) (hw:swappedStores [tg] e X.env=pure none:=by rfl)
    (h1:(assignEach [tg] X.env).map (·.2)=[assign tg X.env]:=by rfl):QS X (.Assign [tg] e pos) (tAsg te g):=⟨ps_asg he.h hg hs hw h1⟩
theorem qe_ix {X:Cx} {r:R2} {a b:Expr} {ta tb:TE} {pos:Pos} (hr:IxR X r) (ha:QE X a ta) (hb:QE X b tb) (hs:PlainIx b):QE X (.Subscript a b pos) (tOp r ta tb):=⟨pe_ix hr ha.h hb.h hs⟩
theorem qex {X:Cx} {st:List Stmt} {A:TS→Prop} (h:∃ t,QSs X st t∧A t):∃ t,PSs X st t∧A t:=by
  obtain ⟨t,a,b⟩:=h
  exact ⟨t,a.h,b⟩
end L2
set_option linter.all false
namespace M01
open PySem
structure WInv (n:Nat) (q:S):Prop where
  a:∀ r∈q.1,r.length≤n∧∀ c∈r,isW c=true
  b:q.2.length≤n
  c:∀ c∈q.2,isW c=true
theorem WInv.stp {n:Nat} {q:S} (h:WInv n q) (c:Nat):WInv (n+1) (stp q c):=by
  unfold M01.stp
  split
  · rename_i hc
    refine ⟨fun r hr=>⟨Nat.le_succ_of_le (h.a r hr).1,(h.a r hr).2⟩,?_,?_⟩
    · have:=h.b
      simp only [List.length_append,List.length_cons,List.length_nil]
      omega
    · intro d hd
      rcases List.mem_append.mp hd with z | z
      · exact h.c d z
      · have:d=c:=by simpa using z
        rw [this]; exact hc
  · split
    · exact ⟨fun r hr=>⟨Nat.le_succ_of_le (h.a r hr).1,(h.a r hr).2⟩,Nat.le_succ_of_le h.b,h.c⟩
    · refine ⟨fun r hr=>?_,Nat.zero_le _,fun d hd=>by cases hd⟩
      rcases List.mem_append.mp hr with z | z
      · exact ⟨Nat.le_succ_of_le (h.a r z).1,(h.a r z).2⟩
      · have:r=q.2:=by simpa using z
        rw [this]; exact ⟨Nat.le_succ_of_le h.b,h.c⟩
theorem WInv.fold:∀ (l:List Nat) {n:Nat} {q:S},WInv n q→WInv (n+l.length) (l.foldl M01.stp q)
  | [],_,_,h=>h
  | c :: l,n,q,h=>by
    have:=WInv.fold l (h.stp c)
    rw [List.length_cons,show n+(l.length+1)=n+1+l.length by omega]
    exact this
theorem wds_mem {l:List Nat} {r:List Nat} (h:r∈wds l):r.length≤l.length∧∀ c∈r,isW c=true:=by
  have w:WInv (0+l.length) (scn l):=WInv.fold l ⟨fun r hr=>(by cases hr),Nat.le_refl _,fun c hc=>by cases hc⟩
  rw [Nat.zero_add] at w
  unfold wds fn at h
  split at h
  · exact w.a r h
  · rcases List.mem_append.mp h with z | z
    · exact w.a r z
    · have:r=(scn l).2:=by simpa using z
      rw [this]; exact ⟨w.b,w.c⟩
theorem isW_lt {c:Nat} (h:isW c=true):c < 128:=by
  unfold isW at h
  simp only [Bool.or_eq_true,decide_eq_true_eq] at h
  omega
end M01
set_option Elab.async false
set_option linter.all false
set_option maxRecDepth 100000
set_option maxHeartbeats 4000000
namespace Mine
open PySem L2 PyProof.Rows
def top (i:Nat):Stmt:=PySem.Challenge.pw_twainkeep_k64_fits.main.body.getD i (.Pass ⟨0,0,0,0⟩)
abbrev sPartOf:Stmt:=top 4
abbrev sTextOf:Stmt:=top 5
abbrev sStateInLink:Stmt:=top 7
abbrev sStatesByName:Stmt:=top 8
abbrev sStates:Stmt:=top 9
abbrev sNamesLacking:Stmt:=top 10
abbrev sLacking:Stmt:=top 11
abbrev sIsW:Stmt:=top 13
abbrev sWords:Stmt:=top 14
abbrev sCoresOf:Stmt:=top 15
abbrev sCoresAmong:Stmt:=top 16
abbrev sPlacesKnown:Stmt:=top 17
abbrev sHitsOfPlaces:Stmt:=top 18
abbrev sNamedPlaces:Stmt:=top 20
abbrev sFitsOf:Stmt:=top 21
abbrev sDraws:Stmt:=top 23
abbrev sPick:Stmt:=top 24
abbrev sNames:Stmt:=top 25
abbrev sMoments:Stmt:=top 26
abbrev sText:Stmt:=top 27
abbrev sLinks:Stmt:=top 28
abbrev sBook:Stmt:=top 29
abbrev sLLacking:Stmt:=top 30
abbrev sKnown:Stmt:=top 31
abbrev sLaw:Stmt:=top 32
abbrev Nms:=List (List Nat)
abbrev Prt:=List Nat × List Nat × List Int
abbrev Lnk:=Nms × Nms × Int × List Int × List Int
def momD (ms:List Int):D:=.tup (ms.map D.int)
def namesD (ns:Nms):D:=.tup (ns.map sD)
def partD (q:Prt):D:=.tup [sD q.1,sD q.2.1,momD q.2.2]
def linkD (k:Lnk):D:=.tup [namesD k.1,namesD k.2.1,.int k.2.2.1,.tup [momD k.2.2.2.1,momD k.2.2.2.2]]
def bookD (L R:List Prt) (ks:List Lnk) (al:Nms):D:=.tup [.tup (L.map partD),.tup (R.map partD),.tup (ks.map linkD),namesD al]
def sideOf (n:Nat) (k:Lnk):Nms:=if n=0 then k.1 else k.2.1
def linkedN (n:Nat) (ks:List Lnk):Nms:=ks.flatMap (sideOf n)
theorem denI {H:Hp}:∀ {cs:List Int} {vs:List V},DenL H vs (cs.map D.int)→vs=cs.map V.int
  | [],[],_=>rfl
  | _ :: cs,v :: vs,h=>by
    have e:v=.int _:=h.1
    rw [e,denI h.2]
    rfl
  | [],_ :: _,h=>h.elim
  | _ :: _,[],h=>h.elim
theorem denI_of (H:Hp):∀ cs:List Int,DenL H (cs.map V.int) (cs.map D.int)
  | []=>trivial
  | _ :: cs=>⟨rfl,denI_of H cs⟩
theorem denl_app {H:Hp}:∀ {ds es:List D} {vs us:List V},DenL H vs ds→DenL H us es→DenL H (vs++us) (ds++es)
  | [],_,[],_,_,h=>h
  | _ :: _,_,_ :: _,_,h,g=>⟨h.1,denl_app h.2 g⟩
  | [],_,_ :: _,_,h,_=>h.elim
  | _ :: _,_,[],_,h,_=>h.elim
theorem shal_ups {n:Nat} {d:D} (h:Shal n d):∀ k,Shal (n+k) d
  | 0=>h
  | k+1=>(shal_ups h k).up
theorem shal_tup {n:Nat} {ds:List D} (hl:ds.length≤100000) (h:∀ d∈ds,Shal n d):Shal (n+1) (.tup ds) :=
  ⟨(fun z=>nomatch z),fun es e=>by injection e with e; subst e; exact ⟨hl,h⟩⟩
theorem shal_mom {ms:List Int} (h:ms.length≤1000):Shal 1 (momD ms):=shal_tup (by rw [List.length_map]; omega) fun d hd=>by
  obtain ⟨i,_,rfl⟩:=List.mem_map.mp hd
  exact shal_int i
theorem shal_names {ns:Nms} (h:ns.length≤1000):Shal 1 (namesD ns):=shal_tup (by rw [List.length_map]; omega) fun d hd=>by
  obtain ⟨i,_,rfl⟩:=List.mem_map.mp hd
  exact shal_str _
theorem simL_map {α β:Type} {f:α→D} {g:β→D} (h:∀ a b,Sim (f a) (g b)):∀ (xs:List α) (ys:List β),SimL (xs.map f) (ys.map g)
  | [],_=>SimL_n _
  | _ :: _,[]=>SimL_m _
  | x :: xs,y :: ys=>SimL_c (h x y) (simL_map h xs ys)
theorem sim_int (a b:Int):Sim (.int a) (.int b):=trivial
theorem sim_str (a b:Str):Sim (.str a) (.str b):=trivial
theorem sim_mom (a b:List Int):Sim (momD a) (momD b):=Sim_t (simL_map (fun a b=>sim_int a b) a b)
theorem sim_names (a b:Nms):Sim (namesD a) (namesD b):=Sim_t (simL_map (fun a b=>sim_str _ _) a b)
theorem sim_link (a b:Lnk):Sim (linkD a) (linkD b):=by
  unfold linkD
  exact Sim_t (SimL_c (sim_names _ _) (SimL_c (sim_names _ _) (SimL_c (sim_int _ _) (SimL_c (Sim_t (SimL_c (sim_mom _ _) (SimL_c (sim_mom _ _) (SimL_n _)))) (SimL_n _)))))
theorem den_link {H:Hp} {v:V} {q:Lnk} (h:Den H v (linkD q)):∃ (p p0 p1 p3 p4 p5:Addr) (us0 us1:List V),v=.ref p∧H p=some (.tup [.ref p0,.ref p1,.int q.2.2.1,.ref p3])∧H p0=some (.tup us0)∧DenL H us0 (q.1.map sD)∧H p1=some (.tup us1)∧DenL H us1 (q.2.1.map sD) ∧
    H p3=some (.tup [.ref p4,.ref p5])∧H p4=some (.tup (q.2.2.2.1.map V.int))∧H p5=some (.tup (q.2.2.2.2.map V.int)):=by
  obtain ⟨p,us,rfl,hp,hd⟩:=den_tup h
  obtain ⟨b0,b1,b2,b3,rfl⟩:∃ b0 b1 b2 b3,us=[b0,b1,b2,b3]:=by
    match us,hd with
    | [b0,b1,b2,b3],_=>exact ⟨b0,b1,b2,b3,rfl⟩
    | [],h=>exact h.elim
    | [_],h=>exact h.2.elim
    | [_,_],h=>exact h.2.2.elim
    | [_,_,_],h=>exact h.2.2.2.elim
    | _ :: _ :: _ :: _ :: _ :: _,h=>exact h.2.2.2.2.elim
  obtain ⟨p0,us0,rfl,h0,hd0⟩:=den_tup hd.1
  obtain ⟨p1,us1,rfl,h1,hd1⟩:=den_tup hd.2.1
  have e2:b2=.int q.2.2.1:=hd.2.2.1
  subst e2
  obtain ⟨p3,us3,rfl,h3,hd3⟩:=den_tup hd.2.2.2.1
  obtain ⟨c0,c1,rfl⟩:∃ c0 c1,us3=[c0,c1]:=by
    match us3,hd3 with
    | [c0,c1],_=>exact ⟨c0,c1,rfl⟩
    | [],h=>exact h.elim
    | [_],h=>exact h.2.elim
    | _ :: _ :: _ :: _,h=>exact h.2.2.elim
  obtain ⟨p4,us4,rfl,h4,hd4⟩:=den_tup hd3.1
  obtain ⟨p5,us5,rfl,h5,hd5⟩:=den_tup hd3.2.1
  rw [denI hd4] at h4
  rw [denI hd5] at h5
  exact ⟨p,p0,p1,p3,p4,p5,us0,us1,rfl,hp,h0,hd0,h1,hd1,h3,h4,h5⟩
theorem denS {H:Hp}:∀ {cs:Nms} {vs:List V},DenL H vs (cs.map sD)→vs=cs.map mkT
  | [],[],_=>rfl
  | _ :: cs,v :: vs,h=>by
    have e:v=mkT _:=h.1
    rw [e,denS h.2]
    rfl
  | [],_ :: _,h=>h.elim
  | _ :: _,[],h=>h.elim
theorem denS_of (H:Hp):∀ cs:Nms,DenL H (cs.map mkT) (cs.map sD)
  | []=>trivial
  | _ :: cs=>⟨rfl,denS_of H cs⟩
def Old (d lo:Addr) (H H':Hp):Prop:=∀ c o,H c=some o→c≠d→c≠lo→H' c=some o
theorem Old.refl (d lo:Addr) (H:Hp):Old d lo H H:=fun _ _ e _ _=>e
theorem Old.trans {d lo:Addr} {H H1 H2:Hp} (a:Old d lo H H1) (b:Old d lo H1 H2):Old d lo H H2:=fun c o e h1 h2=>b c o (a c o e h1 h2) h1 h2
theorem Old.of {d lo:Addr} {H H1:Hp} (a:Same H H1):Old d lo H H1:=fun c o e _ _=>a c o e
theorem Old.free {d lo b:Addr} {H H1:Hp} {o:HO} (a:Old d lo H H1) (hb:H b=none):Old d lo H (L2.upd H1 b o):=fun c o' e h1 h2=>by
  rw [upd_ne (ne_of_none e hb)]
  exact a c o' e h1 h2
theorem Old.new {d lo b:Addr} {H H':Hp} {o:HO} (h:Old d lo H H') (hb:H' b=none):Old d lo H (upd H' b o):=fun c o' e h1 h2=>same_new hb o _ _ (h c o' e h1 h2)
theorem perm_map_inv {α β:Type} {f:α→β} {ds es:List β} (h:ds.Perm es):∀ {ks:List α},es=ks.map f→∃ ks':List α,ks'.Perm ks∧ds=ks'.map f:=by
  induction h with
  | nil =>
    intro ks e
    cases ks with
    | nil=>exact ⟨[],.nil,rfl⟩
    | cons=>cases e
  | cons x p ih =>
    intro ks e
    cases ks with
    | nil=>cases e
    | cons k ks =>
      injection e with e1 e2
      obtain ⟨ks',hp,rfl⟩:=ih e2
      exact ⟨k :: ks',hp.cons k,by rw [e1]; rfl⟩
  | swap x y l =>
    intro ks e
    match ks,e with
    | a :: b :: r,e =>
      injection e with e1 e2
      injection e2 with e2 e3
      exact ⟨b :: a :: r,.swap _ _ _,by rw [e1,e2,e3]; rfl⟩
  | trans p q ih1 ih2 =>
    intro ks e
    obtain ⟨ks1,hp1,rfl⟩:=ih2 e
    obtain ⟨ks2,hp2,rfl⟩:=ih1 rfl
    exact ⟨ks2,hp2.trans hp1,rfl⟩
theorem hom_links (ks:List Lnk):Hom (ks.map linkD):=by
  refine ⟨fun a ha b hb=>?_,.inr (.inr fun d hd=>?_)⟩
  · obtain ⟨x,_,rfl⟩:=List.mem_map.mp ha
    obtain ⟨y,_,rfl⟩:=List.mem_map.mp hb
    exact sim_link _ _
  · obtain ⟨x,_,rfl⟩:=List.mem_map.mp hd
    exact ⟨_,_,rfl⟩
theorem hom_names (ts:Nms):Hom (ts.map sD):=by
  refine ⟨fun a ha b hb=>?_,.inr (.inl fun d hd=>?_)⟩
  · obtain ⟨x,_,rfl⟩:=List.mem_map.mp ha
    obtain ⟨y,_,rfl⟩:=List.mem_map.mp hb
    exact sim_str _ _
  · obtain ⟨x,_,rfl⟩:=List.mem_map.mp hd
    exact ⟨_,rfl⟩
theorem keepT_upd {H:Hp} {l:Addr} {ys zs:List V} (hl:H l=some (.lst ys)):∀ (b:Addr) (vs:List V),H b=some (.tup vs)→upd H l (.lst zs) b=some (.tup vs):=fun b vs e=>by
  rw [upd_ne (ne_of e hl (by intro z; cases z))]
  exact e
theorem same_none {H H':Hp} {b:Addr} (s:Same H H') (h:H' b=none):H b=none:=by
  cases e:H b with
  | none=>rfl
  | some o =>
    have:=s b o e
    rw [h] at this
    cases this
theorem same_updN {H H':Hp} {l:Addr} {o:HO} (s:Same H H') (h:H l=none):Same H (upd H' l o):=fun c u z=>by
  rw [upd_ne (ne_of_none z h)]
  exact s c u z
theorem ex_at {α:Type} {xs:List α} {i:Nat} (h:i < xs.length):xs[i]?=some xs[i]:=List.getElem?_eq_getElem h
theorem take_one {α:Type} {xs:List α} {i:Nat} {x:α} (h:xs[i]?=some x):xs.take (i+1)=xs.take i++[x]:=by rw [List.take_add_one,h]; rfl
inductive Stt where
  | lack
  | alone
  | step
  | stale (m:Int)
def stD:Stt→D
  | .lack=>.tup [.str "lacking"]
  | .alone=>.tup [.str "alone"]
  | .step=>.tup [.str "step"]
  | .stale m=>.tup [.str "stale",.int m]
def stOf:List Int→Stt
  | []=>.step
  | a :: r=>.stale (r.foldl min a)
theorem foldl_min:∀ (r:List Int) (a:Int),r.foldl min a∈a :: r∧∀ n∈a :: r,r.foldl min a≤n
  | [],a=>⟨.head _,fun n hn=>by rw [List.mem_singleton.mp hn]; exact Int.le_refl _⟩
  | b :: r,a=>by
    obtain ⟨h1,h2⟩:=foldl_min r (min a b)
    rw [List.foldl_cons]
    have h3:=h2 (min a b) (.head _)
    refine ⟨?_,fun n hn=>?_⟩
    · rcases List.mem_cons.mp h1 with z | z
      · rw [z]
        by_cases hab:a≤b
        · rw [Int.min_eq_left hab]; exact .head _
        · rw [Int.min_eq_right (by omega)]; exact .tail _ (.head _)
      · exact .tail _ (.tail _ z)
    · rcases List.mem_cons.mp hn with rfl | hn
      · omega
      · rcases List.mem_cons.mp hn with rfl | hn
        · omega
        · exact h2 n (.tail _ hn)
theorem stOf_eq {l:List Int} {m:Int} (h1:m∈l) (h2:∀ n∈l,m≤n):stOf l=.stale m:=by
  cases l with
  | nil=>cases h1
  | cons a r =>
    obtain ⟨g1,g2⟩:=foldl_min r a
    have a1:=h2 _ g1
    have a2:=g2 _ h1
    show Stt.stale _=_
    rw [show r.foldl min a=m by omega]
def momsOf (ps:List Prt) (x:List Nat):List Int:=match ps.find? (fun p=>decide (p.1=x)) with
  | some p=>p.2.2
  | none=>[]
def later (t:Int) (l:List Int):List Int:=l.filter fun m=>decide (t < m)
def lostOf (n:Nat) (k:Lnk):List Int:=if n=0 then k.2.2.2.1 else k.2.2.2.2
def seenP (ps:List Prt) (k:Lnk) (n:Nat):List Int:=lostOf n k++(sideOf n k).flatMap (momsOf ps)
def pst (ps:List Prt) (k:Lnk) (s:Nat):Stt:=stOf (later k.2.2.1 (seenP ps k (1 - s)))
structure VB (L R:List Prt) (ks:List Lnk) (al:Nms):Prop where
  nd:((L++R).map (·.1)).Nodup
  lL:L.length≤12
  lR:R.length≤12
  mo:∀ p∈L++R,p.2.2.length≤4∧True
  lo:∀ k∈ks,k.2.2.2.1.length≤4∧k.2.2.2.2.length≤4
  nl:∀ k∈ks,k.1.length≤13∧k.2.1.length≤13
  on:∀ x∈linkedN 0 ks,x∈L.map (·.1)
  off:∀ x∈linkedN 1 ks,x∈R.map (·.1)
  al_in:∀ x∈al,x∈(L++R).map (·.1)
def setAll (f:List Nat→Stt) (xs:Nms) (s:Stt):List Nat→Stt:=fun y=>if y∈xs then s else f y
def afterLink (ps:List Prt) (f:List Nat→Stt) (k:Lnk):List Nat→Stt:=setAll (setAll f k.1 (pst ps k 0)) k.2.1 (pst ps k 1)
def final (ps:List Prt) (ks:List Lnk) (al:Nms):List Nat→Stt:=ks.foldl (afterLink ps) (setAll (fun _=>.lack) al .alone)
abbrev sOf (r:List Nat):Str:=⟨r.toArray⟩
theorem str_inj' {a b:List Nat} (h:sOf a=sOf b):a=b:=by
  have:=congrArg (fun s:Str=>s.cps.toList) h
  simpa using this
abbrev nkey (x:List Nat):Key:=Sum.inr (sOf x)
theorem nkey_inj {a b:List Nat} (h:nkey a=nkey b):a=b:=by
  injection h with h
  exact str_inj' h
def Fd (H:Hp) (kvs:List (Key × V)) (ps:List Prt) (g:Prt→D):Prop:=Paired (fun kv p=>kv.1=nkey p.1∧Den H kv.2 (g p)) kvs ps
theorem Fd.mono {H H':Hp} (e:∀ {d:D} {v:V},Den H v d→Den H' v d) {kvs:List (Key × V)} {ps:List Prt} {g:Prt→D} (h:Fd H kvs ps g):Fd H' kvs ps g:=Paired.mapP h fun _ _ ⟨a,b⟩=>⟨a,e b⟩
theorem Fd.same {H H':Hp} (s:Same H H') {kvs:List (Key × V)} {ps:List Prt} {g:Prt→D} (h:Fd H kvs ps g):Fd H' kvs ps g:=h.mono (Den.same s)
theorem Fd.keys {H:Hp}:∀ {kvs:List (Key × V)} {ps:List Prt} {g:Prt→D},Fd H kvs ps g→kvs.map (·.1)=(ps.map (·.1)).map nkey
  | _,_,_,.nil=>rfl
  | _,_,_,.cons h r=>by
    rw [List.map_cons,List.map_cons,List.map_cons,h.1,Fd.keys r]
theorem Fd.val {H:Hp}:∀ {kvs:List (Key × V)} {ps:List Prt} {g:Prt→D} {x:List Nat},Fd H kvs ps g→x∈ps.map (·.1)→∃ v p,valV kvs (nkey x)=some v∧p∈ps∧p.1=x∧ps.find? (fun p=>decide (p.1=x))=some p∧Den H v (g p)
  | _,_,_,_,.nil,hx=>by cases hx
  | kv :: kvs,p :: ps,g,x,.cons h r,hx=>by
    by_cases hp:p.1=x
    · refine ⟨kv.2,p,valV_pos (by rw [h.1,hp]),.head _,hp,?_,h.2⟩
      rw [List.find?_cons,decide_eq_true hp]
    · have hx':x∈ps.map (·.1):=by
        rcases List.mem_cons.mp hx with z | z
        · exact absurd z.symm hp
        · exact z
      obtain ⟨v,q,a1,a2,a3,a4,a5⟩:=Fd.val r hx'
      refine ⟨v,q,(valV_neg fun z=>hp (nkey_inj (h.1.symm.trans z))).trans a1,.tail _ a2,a3,?_,a5⟩
      rw [List.find?_cons,decide_eq_false hp]
      exact a4
theorem merge_new:∀ (more acc:List (Key × V)),((acc++more).map (·.1)).Nodup→mergeK acc more=acc++more
  | [],acc,_=>by rw [List.append_nil]; rfl
  | kv :: more,acc,h=>by
    have hv:valV acc kv.1=none:=by
      cases e:valV acc kv.1 with
      | none=>rfl
      | some v =>
        unfold valV at e
        obtain ⟨q,hq,_⟩:=Option.map_eq_some_iff.mp e
        have hm:=List.mem_of_find?_eq_some hq
        have hq':q.1=kv.1:=by simpa using List.find?_some hq
        rw [List.map_append,List.map_cons,List.nodup_append] at h
        exact absurd rfl (h.2.2 q.1 (List.mem_map_of_mem hm) kv.1 (.head _) |> fun z=>by rw [hq'] at z; exact z)
    show mergeK (putK acc kv.1 kv.2) more=_
    rw [putK_new kv.2 hv,merge_new more _ (by rw [List.append_assoc]; exact h),List.append_assoc]
    rfl
theorem fd_map {H:Hp} {x:List Nat} {v:V} {d:D} (hv:Den H v d):∀ {kvs:List (Key × V)} {ps:List Prt} {g:Prt→D},Fd H kvs ps g→Fd H (kvs.map fun kv=>if kv.1=nkey x then (kv.1,v) else kv) ps (fun p=>if p.1=x then d else g p)
  | _,_,_,.nil=>.nil
  | kv :: kvs,p :: ps,g,.cons h r=>by
    refine .cons ?_ (fd_map hv r)
    show (if kv.1=nkey x then (kv.1,v) else kv).1=_∧Den H (if kv.1=nkey x then (kv.1,v) else kv).2 (if p.1=x then d else g p)
    by_cases hp:p.1=x
    · rw [if_pos (show kv.1=nkey x by rw [h.1,hp]),if_pos hp]
      exact ⟨h.1,hv⟩
    · rw [if_neg (fun z=>hp (nkey_inj (h.1.symm.trans z))),if_neg hp]
      exact h
theorem fd_put {H:Hp} {x:List Nat} {v:V} {d:D} {kvs:List (Key × V)} {ps:List Prt} {g:Prt→D} (h:Fd H kvs ps g) (hx:x∈ps.map (·.1)) (hv:Den H v d):Fd H (putK kvs (nkey x) v) ps (fun p=>if p.1=x then d else g p):=by
  unfold putK
  have ha:(kvs.any fun kv=>decide (kv.1=nkey x))=true:=by
    rw [valV_any]
    obtain ⟨v',p,e,_⟩:=h.val hx
    rw [e]
    rfl
  rw [if_pos ha]
  exact fd_map hv h
theorem fd_len {H:Hp} {kvs:List (Key × V)} {ps:List Prt} {g:Prt→D} (h:Fd H kvs ps g):kvs.length=ps.length:=Paired.length h
def spSIL:Sp:=fun vs H Q _=>∃ (v:V) (k:Lnk) (s:Nat) (dm:Addr) (kvs:List (Key × V)) (ps:List Prt),vs=[v,.int (s:Nat),.ref dm]∧s≤1∧Den H v (linkD k)∧H dm=some (.dK kvs)∧Fd H kvs ps (fun p=>momD p.2.2)∧(∀ x∈sideOf (1 - s) k,x∈ps.map (·.1))∧(∀ p∈ps,p.2.2.length≤4) ∧
  (lostOf (1 - s) k).length≤4∧(sideOf (1 - s) k).length≤13∧∀ (u:V) (H':Hp),Same H H'→Den H' u (stD (pst ps k s))→Q u H'
theorem later_snoc (t:Int) (xs:List Int) (m:Int):later t (xs++[m])=later t xs++if t < m then [m] else []:=by
  unfold later
  rw [List.filter_append]
  by_cases h:t < m
  · rw [if_pos h]
    simp [h]
  · rw [if_neg h]
    simp [h]
section
variable {P:Program} {w:World} {K:PySem.W.Frag} {mg:Str→Option Value} {base:Heap}
theorem scStateInLink:FnScope ["link", "side", "moments", "seen", "name", "since"] ["link", "side", "moments"] (defScope sStateInLink):=⟨rfl,rfl,rfl,by decide +kernel,rfl,by decide +kernel,by decide +kernel⟩
theorem c_state_in_link (h:Has K mg "state_in_link" sStateInLink ["link", "side", "moments"]) (m_list:mg "list" = none) (m_min:mg "min" = none):Cal P w K mg base "state_in_link" 1 ["link", "side", "moments"] spSIL:=by
  refine h.mk' scStateInLink (fun vs H Q E hs=>?_) (fun f cdv A outer s H vs Q E hr hs=>?_)
  · obtain ⟨v,k,s,dm,kvs,ps,rfl,_⟩:=hs
    rfl
  obtain ⟨v,k,sd,dm,kvs,ps,rfl,hs1,hv,hdm,hfd,hin,hml,hll,hsl,kk⟩:=hs
  refine ⟨_,(pss_cons (ps_set (i:=3) scStateInLink.nd rfl (Or.inl rfl) (pe_callTy call_list_of rfl m_list boot_list (pa_cons (pe_ix ix_tup (pe_ix ix_tup (pv 0) pe_int (fun _ _=>rfl)) (pe_op op_sub pe_int (pv 1)) (fun _ _=>rfl)) pa_nil)))
    (pss_cons (ps_for PassesOwn.never rfl (pi_tup (pe_ix ix_tup (pv 0) (pe_op op_sub pe_int (pv 1)) (fun _ _=>rfl))) (pg_name (i:=4) scStateInLink.nd rfl (Or.inl rfl))
      (pss_one (ps_expr (pe_bm PySem.F.plainAttrs_list PySem.F.slot_list_extend PySem.F.type_list_extend mt_extendT (pv 3) (pa_cons (pe_dget (hu_of hr) (pv 2) (pv 4) (fun _ _=>rfl)) pa_nil)))))
    (pss_cons (ps_set (i:=5) scStateInLink.nd rfl (Or.inl rfl) (pe_minN rfl m_min rfl (pe_compL ["link", "side", "moments", "seen", "name", "since"] (defScope sStateInLink) ["link", "moment"] [some 0,none] rfl rfl rfl (pi_list (pv 3)) rfl (by decide +kernel) (by decide +kernel) (by decide +kernel) (by decide +kernel) (hg:=fun cl C s H ex pn E=>(pg_name (i:=1) (by decide +kernel:(["link", "moment"]:List Str).Nodup) rfl (Or.inl rfl))) (ht:=fun cl C s H ex pn E=>(pifs_one (pt_cmpR op_gt (pv 1) (pe_ix (ix_tupK (K:=K) rfl) (pv 0) pe_int (fun _ _=>rfl)) (nomark _)))) (he:=fun cl C s H ex pn E=>(pv 1)))))
    (pss_one (ps_ret (pe_ifExp (pt_cmpR op_isN (pv 5) pe_non (nomark _)) (pe_tup (pa_cons pe_str pa_nil)) (pe_tup (pa_cons pe_str (pa_cons (pv 5) pa_nil))))))))),?_⟩
  obtain ⟨p,p0,p1,p3,p4,p5,us0,us1,rfl,hp,h0,hd0,h1,hd1,h3,h4,h5⟩:=den_link hv
  rw [denS hd0] at h0
  rw [denS hd1] at h1
  have at3:atI [V.ref p0,V.ref p1,V.int k.2.2.1,V.ref p3] 3=some (.ref p3):=atI_nat (xs:=[V.ref p0,V.ref p1,V.int k.2.2.1,V.ref p3]) (j:=3) rfl
  have at2:atI [V.ref p0,V.ref p1,V.int k.2.2.1,V.ref p3] 2=some (.int k.2.2.1):=atI_nat (xs:=[V.ref p0,V.ref p1,V.int k.2.2.1,V.ref p3]) (j:=2) rfl
  obtain ⟨pq,pl,e1,e2,hpq,hpl⟩:∃ pq pl,atI [V.ref p0,V.ref p1,V.int k.2.2.1,V.ref p3] (1 - (sd:Int))=some (.ref pq)∧atI [V.ref p4,V.ref p5] (1 - (sd:Int))=some (.ref pl)∧H pq=some (.tup ((sideOf (1 - sd) k).map mkT))∧H pl=some (.tup ((lostOf (1 - sd) k).map V.int)):=by
    match sd,hs1 with
    | 0,_=>exact ⟨p1,p5,atI_nat (xs:=[V.ref p0,V.ref p1,V.int k.2.2.1,V.ref p3]) (j:=1) rfl,atI_nat (xs:=[V.ref p4,V.ref p5]) (j:=1) rfl,h1,h5⟩
    | 1,_=>exact ⟨p0,p4,atI_zero _ _,atI_zero _ _,h0,h4⟩
  refine ⟨_,rfl,p,_,_,_,rfl,rfl,SqT.of hp,at3,_,rfl,_,_,rfl,rfl,p3,_,_,_,rfl,rfl,SqT.of h3,e2,pl,_,rfl,.inr (SqT.of hpl),fun ls hls=>?_⟩
  have s1:=same_new hls (.lst ((lostOf (1 - sd) k).map V.int))
  refine ⟨_,rfl,_,rfl,_,_,rfl,rfl,p,_,_,_,rfl,rfl,SqT.of (s1 _ _ hp),e1,pq,rfl,⟨_,SqT.of (s1 _ _ hpq)⟩,?_⟩
  have hdl:dm≠ls:=ne_of_none hdm hls
  refine for_tup (K:=K) (a:=pq) (xs:=(sideOf (1 - sd) k).map mkT) (fun i σ H2=>∃ v4:Option V,σ=[some (.ref p),some (.int (sd:Nat)),some (.ref dm),some (.ref ls),v4,none]∧Same H H2∧H2 ls=some (.lst ((lostOf (1 - sd) k++((sideOf (1 - sd) k).take i).flatMap (momsOf ps)).map V.int))∧(((sideOf (1 - sd) k).take i).flatMap (momsOf ps)).length≤4 * i) ⟨_,rfl,s1,by rw [List.take_zero,List.flatMap_nil,List.append_nil]; exact upd_same,Nat.le_refl _⟩ ?_ ?_ ?_
  · rintro i σ H2 _ ⟨v4,rfl,s2,_⟩
    exact SqT.of (s2 _ _ hpq)
  · rintro i y σ H2 hi ⟨v4,rfl,s2,e2l,hle⟩
    have hi':i < (sideOf (1 - sd) k).length:=by
      have:=(List.getElem?_eq_some_iff.mp hi).1
      rwa [List.length_map] at this
    rw [at_T hi'] at hi
    injection hi with hi
    subst hi
    obtain ⟨u,q,a1,a2,a3,a4,a5⟩:=hfd.val (hin _ (List.getElem_mem hi'))
    have em:momsOf ps (sideOf (1 - sd) k)[i]=q.2.2:=by
      unfold momsOf
      rw [a4]
    obtain ⟨pm,ws,rfl,hpm,hdm'⟩:=den_tup a5
    rw [denI hdm'] at hpm
    have hg:=DGet.k (k:=nkey (sideOf (1 - sd) k)[i]) (s2 _ _ hdm)
    rw [a1] at hg
    have hql:=hml q a2
    have htk:(sideOf (1 - sd) k).take (i+1)=(sideOf (1 - sd) k).take i++[(sideOf (1 - sd) k)[i]]:=by
      rw [List.take_add_one,List.getElem?_eq_getElem hi']
      rfl
    refine gN ⟨_,rfl,.inl ⟨rfl,_,SqL.of e2l⟩,_,rfl,_,rfl,dm,_,rfl,hg,ls,pm,_,_,rfl,rfl,e2l,SqT.of (s2 _ _ hpm),?_,?_⟩
    · rw [List.length_map,List.length_map,List.length_append]
      exact small (by omega)
    · refine ⟨_,rfl,?_,?_,?_⟩
      · intro c o z
        rw [upd_ne (ne_of_none z hls)]
        exact s2 c o z
      · rw [upd_same,htk,List.flatMap_append,← em]
        simp only [List.flatMap_cons,List.flatMap_nil,List.append_nil,List.map_append,List.append_assoc]
      · rw [htk]
        simp only [List.flatMap_append,List.flatMap_cons,List.flatMap_nil,List.append_nil,List.length_append]
        rw [em]
        omega
  · rintro σ H2 ⟨v4,rfl,s2,e2l,hle⟩
    rw [List.length_map,List.take_length] at e2l hle
    have e2l':H2 ls=some (.lst ((seenP ps k (1 - sd)).map V.int)):=e2l
    have hsl':(seenP ps k (1 - sd)).length≤60:=by
      unfold seenP
      rw [List.length_append]
      omega
    refine ⟨_,rfl,ls,rfl,⟨_,SqL.of e2l'⟩,fun lc hlc=>?_⟩
    refine comp_by (J:=Itl K ls) (l:=lc) ((seenP ps k (1 - sd)).map V.int).length (fun i σ' H'=>∃ v:Option V,σ'=[some (.ref p),v]∧Same H2 H'∧H' lc=some (.lst ((later k.2.2.1 ((seenP ps k (1 - sd)).take i)).map V.int))) ⟨none,rfl,same_new hlc _,upd_same⟩ ?_ ?_
    · rintro σ' H3 ⟨v,rfl,s3,e3⟩
      rw [List.length_map,List.take_length] at e3
      have sA:=s2.trans s3
      refine ⟨⟨_,SqL.of (s3 _ _ e2l'),Nat.le_refl _⟩,lc,_,rfl,SqL.of e3,fun hn=>?_,fun m hm hmin=>?_⟩
      · refine gN ⟨_,rfl,rfl,_,rfl,iteT ⟨smn 1,fun q hq=>?_⟩⟩
        refine kk (.ref q) _ (sA.trans (same_new hq _)) ?_
        have e:pst ps k sd=.step:=by
          unfold pst
          rw [hn]
          rfl
        rw [e]
        exact ⟨q,_,rfl,upd_same,rfl,trivial⟩
      · refine gN ⟨_,rfl,rfl,_,rfl,iteF ⟨_,rfl,smn 2,fun q hq=>?_⟩⟩
        refine kk (.ref q) _ (sA.trans (same_new hq _)) ?_
        have e:pst ps k sd=.stale m:=stOf_eq hm hmin
        rw [e]
        exact ⟨q,_,rfl,upd_same,rfl,rfl,trivial⟩
    · rintro i σ' H3 hi ⟨v,rfl,s3,e3⟩
      have hi':i < (seenP ps k (1 - sd)).length:=by rwa [List.length_map] at hi
      have hat:((seenP ps k (1 - sd)).map V.int)[i]?=some (.int (seenP ps k (1 - sd))[i]):=by rw [List.getElem?_map,List.getElem?_eq_getElem hi']; rfl
      refine ⟨⟨_,_,SqL.of (s3 _ _ e2l'),hat⟩,?_⟩
      rintro y H'' ⟨rfl,hy⟩
      have ey:y=.int (seenP ps k (1 - sd))[i]:=Option.some.inj ((hy _ (SqL.of (s3 _ _ e2l'))).symm.trans hat)
      subst ey
      have htk:(seenP ps k (1 - sd)).take (i+1)=(seenP ps k (1 - sd)).take i++[(seenP ps k (1 - sd))[i]]:=by
        rw [List.take_add_one,List.getElem?_eq_getElem hi']
        rfl
      refine gN ⟨_,rfl,_,rfl,p,_,_,_,rfl,rfl,SqT.of ((s2.trans s3) _ _ hp),at2,_,_,rfl,rfl,_,rfl,?_⟩
      refine ite2 (fun z=>?_) (fun z=>?_)
      · have z':k.2.2.1 < (seenP ps k (1 - sd))[i]:=of_decide_eq_true z
        refine ⟨_,rfl,_,e3,?_,_,rfl,?_,?_⟩
        · rw [List.length_map]
          have:(later k.2.2.1 ((seenP ps k (1 - sd)).take i)).length≤((seenP ps k (1 - sd)).take i).length:=List.length_filter_le _ _
          rw [List.length_take] at this
          exact small1000 (by omega)
        · intro c o z
          rw [upd_ne (ne_of_none z hlc)]
          exact s3 c o z
        · rw [upd_same,htk,later_snoc,if_pos z',List.map_append]
          rfl
      · have z':¬ k.2.2.1 < (seenP ps k (1 - sd))[i]:=fun w=>z (decide_eq_true w)
        refine ⟨_,rfl,s3,?_⟩
        rw [htk,later_snoc,if_neg z',List.append_nil]
        exact e3
end
theorem den_book {H:Hp} {v:V} {L R:List Prt} {ks:List Lnk} {al:Nms} (h:Den H v (bookD L R ks al)):∃ (p pl pr pk pa:Addr) (ls rs us:List V),v=.ref p∧H p=some (.tup [.ref pl,.ref pr,.ref pk,.ref pa])∧H pl=some (.tup ls)∧DenL H ls (L.map partD)∧H pr=some (.tup rs)∧DenL H rs (R.map partD)∧H pk=some (.tup us)∧DenL H us (ks.map linkD)∧H pa=some (.tup ((al.map sOf).map V.str)):=by
  obtain ⟨p,us,rfl,hp,hd⟩:=den_tup h
  obtain ⟨b0,b1,b2,b3,rfl⟩:∃ b0 b1 b2 b3,us=[b0,b1,b2,b3]:=by
    match us,hd with
    | [b0,b1,b2,b3],_=>exact ⟨b0,b1,b2,b3,rfl⟩
    | [],h=>exact h.elim
    | [_],h=>exact h.2.elim
    | [_,_],h=>exact h.2.2.elim
    | [_,_,_],h=>exact h.2.2.2.elim
    | _ :: _ :: _ :: _ :: _ :: _,h=>exact h.2.2.2.2.elim
  obtain ⟨pl,ls,rfl,hpl,hdl⟩:=den_tup hd.1
  obtain ⟨pr,rs,rfl,hpr,hdr⟩:=den_tup hd.2.1
  obtain ⟨pk,ws,rfl,hpk,hdk⟩:=den_tup hd.2.2.1
  obtain ⟨pa,as,rfl,hpa,hda⟩:=den_tup hd.2.2.2.1
  rw [denS hda] at hpa
  exact ⟨p,pl,pr,pk,pa,ls,rs,ws,rfl,hp,hpl,hdl,hpr,hdr,hpk,hdk,by rw [List.map_map]; exact hpa⟩
theorem Fd.congr {H:Hp}:∀ {kvs:List (Key × V)} {ps:List Prt} {g g':Prt→D},(∀ p∈ps,g p=g' p)→Fd H kvs ps g→Fd H kvs ps g'
  | _,_,_,_,_,.nil=>.nil
  | kv :: kvs,p :: ps,g,g',h,.cons a r=>.cons ⟨a.1,by rw [← h p (.head _)]; exact a.2⟩ (Fd.congr (fun q hq=>h q (.tail _ hq)) r)
theorem Fd.snoc {H:Hp} {kv:Key × V} {p:Prt} {g:Prt→D} (h:kv.1=nkey p.1∧Den H kv.2 (g p)):∀ {kvs:List (Key × V)} {ps:List Prt},Fd H kvs ps g→Fd H (kvs++[kv]) (ps++[p]) g
  | _,_,.nil=>.cons h .nil
  | _,_,.cons a r=>.cons a (Fd.snoc h r)
theorem Fd.nodup {H:Hp} {kvs:List (Key × V)} {ps:List Prt} {g:Prt→D} (h:Fd H kvs ps g) (hn:(ps.map (·.1)).Nodup):(kvs.map (·.1)).Nodup:=by
  rw [h.keys,List.nodup_iff_pairwise_ne,List.pairwise_map]
  rw [List.nodup_iff_pairwise_ne] at hn
  exact hn.imp fun hne e=>hne (nkey_inj e)
theorem setAll_snoc (f:List Nat→Stt) (xs:Nms) (x:List Nat) (s:Stt) (y:List Nat):setAll f (xs++[x]) s y=if y=x then s else setAll f xs s y:=by
  unfold setAll
  by_cases h:y=x
  · rw [if_pos h,if_pos (by rw [h]; simp)]
  · rw [if_neg h]
    by_cases h2:y∈xs
    · rw [if_pos h2,if_pos (List.mem_append_left _ h2)]
    · rw [if_neg h2,if_neg (fun z=>by rcases List.mem_append.mp z with w | w; exact h2 w; exact h (List.mem_singleton.mp w))]
theorem keepT_dict {H:Hp} {d:Addr} {a b:List (Key × V)} (hd:H d=some (.dK a)):∀ (c:Addr) (vs:List V),H c=some (.tup vs)→upd H d (.dK b) c=some (.tup vs):=fun c vs e=>by
  rw [upd_ne (ne_of e hd (by intro z; cases z))]
  exact e
theorem prs_keepT {H H':Hp} (e:∀ (b:Addr) (vs:List V),H b=some (.tup vs)→H' b=some (.tup vs)) {vs:List V} {kvs:List (Key × V)} (h:Prs H vs kvs):Prs H' vs kvs:=Paired.mapP h fun _ _ ⟨p,a,b⟩=>⟨p,a,e _ _ b⟩
theorem Fd.keepT {H H':Hp} (e:∀ (b:Addr) (vs:List V),H b=some (.tup vs)→H' b=some (.tup vs)) {kvs:List (Key × V)} {ps:List Prt} {g:Prt→D} (h:Fd H kvs ps g):Fd H' kvs ps g:=h.mono (Den.keepT e)
def midF (ps:List Prt) (f:List Nat→Stt) (k:Lnk):Nat→List Nat→Stt
  | 0=>f
  | 1=>setAll f k.1 (pst ps k 0)
  | _=>afterLink ps f k
theorem mid_step (ps:List Prt) (f:List Nat→Stt) (k:Lnk) {n:Nat} (hn:n≤1):midF ps f k (n+1)=setAll (midF ps f k n) (sideOf n k) (pst ps k n):=by
  match n,hn with
  | 0,_=>rfl
  | 1,_=>rfl
def spSBN:Sp:=fun vs H Q _=>∃ (v:V) (L R:List Prt) (ks:List Lnk) (al:Nms),vs=[v]∧Den H v (bookD L R ks al)∧VB L R ks al∧∀ (d:Addr) (kvs:List (Key × V)) (H':Hp),H d=none→Same H H'→H' d=some (.dK kvs)→Fd H' kvs (L++R) (fun p=>stD (final (L++R) ks al p.1))→Q (.ref d) H'
section
variable {P:Program} {w:World} {K:PySem.W.Frag} {mg:Str→Option Value} {base:Heap}
theorem scStatesByName:FnScope ["book", "parts", "found", "name", "moments", "link", "side", "state"] ["book"] (defScope sStatesByName):=⟨rfl,rfl,rfl,by decide +kernel,rfl,by decide +kernel,by decide +kernel⟩
theorem c_states_by_name (h:Has K mg "states_by_name" sStatesByName ["book"]) (C_state_in_link:Cal P w K mg base "state_in_link" 1 ["link", "side", "moments"] spSIL) (m_dict:mg "dict" = none):Cal P w K mg base "states_by_name" 2 ["book"] spSBN:=by
  refine h.mk' scStatesByName (fun vs H Q E hs=>?_) (fun f cdv A outer s H vs Q E hr hs=>?_)
  · obtain ⟨v,L,R,ks,al,rfl,_⟩:=hs
    rfl
  obtain ⟨v,L,R,ks,al,rfl,hv,vb,kk⟩:=hs
  refine ⟨_,(pss_cons (ps_set (i:=1) scStatesByName.nd rfl (Or.inl rfl) (pe_op op_catT2 (pe_ix ix_tup (pv 0) pe_int (fun _ _=>rfl)) (pe_ix ix_tup (pv 0) pe_int (fun _ _=>rfl))))
    (pss_cons (ps_set (i:=2) scStatesByName.nd rfl (Or.inl rfl) (pe_callTy (call_dict_of rfl) rfl m_dict boot_dict (pa_cons (pe_compL ["book", "parts", "found", "name", "moments", "link", "side", "state"] (defScope sStatesByName) ["part"] [none] rfl rfl rfl (pi_tup (pv 1)) rfl (by decide +kernel) (by decide +kernel) (by decide +kernel) (by decide +kernel) (hg:=fun cl C s H ex pn E=>(pg_name (i:=0) (by decide +kernel:(["part"]:List Str).Nodup) rfl (Or.inl rfl))) (ht:=fun cl C s H ex pn E=>pifs_nil) (he:=fun cl C s H ex pn E=>(pe_tup (pa_cons (pe_ix (ix_tupK (K:=K) rfl) (pv 0) pe_int (fun _ _=>rfl)) (pa_cons (pe_tup (pa_cons pe_str pa_nil)) pa_nil))))) pa_nil)))
    (pss_cons (ps_for PassesOwn.never rfl (pi_tup (pe_ix ix_tup (pv 0) pe_int (fun _ _=>rfl))) (pg_name (i:=3) scStatesByName.nd rfl (Or.inl rfl))
      (pss_one (ps_dput (hu_of hr) (pv 2) (pv 3) (pe_tup (pa_cons pe_str pa_nil)) rfl)))
    (pss_cons (ps_set (i:=4) scStatesByName.nd rfl (Or.inl rfl) (pe_callTy (call_dict_of rfl) rfl m_dict boot_dict (pa_cons (pe_compL ["book", "parts", "found", "name", "moments", "link", "side", "state"] (defScope sStatesByName) ["part"] [none] rfl rfl rfl (pi_tup (pv 1)) rfl (by decide +kernel) (by decide +kernel) (by decide +kernel) (by decide +kernel) (hg:=fun cl C s H ex pn E=>(pg_name (i:=0) (by decide +kernel:(["part"]:List Str).Nodup) rfl (Or.inl rfl))) (ht:=fun cl C s H ex pn E=>pifs_nil) (he:=fun cl C s H ex pn E=>(pe_tup (pa_cons (pe_ix (ix_tupK (K:=K) rfl) (pv 0) pe_int (fun _ _=>rfl)) (pa_cons (pe_ix (ix_tupK (K:=K) rfl) (pv 0) pe_int (fun _ _=>rfl)) pa_nil))))) pa_nil)))
    (pss_cons (ps_for PassesOwn.never rfl (pi_tup (pe_ix ix_tup (pv 0) pe_int (fun _ _=>rfl))) (pg_name (i:=5) scStatesByName.nd rfl (Or.inl rfl))
      (pss_one (ps_for PassesOwn.never rfl (pi_tup (pe_tup (pa_cons pe_int (pa_cons pe_int pa_nil)))) (pg_name (i:=6) scStatesByName.nd rfl (Or.inl rfl))
      (pss_cons (ps_set (i:=7) scStatesByName.nd rfl (Or.inl rfl) (pe_cal C_state_in_link hr (by decide) rfl (pa_cons (pv 5) (pa_cons (pv 6) (pa_cons (pv 4) pa_nil)))))
    (pss_one (ps_for PassesOwn.never rfl (pi_tup (pe_ix ix_tup (pv 5) (pv 6) (fun _ _=>rfl))) (pg_name (i:=3) scStatesByName.nd rfl (Or.inl rfl))
      (pss_one (ps_dput (hu_of hr) (pv 2) (pv 3) (pv 7) rfl))))))))
    (pss_one (ps_ret (pv 2)))))))),?_⟩
  obtain ⟨p,pl,pr,pk,pa,ls,rs,ws,rfl,hp,hpl,hdl,hpr,hdr,hpk,hdk,hpa⟩:=den_book hv
  have at0:atI [V.ref pl,V.ref pr,V.ref pk,V.ref pa] 0=some (.ref pl):=atI_zero _ _
  have at1:atI [V.ref pl,V.ref pr,V.ref pk,V.ref pa] 1=some (.ref pr):=atI_nat (xs:=[V.ref pl,V.ref pr,V.ref pk,V.ref pa]) (j:=1) rfl
  have at2:atI [V.ref pl,V.ref pr,V.ref pk,V.ref pa] 2=some (.ref pk):=atI_nat (xs:=[V.ref pl,V.ref pr,V.ref pk,V.ref pa]) (j:=2) rfl
  have at3:atI [V.ref pl,V.ref pr,V.ref pk,V.ref pa] 3=some (.ref pa):=atI_nat (xs:=[V.ref pl,V.ref pr,V.ref pk,V.ref pa]) (j:=3) rfl
  have l1:=hdl.len
  have l2:=hdr.len
  rw [List.length_map] at l1 l2
  have lL:=vb.lL
  have lR:=vb.lR
  refine ⟨_,rfl,p,_,_,_,rfl,rfl,SqT.of hp,at0,_,rfl,p,_,_,_,rfl,rfl,SqT.of hp,at1,?_⟩
  refine ⟨pl,pr,_,_,rfl,rfl,hpl,hpr,small (by omega),fun q2 H2 s2 e2=>?_⟩
  have dA:DenL H2 (ls++rs) ((L++R).map partD):=by
    rw [List.map_append]
    exact denl_app (hdl.same s2) (hdr.same s2)
  have hnd:=vb.nd
  generalize ls++rs=us at e2 dA
  generalize hLR:L++R=ps at dA kk hnd
  have hpl18:ps.length≤24:=by rw [← hLR,List.length_append]; omega
  have hmo:∀ q∈ps,q.2.2.length≤4:=fun q hq=>(vb.mo q (by rw [hLR]; exact hq)).1
  have hul:=dA.len
  rw [List.length_map] at hul
  have part_at:∀ {i:Nat} {H':Hp},(hi:i < ps.length)→Same H2 H'→∃ (b pm:Addr) (y:V),us[i]?=some (.ref b)∧H' b=some (.tup [mkT ps[i].1,y,.ref pm])∧Den H' (.ref pm) (momD ps[i].2.2):=by
    intro i H' hi s
    have hat:us[i]?=some us[i]:=List.getElem?_eq_getElem (by omega)
    obtain ⟨dd,hdd,dy⟩:=dA.at_ hat
    rw [List.getElem?_map,List.getElem?_eq_getElem hi] at hdd
    have edd:partD ps[i]=dd:=Option.some.inj hdd
    subst edd
    obtain ⟨b,bs,eb,hb,hbd⟩:=den_tup (dy.same s)
    match bs,hbd with
    | [c0,c1,c2],hbd =>
      have ec:c0=mkT ps[i].1:=hbd.1
      obtain ⟨pm,ms,rfl,h1,h2⟩:=den_tup hbd.2.2.1
      exact ⟨b,pm,c1,by rw [hat,eb],by rw [hb,ec],⟨pm,ms,rfl,h1,h2⟩⟩
    | [],h=>exact h.elim
    | [_],h=>exact h.2.elim
    | [_,_],h=>exact h.2.2.elim
    | _ :: _ :: _ :: _ :: _,h=>exact h.2.2.2.elim
  refine ⟨_,rfl,q2,rfl,⟨_,SqT.of e2⟩,fun lc hlc=>?_⟩
  refine comp_by (J:=Itt K q2) (l:=lc) us.length (fun i σ' H'=>∃ (v:Option V) (vs:List V) (kvs:List (Key × V)),σ'=[v]∧Same H2 H'∧H' lc=some (.lst vs)∧Prs H' vs kvs∧Fd H' kvs (ps.take i) (fun _=>stD .lack)) ⟨none,[],[],rfl,same_new hlc _,upd_same,.nil,.nil⟩ ?_ ?_
  · rintro σ' H3 ⟨v,vs,kvs,rfl,s3,e3,pr3,fd3⟩
    rw [hul,List.take_length] at fd3
    refine ⟨⟨_,SqT.of (s3 _ _ e2),Nat.le_refl _⟩,lc,vs,kvs,rfl,e3,pr3,fun d hd=>?_⟩
    have em:mergeK [] kvs=kvs:=merge_new kvs [] (by rw [List.nil_append]; exact fd3.nodup hnd)
    rw [em]
    have hdH:H d=none:=same_none (s2.trans s3) hd
    have s4:=same_new hd (.dK kvs)
    have sA:=(s2.trans s3).trans s4
    have fd4:=fd3.same s4
    have e4d:(upd H3 d (.dK kvs)) d=some (.dK kvs):=upd_same
    have s24:Same H2 (upd H3 d (.dK kvs)):=s3.trans s4
    generalize upd H3 d (.dK kvs)=H4 at sA fd4 e4d s24
    clear s4 fd3 pr3 e3 s3 hd
    refine gN ⟨_,rfl,p,_,_,_,rfl,rfl,SqT.of (sA _ _ hp),at3,pa,rfl,⟨_,SqT.of (sA _ _ hpa)⟩,?_⟩
    have hal:(al.map sOf).map V.str=al.map mkT:=by rw [List.map_map]; rfl
    rw [hal] at hpa
    have nq:q2≠d:=fun z=>by
      subst z
      rw [s24 _ _ e2] at e4d
      cases e4d
    refine for_tup (K:=K) (a:=pa) (xs:=al.map mkT) (fun i σ H5=>∃ (v3:Option V) (kvs:List (Key × V)),σ=[some (.ref p),some (.ref q2),some (.ref d),v3,none,none,none,none]∧Same H H5∧H5 d=some (.dK kvs)∧Fd H5 kvs ps (fun p=>stD (setAll (fun _=>.lack) (al.take i) .alone p.1))∧H5 q2=some (.tup us)∧DenL H5 us (ps.map partD)) ⟨_,kvs,rfl,sA,e4d,fd4,s24 _ _ e2,dA.same s24⟩ ?_ ?_ ?_
    · rintro i σ H5 _ ⟨v3,kvs,rfl,s5,_⟩
      exact SqT.of (s5 _ _ hpa)
    · rintro i y σ H5 hi ⟨v3,kvs,rfl,s5,e5d,fd5,e5q,dn5⟩
      have hi':i < al.length:=by
        have:=(List.getElem?_eq_some_iff.mp hi).1
        rwa [List.length_map] at this
      rw [at_T hi'] at hi
      injection hi with hi
      subst hi
      have hx:al[i]∈ps.map (·.1):=by rw [← hLR]; exact vb.al_in _ (List.getElem_mem hi')
      have fl:=fd_len fd5
      refine gN ⟨smn 1,fun t ht=>⟨_,rfl,_,rfl,d,_,rfl,DPut.k (k:=nkey al[i]) (same_new ht _ _ _ e5d) (small1000 (by omega)),?_⟩⟩
      have w:=same_new ht (.tup [.str "alone"])
      have kT:=keepT_dict (b:=putK kvs (nkey al[i]) (.ref t)) (w _ _ e5d)
      refine ⟨_,putK kvs (nkey al[i]) (.ref t),rfl,?_,upd_same,?_,kT _ _ (w _ _ e5q),(dn5.same w).keepT kT⟩
      · intro c o z
        rw [upd_ne (ne_of_none z hdH)]
        exact w _ _ (s5 c o z)
      · refine Fd.congr (fun q _=>?_) ((fd_put (fd5.same w) hx (show Den _ (.ref t) (stD .alone) from ⟨t,_,rfl,upd_same,rfl,trivial⟩)).keepT kT)
        rw [List.take_add_one,List.getElem?_eq_getElem hi']
        show _=stD (setAll _ (al.take i++[al[i]]) _ _)
        rw [setAll_snoc]
        split <;> rfl
    · rintro σ H5 ⟨v3,kvs,rfl,s5,e5d,fd5,e5q,dn5⟩
      rw [List.length_map,List.take_length] at fd5
      have part_at5:∀ {i:Nat} {H':Hp},(hi:i < ps.length)→Same H5 H'→∃ (b pm:Addr) (y:V),us[i]?=some (.ref b)∧H' b=some (.tup [mkT ps[i].1,y,.ref pm])∧Den H' (.ref pm) (momD ps[i].2.2):=by
        intro i H' hi s
        have hat:us[i]?=some us[i]:=List.getElem?_eq_getElem (by omega)
        obtain ⟨dd,hdd,dy⟩:=dn5.at_ hat
        rw [List.getElem?_map,List.getElem?_eq_getElem hi] at hdd
        have edd:partD ps[i]=dd:=Option.some.inj hdd
        subst edd
        obtain ⟨b,bs,eb,hb,hbd⟩:=den_tup (dy.same s)
        match bs,hbd with
        | [c0,c1,c2],hbd =>
          have ec:c0=mkT ps[i].1:=hbd.1
          obtain ⟨pm,ms,rfl,h1,h2⟩:=den_tup hbd.2.2.1
          exact ⟨b,pm,c1,by rw [hat,eb],by rw [hb,ec],⟨pm,ms,rfl,h1,h2⟩⟩
        | [],h=>exact h.elim
        | [_],h=>exact h.2.elim
        | [_,_],h=>exact h.2.2.elim
        | _ :: _ :: _ :: _ :: _,h=>exact h.2.2.2.elim
      refine ⟨_,rfl,q2,rfl,⟨_,SqT.of e5q⟩,fun lm hlm=>?_⟩
      refine comp_by (J:=Itt K q2) (l:=lm) us.length (fun i σ' H'=>∃ (v:Option V) (vs:List V) (kvm:List (Key × V)),σ'=[v]∧Same H5 H'∧H' lm=some (.lst vs)∧Prs H' vs kvm∧Fd H' kvm (ps.take i) (fun q=>momD q.2.2)) ⟨none,[],[],rfl,same_new hlm _,upd_same,.nil,.nil⟩ ?_ ?_
      · rintro σ' H6 ⟨v,vs,kvm,rfl,s6,e6,pr6,fd6⟩
        rw [hul,List.take_length] at fd6
        refine ⟨⟨_,SqT.of (s6 _ _ e5q),Nat.le_refl _⟩,lm,vs,kvm,rfl,e6,pr6,fun dm hdm=>?_⟩
        rw [merge_new kvm [] (by rw [List.nil_append]; exact fd6.nodup hnd),List.nil_append]
        have s7:=same_new hdm (.dK kvm)
        have e7m:(upd H6 dm (.dK kvm)) dm=some (.dK kvm):=upd_same
        have s57:=s6.trans s7
        have fdm:=fd6.same s7
        have nmd:dm≠d:=(ne_of_none (s6 _ _ e5d) hdm).symm
        generalize upd H6 dm (.dK kvm)=H7 at e7m s57 fdm
        have s07:=s5.trans s57
        have hdmH:H dm=none:=same_none (s5.trans s6) hdm
        clear s7 fd6 pr6 e6 s6 hdm hlm
        have hwl:=hdk.len
        rw [List.length_map] at hwl
        refine gN ⟨_,rfl,p,_,_,_,rfl,rfl,SqT.of (s07 _ _ hp),at2,pk,rfl,⟨_,SqT.of (s07 _ _ hpk)⟩,?_⟩
        refine for_tup (K:=K) (a:=pk) (xs:=ws) (fun i σ H8=>∃ (v3 v5 v6 v7:Option V) (kvs:List (Key × V)),σ=[some (.ref p),some (.ref q2),some (.ref d),v3,some (.ref dm),v5,v6,v7]∧Same H H8∧H8 d=some (.dK kvs)∧Fd H8 kvs ps (fun p=>stD ((ks.take i).foldl (afterLink ps) (setAll (fun _=>.lack) al .alone) p.1))∧H8 dm=some (.dK kvm)∧Fd H8 kvm ps (fun q=>momD q.2.2)) ⟨_,_,_,_,kvs,rfl,s07,s57 _ _ e5d,fd5.same s57,e7m,fdm⟩ ?_ ?_ ?_
        · rintro i σ H8 _ ⟨v3,v5,v6,v7,kvs,rfl,s8,_⟩
          exact SqT.of (s8 _ _ hpk)
        · rintro i y σ H8 hi ⟨v3,v5,v6,v7,kvs,rfl,s8,e8d,fd8,e8m,fm8⟩
          have hni:i < ks.length:=by
            have:=(List.getElem?_eq_some_iff.mp hi).1
            omega
          obtain ⟨dd,hdd,dy⟩:=hdk.at_ hi
          rw [List.getElem?_map,List.getElem?_eq_getElem hni] at hdd
          have edd:linkD ks[i]=dd:=Option.some.inj hdd
          subst edd
          have hkm:ks[i]∈ks:=List.getElem_mem hni
          have htk:ks.take (i+1)=ks.take i++[ks[i]]:=by
            rw [List.take_add_one,List.getElem?_eq_getElem hni]
            rfl
          generalize hk:ks[i]=k at *
          obtain ⟨b,p0,p1,p3,p4,p5,us0,us1,rfl,hb,h0,hd0,h1,hd1,_⟩:=den_link dy
          rw [denS hd0] at h0
          rw [denS hd1] at h1
          generalize hf:(ks.take i).foldl (afterLink ps) (setAll (fun _=>.lack) al .alone)=f0 at fd8
          have inS:∀ n:Nat,n≤1→∀ x∈sideOf n k,x∈ps.map (·.1):=fun n hn x hx=>by
            rw [← hLR,List.map_append]
            match n,hn with
            | 0,_=>exact List.mem_append_left _ (vb.on x (List.mem_flatMap.mpr ⟨k,hkm,hx⟩))
            | 1,_=>exact List.mem_append_right _ (vb.off x (List.mem_flatMap.mpr ⟨k,hkm,hx⟩))
          have lenS:∀ n:Nat,(sideOf n k).length≤13∧(lostOf n k).length≤4:=fun n=>by
            unfold sideOf lostOf
            have a1:=vb.nl k hkm
            have a2:=vb.lo k hkm
            split <;> omega
          refine gN ⟨smn 2,fun tt htt=>?_⟩
          have w:=same_new htt (.tup [.int 0,.int 1])
          have s9:=s8.trans w
          have e9d:=w _ _ e8d
          have fd9:=fd8.same w
          have e9m:=w _ _ e8m
          have fm9:=fm8.same w
          have e9t:(upd H8 tt (.tup [.int 0,.int 1])) tt=some (.tup [.int 0,.int 1]):=upd_same
          generalize upd H8 tt (.tup [.int 0,.int 1])=H9 at s9 e9d fd9 e9m fm9 e9t
          clear w htt fd8 fm8 e8d e8m s8
          refine ⟨tt,rfl,⟨_,SqT.of e9t⟩,?_⟩
          refine for_tup (K:=K) (a:=tt) (xs:=[.int 0,.int 1]) (fun j σ H9=>∃ (v3 v6 v7:Option V) (kvs:List (Key × V)),σ=[some (.ref p),some (.ref q2),some (.ref d),v3,some (.ref dm),some (.ref b),v6,v7]∧Same H H9∧H9 d=some (.dK kvs)∧Fd H9 kvs ps (fun p=>stD (midF ps f0 k j p.1))∧H9 dm=some (.dK kvm)∧Fd H9 kvm ps (fun q=>momD q.2.2)∧H9 tt=some (.tup [.int 0,.int 1])) ⟨_,_,_,kvs,rfl,s9,e9d,fd9,e9m,fm9,e9t⟩ ?_ ?_ ?_
          · rintro j σ H10 _ ⟨_,_,_,_,_,_,_,_,_,_,e10t⟩
            exact SqT.of e10t
          · rintro j y σ H10 hj ⟨v3,v6,v7,kvs,rfl,s10,e10d,fd10,e10m,fm10,e10t⟩
            have hj1:j≤1:=by
              have:=(List.getElem?_eq_some_iff.mp hj).1
              simp at this
              omega
            obtain ⟨pq,rfl,hat,hpq⟩:∃ pq,y=.int (j:Nat)∧atI [V.ref p0,V.ref p1,V.int k.2.2.1,V.ref p3] (j:Nat)=some (.ref pq)∧H pq=some (.tup ((sideOf j k).map mkT)):=by
              match j,hj1,hj with
              | 0,_,hj=>exact ⟨p0,(Option.some.inj hj).symm,atI_zero _ _,h0⟩
              | 1,_,hj=>exact ⟨p1,(Option.some.inj hj).symm,atI_nat (xs:=[V.ref p0,V.ref p1,V.int k.2.2.1,V.ref p3]) (j:=1) rfl,h1⟩
            refine gN ⟨_,rfl,_,rfl,_,rfl,_,k,j,dm,kvm,ps,rfl,hj1,dy.same s10,e10m,fm10,inS (1 - j) (by omega),hmo,(lenS _).2,(lenS _).1,fun u H11 s11 d11=>?_⟩
            have s11':=s10.trans s11
            refine gN ⟨_,rfl,_,rfl,b,_,_,_,rfl,rfl,SqT.of (s11' _ _ hb),hat,pq,rfl,⟨_,SqT.of (s11' _ _ hpq)⟩,?_⟩
            refine for_tup (K:=K) (a:=pq) (xs:=(sideOf j k).map mkT) (fun m σ H12=>∃ (v3:Option V) (kvs:List (Key × V)),σ=[some (.ref p),some (.ref q2),some (.ref d),v3,some (.ref dm),some (.ref b),some (.int (j:Nat)),some u]∧Same H H12∧H12 d=some (.dK kvs)∧Fd H12 kvs ps (fun p=>stD (setAll (midF ps f0 k j) ((sideOf j k).take m) (pst ps k j) p.1))∧H12 dm=some (.dK kvm)∧Fd H12 kvm ps (fun q=>momD q.2.2)∧H12 tt=some (.tup [.int 0,.int 1])∧Den H12 u (stD (pst ps k j))) ⟨_,kvs,rfl,s11',s11 _ _ e10d,Fd.congr (fun q _=>rfl) (fd10.same s11),s11 _ _ e10m,fm10.same s11,s11 _ _ e10t,d11⟩ ?_ ?_ ?_
            · rintro m σ H12 _ ⟨_,_,_,s12,_⟩
              exact SqT.of (s12 _ _ hpq)
            · rintro m y σ H12 hm ⟨v3,kvs,rfl,s12,e12d,fd12,e12m,fm12,e12t,d12⟩
              have hm':m < (sideOf j k).length:=by
                have:=(List.getElem?_eq_some_iff.mp hm).1
                rwa [List.length_map] at this
              rw [at_T hm'] at hm
              injection hm with hm
              subst hm
              have hx:=inS j hj1 _ (List.getElem_mem hm')
              have fl:=fd_len fd12
              have kT:=keepT_dict (b:=putK kvs (nkey (sideOf j k)[m]) u) e12d
              refine gN ⟨_,rfl,_,rfl,_,rfl,d,_,rfl,DPut.k (k:=nkey (sideOf j k)[m]) e12d (small1000 (by omega)),_,putK kvs (nkey (sideOf j k)[m]) u,rfl,?_,upd_same,?_,(upd_ne nmd).trans e12m,fm12.keepT kT,kT _ _ e12t,Den.keepT kT d12⟩
              · intro c o z
                rw [upd_ne (ne_of_none z hdH)]
                exact s12 c o z
              · refine Fd.congr (fun q _=>?_) ((fd_put fd12 hx d12).keepT kT)
                rw [List.take_add_one,List.getElem?_eq_getElem hm']
                show _=stD (setAll _ ((sideOf j k).take m++[(sideOf j k)[m]]) _ _)
                rw [setAll_snoc]
                split <;> rfl
            · rintro σ H12 ⟨v3,kvs,rfl,s12,e12d,fd12,e12m,fm12,e12t,d12⟩
              rw [List.length_map,List.take_length] at fd12
              refine ⟨_,_,_,kvs,rfl,s12,e12d,?_,e12m,fm12,e12t⟩
              refine Fd.congr (fun q _=>?_) fd12
              rw [mid_step ps f0 k hj1]
          · rintro σ H10 ⟨v3,v6,v7,kvs,rfl,s10,e10d,fd10,e10m,fm10,e10t⟩
            refine ⟨_,_,_,_,kvs,rfl,s10,e10d,?_,e10m,fm10⟩
            refine Fd.congr (fun q _=>?_) fd10
            rw [htk,List.foldl_append,hf]
            rfl
        · rintro σ H8 ⟨v3,v5,v6,v7,kvs,rfl,s8,e8d,fd8,e8m,fm8⟩
          rw [hwl,List.take_length] at fd8
          exact ⟨_,rfl,kk d kvs H8 hdH s8 e8d fd8⟩
      · rintro i σ' H6 hi ⟨v,vs,kvm,rfl,s6,e6,pr6,fd6⟩
        have hni:i < ps.length:=by omega
        obtain ⟨b,pm,yy,hub,hb,hm⟩:=part_at5 hni s6
        refine ⟨⟨_,_,SqT.of (s6 _ _ e5q),hub⟩,?_⟩
        rintro y H'' ⟨rfl,hy⟩
        have ey:y=.ref b:=Option.some.inj ((hy _ (SqT.of (s6 _ _ e5q))).symm.trans hub)
        subst ey
        refine gN (yesT (iteT ?_))
        refine ⟨_,rfl,b,_,_,_,rfl,rfl,SqT.of hb,atI_zero _ _,_,rfl,b,_,_,_,rfl,rfl,SqT.of hb,atI_nat (xs:=[mkT ps[i].1,yy,V.ref pm]) (j:=2) rfl,smn 2,fun t2 h2=>?_⟩
        have w2:=same_new h2 (.tup [mkT ps[i].1,.ref pm])
        have pl3:=pr6.len
        have fl3:=fd_len fd6
        rw [List.length_take] at fl3
        have ntl:t2≠lm:=(ne_of_none e6 h2).symm
        have ec:=w2 _ _ e6
        have kT:=keepT_upd (zs:=vs++[.ref t2]) ec
        refine ⟨vs,ec,small1000 (by omega),_,vs++[.ref t2],kvm++[(nkey ps[i].1,.ref pm)],rfl,?_,upd_same,?_,?_⟩
        · intro c o z
          rw [upd_ne (ne_of_none z hlm)]
          exact w2 _ _ (s6 c o z)
        · exact Prs.snoc (kv:=(nkey ps[i].1,V.ref pm)) ⟨t2,rfl,(upd_ne ntl).trans upd_same⟩ (prs_keepT kT (pr6.same w2))
        · rw [List.take_add_one,List.getElem?_eq_getElem hni]
          exact Fd.snoc ⟨rfl,Den.keepT kT (hm.same w2)⟩ ((fd6.same w2).keepT kT)
  · rintro i σ' H3 hi ⟨v,vs,kvs,rfl,s3,e3,pr3,fd3⟩
    have hni:i < ps.length:=by omega
    obtain ⟨b,pm,yy,hub,hb,hm⟩:=part_at hni s3
    refine ⟨⟨_,_,SqT.of (s3 _ _ e2),hub⟩,?_⟩
    rintro y H'' ⟨rfl,hy⟩
    have ey:y=.ref b:=Option.some.inj ((hy _ (SqT.of (s3 _ _ e2))).symm.trans hub)
    subst ey
    refine gN (yesT (iteT ?_))
    refine ⟨_,rfl,b,_,_,_,rfl,rfl,SqT.of hb,atI_zero _ _,smn 1,fun t1 h1=>⟨smn 2,fun t2 h2=>?_⟩⟩
    have w1:=same_new h1 (.tup [.str "lacking"])
    have w2:=same_new h2 (.tup [mkT ps[i].1,.ref t1])
    have w12:=w1.trans w2
    have pl3:=pr3.len
    have fl3:=fd_len fd3
    rw [List.length_take] at fl3
    have ntl:t2≠lc:=(ne_of_none (w1 _ _ e3) h2).symm
    have ec:=w12 _ _ e3
    have kT:=keepT_upd (zs:=vs++[.ref t2]) ec
    refine ⟨vs,ec,small1000 (by omega),_,vs++[.ref t2],kvs++[(nkey ps[i].1,.ref t1)],rfl,?_,upd_same,?_,?_⟩
    · intro c o z
      rw [upd_ne (ne_of_none z hlc)]
      exact w12 _ _ (s3 c o z)
    · exact Prs.snoc (kv:=(nkey ps[i].1,V.ref t1)) ⟨t2,rfl,(upd_ne ntl).trans upd_same⟩ (prs_keepT kT (pr3.same w12))
    · rw [List.take_add_one,List.getElem?_eq_getElem hni]
      refine Fd.snoc ⟨rfl,?_⟩ ((fd3.same w12).keepT kT)
      exact Den.keepT kT (show Den _ (.ref t1) (stD .lack) from ⟨t1,_,rfl,w2 _ _ upd_same,rfl,trivial⟩)
end
theorem in_names (x:List Nat) (xs:Nms):inV (mkT x) (xs.map mkT)=decide (x∈xs):=by
  have e:xs.map mkT=(xs.map sOf).map V.str:=by rw [List.map_map]; rfl
  rw [e,inV_str]
  rw [Bool.eq_iff_iff,decide_eq_true_eq,decide_eq_true_eq]
  constructor
  · intro h
    obtain ⟨y,hy,e⟩:=List.mem_map.mp h
    rw [← str_inj' e]
    exact hy
  · exact fun h=>List.mem_map_of_mem h
theorem flat_names (xs:Nms):(xs.map mkT).all flatV=true:=by
  have e:xs.map mkT=(xs.map sOf).map V.str:=by rw [List.map_map]; rfl
  rw [e]
  exact flat_strs _
theorem find_first {α:Type} {p:α→Bool}:∀ {xs:List α} {i:Nat} (hi:i < xs.length),(∀ x∈xs.take i,p x=false)→p xs[i]=true→xs.find? p=some xs[i]
  | x :: xs,0,_,_,h=>by
    rw [List.find?_cons,show p x=true from h]
    rfl
  | x :: xs,i+1,hi,h0,h=>by
    rw [List.find?_cons,h0 x (by rw [List.take_succ_cons]; exact .head _)]
    exact find_first (by simpa using hi) (fun y hy=>h0 y (by rw [List.take_succ_cons]; exact .tail _ hy)) h
theorem den_part {H:Hp} {v:V} {q:Prt} (h:Den H v (partD q)):∃ (b pm:Addr),v=.ref b∧H b=some (.tup [mkT q.1,mkT q.2.1,.ref pm])∧H pm=some (.tup (q.2.2.map V.int)):=by
  obtain ⟨b,bs,rfl,hb,hbd⟩:=den_tup h
  match bs,hbd with
  | [c0,c1,c2],hbd =>
    have e0:c0=mkT q.1:=hbd.1
    have e1:c1=mkT q.2.1:=hbd.2.1
    obtain ⟨pm,ms,rfl,h1,h2⟩:=den_tup hbd.2.2.1
    rw [denI h2] at h1
    exact ⟨b,pm,rfl,by rw [hb,e0,e1],h1⟩
  | [],h=>exact h.elim
  | [_],h=>exact h.2.elim
  | [_,_],h=>exact h.2.2.elim
  | _ :: _ :: _ :: _ :: _,h=>exact h.2.2.2.elim
def stp (f:List Nat→Stt) (p:Prt):D:=.tup [sD p.1,stD (f p.1)]
theorem den_stp {H:Hp} {v:V} {f:List Nat→Stt} {p:Prt} (h:Den H v (stp f p)):∃ (b:Addr) (u:V),v=.ref b∧H b=some (.tup [mkT p.1,u])∧Den H u (stD (f p.1)):=by
  obtain ⟨b,bs,rfl,hb,hbd⟩:=den_tup h
  match bs,hbd with
  | [c0,c1],hbd =>
    have e0:c0=mkT p.1:=hbd.1
    exact ⟨b,c1,rfl,by rw [hb,e0],hbd.2.1⟩
  | [],h=>exact h.elim
  | [_],h=>exact h.2.elim
  | _ :: _ :: _ :: _,h=>exact h.2.2.elim
def isLack:Stt→Bool
  | .lack=>true
  | _=>false
def lackN (f:List Nat→Stt) (ps:List Prt):Nms:=(ps.filter fun p=>isLack (f p.1)).map (·.1)
theorem st_form (s:Stt):∃ (x:Str) (r:List D),stD s=.tup (.str x :: r)∧(∀ d∈r,∃ i,d=.int i)∧r.length≤1:=by
  cases s with
  | lack=>exact ⟨_,[],rfl,(fun d h=>by cases h),by decide⟩
  | alone=>exact ⟨_,[],rfl,(fun d h=>by cases h),by decide⟩
  | step=>exact ⟨_,[],rfl,(fun d h=>by cases h),by decide⟩
  | stale m=>exact ⟨_,[.int m],rfl,(fun d h=>⟨m,List.mem_singleton.mp h⟩),by simp⟩
theorem shal_st (s:Stt):Shal 1 (stD s):=by
  obtain ⟨x,r,e,h,hl⟩:=st_form s
  rw [e]
  refine shal_tup (by rw [List.length_cons]; omega) fun d hd=>?_
  rcases List.mem_cons.mp hd with rfl | hd
  · exact shal_str _
  · obtain ⟨i,rfl⟩:=h d hd
    exact shal_int _
theorem shal_one (x:Str):Shal 1 (.tup [.str x]):=shal_tup (by simp) fun d hd=>by rw [List.mem_singleton.mp hd]; exact shal_str _
theorem simL_one (x y:Str) (r:List D):SimL (.str x :: r) [.str y]:=by
  rw [SimL]
  refine ⟨sim_str _ _,?_⟩
  cases r <;> simp [SimL]
theorem eq_lack (s:Stt):eqD (stD s) (.tup [.str "lacking"])=isLack s:=by
  cases s with
  | lack=>exact eqD_iff.mpr rfl
  | alone =>
    cases h:eqD (stD .alone) (.tup [.str "lacking"]) with
    | false=>rfl
    | true =>
      have:=eqD_iff.mp h
      unfold stD at this
      injection this with this
      injection this with this
      injection this with this
      exact absurd this (by decide +kernel)
  | step =>
    cases h:eqD (stD .step) (.tup [.str "lacking"]) with
    | false=>rfl
    | true =>
      have:=eqD_iff.mp h
      unfold stD at this
      injection this with this
      injection this with this
      injection this with this
      exact absurd this (by decide +kernel)
  | stale m =>
    cases h:eqD (stD (.stale m)) (.tup [.str "lacking"]) with
    | false=>rfl
    | true =>
      have:=eqD_iff.mp h
      unfold stD at this
      injection this with this
      injection this with _ this
      cases this
theorem lackN_snoc (f:List Nat→Stt) (ps:List Prt) (p:Prt):lackN f (ps++[p])=lackN f ps++if isLack (f p.1)=true then [p.1] else []:=by
  unfold lackN
  rw [List.filter_append,List.map_append]
  by_cases h:isLack (f p.1)=true
  · simp [h]
  · simp [h]
theorem lackN_len (f:List Nat→Stt) (ps:List Prt):(lackN f ps).length≤ps.length:=by
  unfold lackN
  rw [List.length_map]
  exact List.length_filter_le _ _
def spStates:Sp:=fun vs H Q _=>∃ (v:V) (L R:List Prt) (ks:List Lnk) (al:Nms),vs=[v]∧Den H v (bookD L R ks al)∧VB L R ks al∧∀ (u:V) (H':Hp),Same H H'→Den H' u (.tup [.tup (L.map (stp (final (L++R) ks al))),.tup (R.map (stp (final (L++R) ks al)))])→Q u H'
def spNmLack:Sp:=fun vs H Q _=>∃ (v:V) (f:List Nat→Stt) (ps:List Prt),vs=[v]∧Den H v (.tup (ps.map (stp f)))∧ps.length≤100∧∀ (q:Addr) (H':Hp),Same H H'→H' q=some (.tup ((lackN f ps).map mkT))→Q (.ref q) H'
def spLack:Sp:=fun vs H Q _=>∃ (v:V) (L R:List Prt) (ks:List Lnk) (al:Nms),vs=[v]∧Den H v (bookD L R ks al)∧VB L R ks al∧∀ (u:V) (H':Hp),Same H H'→Den H' u (.tup [namesD (lackN (final (L++R) ks al) L),namesD (lackN (final (L++R) ks al) R)])→Q u H'
section
variable {P:Program} {w:World} {K:PySem.W.Frag} {mg:Str→Option Value} {base:Heap}
theorem walk_lack {p lc:Addr} {H:Hp} {us:List V} {f:List Nat→Stt} {ps:List Prt} {R:Hp→Prop} (hp:H p=some (.tup us)) (dn:DenL H us (ps.map (stp f))) (hl:ps.length≤100) (hlc:H lc=none) (hfin:∀ (H':Hp),Same H H'→H' lc=some (.lst ((lackN f ps).map mkT))→R H') :
    ∃ W:Nat→Nat→L2.St→Hp→Prop,(∃ m,W 0 m [none,none] (upd H lc (.lst [])))∧∀ i m σ H,W i m σ H →
      ((Itt K p).stop i H∧R H)∨((Itt K p).go i H∧∃ N:L2.St→Hp→Prop,(∀ σ' H',N σ' H'→∃ m',m' < m∧W (i+1) m' σ' H') ∧
        ∀ x H',(Itt K p).yld i H x H'→gTup K 2 (gCons (gName 0) (gCons (gName 1) gNil)) x σ H' fun σ2 H2=>tTest (tOp rEqDt (tVar 1) (tTup (tCons (tC (.str "lacking")) tNil))) σ2 H2 fun b H3=>if b=true then tVar 0 σ2 H3 fun v H4=>∃ ys,H4 lc=some (.lst ys)∧ys.length < sizeLine∧N σ2 (upd H4 lc (.lst (ys++[v]))) else N σ2 H3):=by
  have hul:=dn.len
  rw [List.length_map] at hul
  refine comp_by (J:=Itt K p) (l:=lc) us.length (fun i σ' H'=>∃ (v0 v1:Option V),σ'=[v0,v1]∧Same H H'∧H' lc=some (.lst ((lackN f (ps.take i)).map mkT))) ⟨none,none,rfl,same_new hlc _,upd_same⟩ ?_ ?_
  · rintro σ' H' ⟨v0,v1,rfl,s,e⟩
    rw [hul,List.take_length] at e
    exact ⟨⟨_,SqT.of (s _ _ hp),Nat.le_refl _⟩,hfin H' s e⟩
  · rintro i σ' H' hi ⟨v0,v1,rfl,s,e⟩
    have hni:i < ps.length:=by omega
    have hat:us[i]?=some us[i]:=List.getElem?_eq_getElem hi
    refine ⟨⟨_,_,SqT.of (s _ _ hp),hat⟩,?_⟩
    rintro y H'' ⟨rfl,hy⟩
    have ey:y=us[i]:=Option.some.inj ((hy _ (SqT.of (s _ _ hp))).symm.trans hat)
    obtain ⟨dd,hdd,dy⟩:=dn.at_ hat
    rw [← ey] at dy
    rw [List.getElem?_map,List.getElem?_eq_getElem hni] at hdd
    have edd:stp f ps[i]=dd:=Option.some.inj hdd
    subst edd
    obtain ⟨b,u,rfl,hb,hu⟩:=den_stp (dy.same s)
    have htk:ps.take (i+1)=ps.take i++[ps[i]]:=by
      rw [List.take_add_one,List.getElem?_eq_getElem hni]
      rfl
    obtain ⟨x,r,ef,_,_⟩:=st_form (f ps[i].1)
    refine ⟨b,_,rfl,SqT.of hb,rfl,_,_,rfl,_,_,rfl,rfl,_,rfl,smn 1,fun t ht=>?_⟩
    have w:=same_new ht (.tup [.str "lacking"])
    refine ⟨.str x :: r,[.str "lacking"],0,by rw [← ef]; exact hu.same w,⟨t,_,rfl,upd_same,rfl,trivial⟩,by rw [← ef]; exact shal_st _,shal_one _,by decide,simL_one _ _ _,_,rfl,?_⟩
    rw [← ef,eq_lack]
    have ew:=w _ _ e
    have sw:=s.trans w
    generalize upd H'' t (.tup [.str "lacking"])=H3 at ew sw
    refine ite2 (fun z=>?_) (fun z=>?_)
    · refine ⟨_,rfl,_,ew,?_,_,_,rfl,?_,?_⟩
      · rw [List.length_map]
        have:=lackN_len f (ps.take i)
        rw [List.length_take] at this
        exact small1000 (by omega)
      · intro c o y
        rw [upd_ne (ne_of_none y hlc)]
        exact sw c o y
      · rw [upd_same,htk,lackN_snoc,if_pos z,List.map_append]
        rfl
    · refine ⟨_,_,rfl,sw,?_⟩
      rw [htk,lackN_snoc,if_neg z,List.append_nil]
      exact ew
theorem scNamesLacking:FnScope ["rows"] ["rows"] (defScope sNamesLacking):=⟨rfl,rfl,rfl,by decide +kernel,rfl,by decide +kernel,by decide +kernel⟩
theorem c_names_lacking (h:Has K mg "names_lacking" sNamesLacking ["rows"]) (m_tuple:mg "tuple" = none):Cal P w K mg base "names_lacking" 1 ["rows"] spNmLack:=by
  refine h.mk' scNamesLacking (fun vs H Q E hs=>?_) (fun f cdv A outer s H vs Q E hr hs=>?_)
  · obtain ⟨v,f,ps,rfl,_⟩:=hs
    rfl
  obtain ⟨v,f,ps,rfl,hv,hl,kk⟩:=hs
  refine ⟨_,(pss_one (ps_ret (pe_callTy call_tuple_of rfl m_tuple boot_tuple (pa_cons (pe_compL ["rows"] (defScope sNamesLacking) ["name", "state"] [none,none] rfl rfl rfl (pi_tup (pv 0)) rfl (by decide +kernel) (by decide +kernel) (by decide +kernel) (by decide +kernel) (g:=gTup K 2 (gCons (gName 0) (gCons (gName 1) gNil))) (hg:=fun cl C s H ex pn E=>pg_tup (n:=2) rfl (pgs_cons (pg_name (i:=0) (by decide +kernel:(["name", "state"]:List Str).Nodup) rfl (Or.inl rfl) (Or.inr rfl)) (pgs_cons (pg_name (i:=1) (by decide +kernel:(["name", "state"]:List Str).Nodup) rfl (Or.inl rfl) (Or.inr rfl)) pgs_nil))) (ht:=fun cl C s H ex pn E=>(pifs_one (pt_cmpR (op_eqDt hr.units) (pv 1) (pe_tup (pa_cons pe_str pa_nil)) (nomark _)))) (he:=fun cl C s H ex pn E=>(pv 0))) pa_nil)))),?_⟩
  obtain ⟨p,us,rfl,hp,hd⟩:=den_tup hv
  refine ⟨_,rfl,p,rfl,⟨_,SqT.of hp⟩,fun lc hlc=>?_⟩
  refine walk_lack hp hd hl hlc fun H1 s1 e1=>?_
  refine ⟨lc,_,rfl,.inl ⟨SqL.of e1,fun q hq=>?_⟩⟩
  exact kk q _ (s1.trans (same_new hq _)) upd_same
theorem scStates:FnScope ["book", "found", "left", "right"] ["book"] (defScope sStates):=⟨rfl,rfl,rfl,by decide +kernel,rfl,by decide +kernel,by decide +kernel⟩
theorem c_states (h:Has K mg "states" sStates ["book"]) (C_states_by_name:Cal P w K mg base "states_by_name" 2 ["book"] spSBN) (m_tuple:mg "tuple" = none):Cal P w K mg base "states" 3 ["book"] spStates:=by
  refine h.mk' scStates (fun vs H Q E hs=>?_) (fun f cdv A outer s H vs Q E hr hs=>?_)
  · obtain ⟨v,L,R,ks,al,rfl,_⟩:=hs
    rfl
  obtain ⟨v,L,R,ks,al,rfl,hv,vb,kk⟩:=hs
  refine ⟨_,(pss_cons (ps_set (i:=1) scStates.nd rfl (Or.inr rfl) (pe_cal C_states_by_name hr (by decide) rfl (pa_cons (pv 0) pa_nil)))
    (pss_cons (ps_set (i:=2) scStates.nd rfl (Or.inl rfl) (pe_callTy call_tuple_of rfl m_tuple boot_tuple (pa_cons (pe_compL ["book", "found", "left", "right"] (defScope sStates) ["found", "part"] [some 1,none] rfl rfl rfl (pi_tup (pe_ix ix_tup (pv 0) pe_int (fun _ _=>rfl))) rfl (by decide +kernel) (by decide +kernel) (by decide +kernel) (by decide +kernel) (hg:=fun cl C s H ex pn E=>(pg_name (i:=1) (by decide +kernel:(["found", "part"]:List Str).Nodup) rfl (Or.inl rfl))) (ht:=fun cl C s H ex pn E=>pifs_nil) (he:=fun cl C s H ex pn E=>(pe_tup (pa_cons (pe_ix (ix_tupK (K:=K) rfl) (pv 1) pe_int (fun _ _=>rfl)) (pa_cons (pe_dget (hu_of hr) (pv 0) (pe_ix (ix_tupK (K:=K) rfl) (pv 1) pe_int (fun _ _=>rfl)) (fun _ _=>rfl)) pa_nil))))) pa_nil)))
    (pss_cons (ps_set (i:=3) scStates.nd rfl (Or.inl rfl) (pe_callTy call_tuple_of rfl m_tuple boot_tuple (pa_cons (pe_compL ["book", "found", "left", "right"] (defScope sStates) ["found", "part"] [some 1,none] rfl rfl rfl (pi_tup (pe_ix ix_tup (pv 0) pe_int (fun _ _=>rfl))) rfl (by decide +kernel) (by decide +kernel) (by decide +kernel) (by decide +kernel) (hg:=fun cl C s H ex pn E=>(pg_name (i:=1) (by decide +kernel:(["found", "part"]:List Str).Nodup) rfl (Or.inl rfl))) (ht:=fun cl C s H ex pn E=>pifs_nil) (he:=fun cl C s H ex pn E=>(pe_tup (pa_cons (pe_ix (ix_tupK (K:=K) rfl) (pv 1) pe_int (fun _ _=>rfl)) (pa_cons (pe_dget (hu_of hr) (pv 0) (pe_ix (ix_tupK (K:=K) rfl) (pv 1) pe_int (fun _ _=>rfl)) (fun _ _=>rfl)) pa_nil))))) pa_nil)))
    (pss_one (ps_ret (pe_tup (pa_cons (pv 2) (pa_cons (pv 3) pa_nil)))))))),?_⟩
  refine ⟨_,rfl,v,L,R,ks,al,rfl,hv,vb,fun d kvs H1 hdH s1 e1 fd1=>?_⟩
  obtain ⟨p,pl,pr,pk,pa,ls,rs,ws,rfl,hp,hpl,hdl,hpr,hdr,hpk,hdk,hpa⟩:=den_book hv
  have at0:atI [V.ref pl,V.ref pr,V.ref pk,V.ref pa] 0=some (.ref pl):=atI_zero _ _
  have at1:atI [V.ref pl,V.ref pr,V.ref pk,V.ref pa] 1=some (.ref pr):=atI_nat (xs:=[V.ref pl,V.ref pr,V.ref pk,V.ref pa]) (j:=1) rfl
  have hnd:=vb.nd
  generalize hf:final (L++R) ks al=f at fd1 kk
  have look:∀ (q:Prt),q∈L++R→∃ u,valV kvs (nkey q.1)=some u∧Den H1 u (stD (f q.1)):=fun q hq=>by
    obtain ⟨u,q',a1,a2,a3,a4,a5⟩:=fd1.val (List.mem_map_of_mem hq)
    rw [a3] at a5
    exact ⟨u,a1,a5⟩
  refine gN ⟨_,rfl,p,_,_,_,rfl,rfl,SqT.of (s1 _ _ hp),at0,pl,rfl,⟨_,SqT.of (s1 _ _ hpl)⟩,fun lc hlc=>?_⟩
  have hl1:=hdl.len
  have hr1:=hdr.len
  rw [List.length_map] at hl1 hr1
  have lL:=vb.lL
  have lR:=vb.lR
  refine comp_by (J:=Itt K pl) (l:=lc) ls.length (fun i σ' H'=>∃ (v:Option V) (ws:List V),σ'=[some (.ref d),v]∧Same H1 H'∧H' lc=some (.lst ws)∧DenL H' ws ((L.take i).map (stp f))) ⟨none,[],rfl,same_new hlc _,upd_same,trivial⟩ ?_ ?_
  · rintro σ' H2 ⟨v,ws2,rfl,s2,e2,dn2⟩
    rw [hl1,List.take_length] at dn2
    have s02:=s1.trans s2
    refine ⟨⟨_,SqT.of (s02 _ _ hpl),Nat.le_refl _⟩,lc,ws2,rfl,.inl ⟨SqL.of e2,fun q3 hq3=>?_⟩⟩
    have w3:=same_new hq3 (.tup ws2)
    have e3:(upd H2 q3 (.tup ws2)) q3=some (.tup ws2):=upd_same
    have dn3:=dn2.same w3
    have s13:=s2.trans w3
    generalize upd H2 q3 (.tup ws2)=H3 at e3 dn3 s13
    have s03:=s1.trans s13
    refine gN ⟨_,rfl,p,_,_,_,rfl,rfl,SqT.of (s03 _ _ hp),at1,pr,rfl,⟨_,SqT.of (s03 _ _ hpr)⟩,fun ld hld=>?_⟩
    refine comp_by (J:=Itt K pr) (l:=ld) rs.length (fun i σ' H'=>∃ (v:Option V) (ws:List V),σ'=[some (.ref d),v]∧Same H3 H'∧H' ld=some (.lst ws)∧DenL H' ws ((R.take i).map (stp f))) ⟨none,[],rfl,same_new hld _,upd_same,trivial⟩ ?_ ?_
    · rintro σ' H4 ⟨v,ws4,rfl,s4,e4,dn4⟩
      rw [hr1,List.take_length] at dn4
      have s04:=s03.trans s4
      refine ⟨⟨_,SqT.of (s04 _ _ hpr),Nat.le_refl _⟩,ld,ws4,rfl,.inl ⟨SqL.of e4,fun q5 hq5=>?_⟩⟩
      have w5:=same_new hq5 (.tup ws4)
      have s35:=s4.trans w5
      refine gN ⟨_,rfl,_,rfl,smn 2,fun q6 hq6=>?_⟩
      have w6:=same_new hq6 (.tup [.ref q3,.ref q5])
      exact kk (.ref q6) _ ((s04.trans w5).trans w6) ⟨q6,_,rfl,upd_same,⟨q3,_,rfl,w6 _ _ (s35 _ _ e3),(dn3.same s35).same w6⟩,⟨q5,_,rfl,w6 _ _ upd_same,(dn4.same w5).same w6⟩,trivial⟩
    · rintro i σ' H4 hi ⟨v,ws4,rfl,s4,e4,dn4⟩
      have s04:=s03.trans s4
      have s14:=s13.trans s4
      have hni:i < R.length:=by omega
      have hat:rs[i]?=some rs[i]:=List.getElem?_eq_getElem hi
      refine ⟨⟨_,_,SqT.of (s04 _ _ hpr),hat⟩,?_⟩
      rintro y H5 ⟨rfl,hy⟩
      have ey:y=rs[i]:=Option.some.inj ((hy _ (SqT.of (s04 _ _ hpr))).symm.trans hat)
      obtain ⟨dd,hdd,dy⟩:=hdr.at_ hat
      rw [← ey] at dy
      rw [List.getElem?_map,List.getElem?_eq_getElem hni] at hdd
      have edd:partD R[i]=dd:=Option.some.inj hdd
      subst edd
      obtain ⟨b,pm,rfl,hb,hpm⟩:=den_part (dy.same s04)
      obtain ⟨u,hu1,hu2⟩:=look R[i] (List.mem_append_right _ (List.getElem_mem hni))
      have hg:=DGet.k (k:=nkey R[i].1) (s14 _ _ e1)
      rw [hu1] at hg
      refine gN (yesT (iteT ?_))
      refine ⟨_,rfl,b,_,_,_,rfl,rfl,SqT.of hb,atI_zero _ _,_,rfl,_,rfl,b,_,_,_,rfl,rfl,SqT.of hb,atI_zero _ _,d,u,rfl,hg,smn 2,fun t ht=>?_⟩
      have w:=same_new ht (.tup [mkT R[i].1,u])
      have ec:=w _ _ e4
      have kT:=keepT_upd (zs:=ws4++[.ref t]) ec
      have wl:=dn4.len
      rw [List.length_map,List.length_take] at wl
      refine ⟨ws4,ec,small1000 (by omega),_,ws4++[.ref t],rfl,?_,upd_same,?_⟩
      · intro c o z
        rw [upd_ne (ne_of_none z hld)]
        exact w _ _ (s4 c o z)
      · rw [List.take_add_one,List.getElem?_eq_getElem hni,List.map_append]
        exact DenL.snoc (Den.keepT kT (show Den _ (.ref t) (stp f R[i]) from ⟨t,_,rfl,upd_same,rfl,(hu2.same s14).same w,trivial⟩)) ((dn4.same w).keepT kT)
  · rintro i σ' H4 hi ⟨v,ws4,rfl,s14,e4,dn4⟩
    have s04:=s1.trans s14
    have hni:i < L.length:=by omega
    have hat:ls[i]?=some ls[i]:=List.getElem?_eq_getElem hi
    refine ⟨⟨_,_,SqT.of (s04 _ _ hpl),hat⟩,?_⟩
    rintro y H5 ⟨rfl,hy⟩
    have ey:y=ls[i]:=Option.some.inj ((hy _ (SqT.of (s04 _ _ hpl))).symm.trans hat)
    obtain ⟨dd,hdd,dy⟩:=hdl.at_ hat
    rw [← ey] at dy
    rw [List.getElem?_map,List.getElem?_eq_getElem hni] at hdd
    have edd:partD L[i]=dd:=Option.some.inj hdd
    subst edd
    obtain ⟨b,pm,rfl,hb,hpm⟩:=den_part (dy.same s04)
    obtain ⟨u,hu1,hu2⟩:=look L[i] (List.mem_append_left _ (List.getElem_mem hni))
    have hg:=DGet.k (k:=nkey L[i].1) (s14 _ _ e1)
    rw [hu1] at hg
    refine gN (yesT (iteT ?_))
    refine ⟨_,rfl,b,_,_,_,rfl,rfl,SqT.of hb,atI_zero _ _,_,rfl,_,rfl,b,_,_,_,rfl,rfl,SqT.of hb,atI_zero _ _,d,u,rfl,hg,smn 2,fun t ht=>?_⟩
    have w:=same_new ht (.tup [mkT L[i].1,u])
    have ec:=w _ _ e4
    have kT:=keepT_upd (zs:=ws4++[.ref t]) ec
    have wl:=dn4.len
    rw [List.length_map,List.length_take] at wl
    refine ⟨ws4,ec,small1000 (by omega),_,ws4++[.ref t],rfl,?_,upd_same,?_⟩
    · intro c o z
      rw [upd_ne (ne_of_none z hlc)]
      exact w _ _ (s14 c o z)
    · rw [List.take_add_one,List.getElem?_eq_getElem hni,List.map_append]
      exact DenL.snoc (Den.keepT kT (show Den _ (.ref t) (stp f L[i]) from ⟨t,_,rfl,upd_same,rfl,(hu2.same s14).same w,trivial⟩)) ((dn4.same w).keepT kT)
theorem scLacking:FnScope ["book", "rows"] ["book"] (defScope sLacking):=⟨rfl,rfl,rfl,by decide +kernel,rfl,by decide +kernel,by decide +kernel⟩
theorem c_lacking (h:Has K mg "lacking" sLacking ["book"]) (C_states:Cal P w K mg base "states" 3 ["book"] spStates) (C_names_lacking:Cal P w K mg base "names_lacking" 1 ["rows"] spNmLack):Cal P w K mg base "lacking" 4 ["book"] spLack:=by
  refine h.mk' scLacking (fun vs H Q E hs=>?_) (fun f cdv A outer s H vs Q E hr hs=>?_)
  · obtain ⟨v,L,R,ks,al,rfl,_⟩:=hs
    rfl
  obtain ⟨v,L,R,ks,al,rfl,hv,vb,kk⟩:=hs
  refine ⟨_,(pss_cons (ps_set (i:=1) scLacking.nd rfl (Or.inl rfl) (pe_cal C_states hr (by decide) rfl (pa_cons (pv 0) pa_nil)))
    (pss_one (ps_ret (pe_tup (pa_cons (pe_cal C_names_lacking hr (by decide) rfl (pa_cons (pe_ix ix_tup (pv 1) pe_int (fun _ _=>rfl)) pa_nil)) (pa_cons (pe_cal C_names_lacking hr (by decide) rfl (pa_cons (pe_ix ix_tup (pv 1) pe_int (fun _ _=>rfl)) pa_nil)) pa_nil)))))),?_⟩
  refine ⟨_,rfl,v,L,R,ks,al,rfl,hv,vb,fun u H1 s1 d1=>?_⟩
  obtain ⟨p,us,rfl,hp,hd⟩:=den_tup d1
  obtain ⟨b0,b1,rfl⟩:∃ b0 b1,us=[b0,b1]:=by
    match us,hd with
    | [b0,b1],_=>exact ⟨b0,b1,rfl⟩
    | [],h=>exact h.elim
    | [_],h=>exact h.2.elim
    | _ :: _ :: _ :: _,h=>exact h.2.2.elim
  have lL:=vb.lL
  have lR:=vb.lR
  refine gN ⟨_,rfl,p,_,_,_,rfl,rfl,SqT.of hp,atI_zero _ _,_,_,L,rfl,hd.1,by omega,fun q2 H2 s2 e2=>?_⟩
  refine ⟨_,rfl,p,_,_,_,rfl,rfl,SqT.of (s2 _ _ hp),atI_nat (xs:=[b0,b1]) (j:=1) rfl,_,_,R,rfl,hd.2.1.same s2,by omega,fun q3 H3 s3 e3=>?_⟩
  refine ⟨smn 2,fun q hq=>?_⟩
  have w:=same_new hq (.tup [.ref q2,.ref q3])
  exact kk (.ref q) _ (((s1.trans s2).trans s3).trans w) ⟨q,_,rfl,upd_same,⟨q2,_,rfl,w _ _ (s3 _ _ e2),denS_of _ _⟩,⟨q3,_,rfl,w _ _ e3,denS_of _ _⟩,trivial⟩
end
def spIsW:Sp:=fun vs H Q _=>∃ c:Nat,vs=[.str ⟨#[c]⟩]∧Q (.bl (M01.isW c)) H
def spWords:Sp:=fun vs H Q _=>∃ x:Str,vs=[.str x]∧x.length≤1000∧∀ (t:Addr) (H':Hp),Same H H'→H' t=some (.tup (((M01.wds x.cps.toList).map fun r=>(⟨r.toArray⟩:Str)).map V.str))→Q (.ref t) H'
section
open M01
variable {P:Program} {w:World} {K:PySem.W.Frag} {mg:Str→Option Value} {base:Heap}
theorem scIsW:FnScope ["sign"] ["sign"] (defScope sIsW):=⟨rfl,rfl,rfl,by decide +kernel,rfl,by decide +kernel,by decide +kernel⟩
theorem read_w {c:Nat} {σ:L2.St} {H:Hp} {Q:VK} (h0:σ[0]?=some (some (.str ⟨#[c]⟩))) (q:Q (.bl (isW c)) H) :
    tOrV (tChain rLeS rLeS (tC (.str "a")) (tVar 0) (tC (.str "z"))) (tOrV (tChain rLeS rLeS (tC (.str "A")) (tVar 0) (tC (.str "Z"))) (tChain rLeS rLeS (tC (.str "0")) (tVar 0) (tC (.str "9")))) σ H Q:=by
  unfold isW at q
  refine chain_sign (a:=97) (b:=122) (by decide +kernel) (by decide +kernel) h0 ⟨_,rfl,?_⟩
  refine ite2 (fun h=>?_) (fun h=>?_)
  · rw [h] at q
    exact q
  · have h':decide (97≤c∧c≤122)=false:=by simpa using h
    rw [h',Bool.false_or] at q
    refine chain_sign (a:=65) (b:=90) (by decide +kernel) (by decide +kernel) h0 ⟨_,rfl,?_⟩
    refine ite2 (fun g=>?_) (fun g=>?_)
    · rw [g] at q
      exact q
    · have g':decide (65≤c∧c≤90)=false:=by simpa using g
      rw [g',Bool.false_or] at q
      exact chain_sign (a:=48) (b:=57) (by decide +kernel) (by decide +kernel) h0 q
theorem ok_isw {f:Addr} {fd:FuncData} (F:Fun K "is_word_sign" "is_word_sign" sIsW f fd):FnOk P w K mg base CX0 1 f fd ["sign"] spIsW:=by
  refine F.ok scIsW (fun vs H Q E h=>?_) (fun cdv A outer s H vs Q E hr h=>?_)
  · obtain ⟨c,rfl,_⟩:=h
    rfl
  obtain ⟨c,rfl,q⟩:=h
  refine ⟨_,pss_one (ps_ret (pe_or (pe_chain op_leS op_leS pe_str (pv 0) pe_str) (pe_or (pe_chain op_leS op_leS pe_str (pv 0) pe_str) (pe_one (pe_chain op_leS op_leS pe_str (pv 0) pe_str))))),?_⟩
  exact read_w rfl q
theorem scWords:FnScope ["text", "spaced"] ["text"] (defScope sWords):=⟨rfl,rfl,rfl,by decide +kernel,rfl,by decide +kernel,by decide +kernel⟩
theorem ok_words {f fW:Addr} {fd fdW:FuncData} (F:Fun K "words_of" "words_of" sWords f fd) (GW:FnOk P w K mg base CX0 1 fW fdW ["sign"] spIsW) (bW:Binds K fdW ["sign"] []) (kW:PySem.W.keepIn K (.ref fW)=true) (mW:mg "is_word_sign" = some (.ref fW)) (mtuple:mg "tuple" = none) :
    FnOk P w K mg base CX0 2 f fd ["text"] spWords:=by
  refine F.ok scWords (fun vs H Q E h=>?_) (fun cdv A outer s H vs Q E hr h=>?_)
  · obtain ⟨x,rfl,_⟩:=h
    rfl
  obtain ⟨x,rfl,hx,k⟩:=h
  refine ⟨_,pss_cons (ps_set (i:=1) scWords.nd rfl (Or.inl rfl) (pe_bm PySem.F.plainAttrs_str PySem.F.slot_str_join PySem.F.type_str_join mt_join pe_str (pa_cons
      (pe_compL ["text", "spaced"] (defScope sWords) ["sign"] [none] rfl rfl rfl (pi_str (pv 0)) rfl (by decide +kernel) (by decide +kernel) (by decide +kernel) (by decide +kernel)
        (fun cl C s H ex pn E=>pg_name (i:=0) (by decide +kernel:(["sign"]:List Str).Nodup) rfl (Or.inl rfl)) (fun cl C s H ex pn E=>pifs_nil)
        (fun cl C s H ex pn E=>pe_ifExp (pt_val (pe_call GW hr rfl mW kW bW .nil pass0 (pa_cons (pv 0) pa_nil))) (pv 0) pe_str)) pa_nil)))
    (pss_one (ps_ret (pe_callTy call_tuple_of rfl mtuple boot_tuple (pa_cons (pe_bm0 PySem.F.plainAttrs_str PySem.F.slot_str_split PySem.F.type_str_split mt_split (pv 1)) pa_nil)))),?_⟩
  have hlen:x.cps.toList.length=x.length:=by simp [Str.length]
  refine ⟨rfl,_,rfl,x,rfl,fun l hl=>?_⟩
  refine comp_by (J:=Its x) (l:=l) x.cps.size (fun i σ' H'=>∃ v:Option V,σ'=[v]∧H'=upd H l (.lst ((x.cps.toList.take i).map fun c=>V.str ⟨#[bl c]⟩))) ⟨none,rfl,rfl⟩ ?_ ?_
  · rintro σ' H' ⟨v,rfl,rfl⟩
    have e:x.cps.toList.take x.cps.size=x.cps.toList:=by rw [← Array.length_toList]; exact List.take_length
    rw [e]
    have em:(x.cps.toList.map fun c=>V.str ⟨#[bl c]⟩)=((x.cps.toList.map bl).map fun c=>(⟨#[c]⟩:Str)).map V.str:=by
      rw [List.map_map,List.map_map]
      rfl
    rw [em]
    refine ⟨Nat.le_refl _,_,l,(x.cps.toList.map bl).map (fun c=>(⟨#[c]⟩:Str)),rfl,rfl,SqL.of upd_same,join_fits (by decide +kernel) _ (by rw [List.length_map,hlen]; omega),?_⟩
    have ej:∀ y:Str,y=⟨#[]⟩→Str.join y ((x.cps.toList.map bl).map fun c=>(⟨#[c]⟩:Str))=⟨(x.cps.toList.map bl).toArray⟩:=fun y hy=>by
      subst hy
      exact join_ones _
    rw [ej _ (by decide +kernel)]
    refine ⟨_,rfl,rfl,_,rfl,rfl,?_,fun l2 hl2=>?_⟩
    · show (x.cps.toList.map bl).toArray.size≤100000
      rw [List.size_toArray,List.length_map,hlen]
      omega
    · rw [words_wds]
      refine ⟨l2,_,rfl,.inl ⟨SqL.of upd_same,fun t ht=>?_⟩⟩
      exact k t _ ((same_new hl _).trans ((same_new hl2 _).trans (same_new ht _))) upd_same
  · rintro i σ' H' hi ⟨v,rfl,rfl⟩
    refine ⟨hi,?_⟩
    rintro y H'' ⟨rfl,c,hc,rfl⟩
    have ht:x.cps.toList.take (i+1)=x.cps.toList.take i++[c]:=by
      rw [List.take_add_one]
      have hc':x.cps.toList[i]?=some c:=by simpa using hc
      rw [hc']
      rfl
    have fin:∃ ys,(upd H l (.lst ((x.cps.toList.take i).map fun c=>V.str ⟨#[bl c]⟩))) l=some (.lst ys)∧ys.length < sizeLine ∧
        ∃ v1:Option V,([v].set 0 (some (V.str ⟨#[c]⟩)):L2.St)=[v1]∧upd (upd H l (.lst ((x.cps.toList.take i).map fun c=>V.str ⟨#[bl c]⟩))) l (.lst (ys++[V.str ⟨#[bl c]⟩]))=upd H l (.lst ((x.cps.toList.take (i+1)).map fun c=>V.str ⟨#[bl c]⟩)):=by
      refine ⟨_,upd_same,?_,_,rfl,?_⟩
      · rw [List.length_map,List.length_take]
        have:x.cps.size=x.length:=rfl
        exact Nat.lt_of_le_of_lt (Nat.min_le_left _ _) (small1000 (by omega))
      · rw [upd_upd,ht,List.map_append]
        rfl
    refine gN (yesT (iteT ?_))
    refine ⟨_,rfl,c,rfl,_,rfl,?_⟩
    refine ite2 (fun h=>?_) (fun h=>?_)
    · refine ⟨_,rfl,?_⟩
      have e:bl c=c:=by unfold bl; rw [if_pos h]
      rw [e] at fin
      exact fin
    · have e:bl c=32:=by unfold bl; rw [if_neg h]
      rw [e] at fin
      exact fin
end
section
variable {P:Program} {w:World} {K:PySem.W.Frag} {mg:Str→Option Value} {base:Heap}
theorem c_isw (h:Has K mg "is_word_sign" sIsW ["sign"]):Cal P w K mg base "is_word_sign" 1 ["sign"] spIsW:=h.cal fun f fd F _ _=>ok_isw F
theorem c_words (h:Has K mg "words_of" sWords ["text"]) (C_isw:Cal P w K mg base "is_word_sign" 1 ["sign"] spIsW) (m_tuple:mg "tuple" = none):Cal P w K mg base "words_of" 2 ["text"] spWords:=by
  obtain ⟨fT,fdT,GT,bT,kT,mT⟩:=C_isw.ex
  exact h.cal fun f fd F _ _=>ok_words F GT bT kT mT m_tuple
end
abbrev lowS (r:List Nat):Str:=⟨(r.map lo1).toArray⟩
def spCores:Sp:=fun vs H Q _=>∃ x:Str,vs=[.str x]∧x.length≤1000∧∀ (t:Addr) (H':Hp),Same H H'→H' t=some (.tup (((M01.wds x.cps.toList).map lowS).map V.str))→Q (.ref t) H'
section
open M01
variable {P:Program} {w:World} {K:PySem.W.Frag} {mg:Str→Option Value} {base:Heap}
theorem take_map_snoc {ws:List (List Nat)} {i:Nat} (hi:i < ws.length):((ws.take (i+1)).map lowS).map V.str=((ws.take i).map lowS).map V.str++[V.str (lowS ws[i])]:=by
  rw [List.take_add_one,List.getElem?_eq_getElem hi,List.map_append,List.map_append]
  rfl
theorem at_map {ws:List (List Nat)} {i:Nat} (hi:i < ws.length):((ws.map fun r=>(⟨r.toArray⟩:Str)).map V.str)[i]?=some (V.str ⟨ws[i].toArray⟩):=by
  rw [List.getElem?_map,List.getElem?_map,List.getElem?_eq_getElem hi]
  rfl
theorem lens (x:Str):x.cps.toList.length=x.length:=by simp [Str.length]
theorem scCoresOf:FnScope ["text"] ["text"] (defScope sCoresOf):=⟨rfl,rfl,rfl,by decide +kernel,rfl,by decide +kernel,by decide +kernel⟩
theorem c_cores (h:Has K mg "cores_of" sCoresOf ["text"]) (C_words:Cal P w K mg base "words_of" 2 ["text"] spWords) (m_tuple:mg "tuple" = none):Cal P w K mg base "cores_of" 3 ["text"] spCores:=by
  refine h.mk' scCoresOf (fun vs H Q E hs=>?_) (fun f cdv A outer s H vs Q E hr hs=>?_)
  · obtain ⟨x,rfl,_⟩:=hs
    rfl
  obtain ⟨x,rfl,hx,k⟩:=hs
  refine ⟨_,(pss_one (ps_ret (pe_callTy call_tuple_of rfl m_tuple boot_tuple (pa_cons (pe_compL ["text"] (defScope sCoresOf) ["word"] [none] rfl rfl rfl (pi_tup (pe_cal C_words hr (by decide) rfl (pa_cons (pv 0) pa_nil))) rfl (by decide +kernel) (by decide +kernel) (by decide +kernel) (by decide +kernel) (hg:=fun cl C s H ex pn E=>(pg_name (i:=0) (by decide +kernel:(["word"]:List Str).Nodup) rfl (Or.inl rfl))) (ht:=fun cl C s H ex pn E=>pifs_nil) (he:=fun cl C s H ex pn E=>(pe_bm0K (K:=K) rfl PySem.F.plainAttrs_str PySem.F.slot_str_lower PySem.F.type_str_lower mt_lower (pv 0)))) pa_nil)))),?_⟩
  refine ⟨_,rfl,x,rfl,hx,fun t H1 s1 e1=>?_⟩
  generalize hws:wds x.cps.toList=ws at e1 k
  have hwl:ws.length≤1000:=by
    have:=wds_le x.cps.toList
    rw [hws,lens] at this
    omega
  have hmem:∀ r∈ws,r.length≤1000∧∀ c∈r,isW c=true:=fun r hr=>by
    rw [← hws] at hr
    have:=wds_mem hr
    rw [lens] at this
    exact ⟨by omega,this.2⟩
  refine ⟨t,rfl,⟨_,SqT.of e1⟩,fun l hl=>?_⟩
  have ntl:t≠l:=ne_of_none e1 hl
  refine comp_by (J:=Itt K t) (l:=l) ws.length (fun i σ' H'=>∃ v:Option V,σ'=[v]∧H'=upd H1 l (.lst (((ws.take i).map lowS).map V.str))) ⟨none,rfl,rfl⟩ ?_ ?_
  · rintro σ' H' ⟨v,rfl,rfl⟩
    refine ⟨⟨_,SqT.of ((upd_ne ntl).trans e1),by simp⟩,l,_,rfl,.inl ⟨SqL.of upd_same,fun t2 ht2=>?_⟩⟩
    refine k t2 _ (s1.trans ((same_new hl _).trans (same_new ht2 _))) ?_
    rw [upd_same,List.take_length]
  · rintro i σ' H' hi ⟨v,rfl,rfl⟩
    have ht:(upd H1 l (.lst (((ws.take i).map lowS).map V.str))) t=some (.tup ((ws.map fun r=>(⟨r.toArray⟩:Str)).map V.str)):=(upd_ne ntl).trans e1
    refine ⟨⟨_,_,SqT.of ht,at_map hi⟩,?_⟩
    rintro y H'' ⟨rfl,hy⟩
    have ey:y=V.str ⟨ws[i].toArray⟩:=Option.some.inj ((hy _ (SqT.of ht)).symm.trans (at_map hi))
    subst ey
    have hm:=hmem ws[i] (List.getElem_mem hi)
    refine gN (yesT (iteT ?_))
    refine ⟨_,rfl,rfl,ws[i],rfl,rfl,fun c hc=>isW_lt (hm.2 c hc),by omega,?_⟩
    refine ⟨_,upd_same,?_,_,rfl,?_⟩
    · rw [List.length_map,List.length_map,List.length_take]
      exact small1000 (by omega)
    · rw [upd_upd,take_map_snoc hi]
end
def coresL (xs:List Str):List Str:=xs.flatMap fun x=>(M01.wds x.cps.toList).map lowS
def DHas (kvs:List (Key × V)) (cs:List Str):Prop:=∀ c:Str,(valV kvs (Sum.inr c)).isSome=true↔c∈cs
def spAmong:Sp:=fun vs H Q _=>∃ (q:Addr) (xs:List Str),vs=[.ref q]∧H q=some (.tup (xs.map V.str))∧xs.length≤100∧(∀ x∈xs,x.length≤1000) ∧
  ∀ (d:Addr) (kvs:List (Key × V)) (H':Hp),Same H H'→H' d=some (.dK kvs)→DHas kvs (coresL xs)→Q (.ref d) H'
section
open M01
variable {P:Program} {w:World} {K:PySem.W.Frag} {mg:Str→Option Value} {base:Heap}
theorem DHas.put {kvs:List (Key × V)} {cs:List Str} {c:Str} {v:V} (h:DHas kvs cs):DHas (putK kvs (Sum.inr c) v) (cs++[c]):=by
  intro e
  rw [valV_put]
  by_cases z:(Sum.inr e:Key)=Sum.inr c
  · rw [if_pos z]
    cases z
    exact ⟨fun _=>List.mem_append.mpr (.inr (List.mem_singleton.mpr rfl)),fun _=>rfl⟩
  · rw [if_neg z,h e,List.mem_append,List.mem_singleton]
    exact ⟨.inl,fun t=>t.elim id fun t=>absurd (congrArg Sum.inr t) z⟩
theorem put_len {kvs:List (Key × V)} {k:Key} {v:V}:(putK kvs k v).length≤kvs.length+1:=length_mergeK [(k,v)] kvs
theorem coresL_snoc {xs:List Str} {i:Nat} (hi:i < xs.length):coresL (xs.take (i+1))=coresL (xs.take i)++(M01.wds xs[i].cps.toList).map lowS:=by
  unfold coresL
  rw [List.take_add_one,List.getElem?_eq_getElem hi,List.flatMap_append]
  simp
theorem scCoresAmong:FnScope ["texts", "cores", "text", "core"] ["texts"] (defScope sCoresAmong):=⟨rfl,rfl,rfl,by decide +kernel,rfl,by decide +kernel,by decide +kernel⟩
theorem c_cores_among (h:Has K mg "cores_among" sCoresAmong ["texts"]) (C_cores:Cal P w K mg base "cores_of" 3 ["text"] spCores):Cal P w K mg base "cores_among" 4 ["texts"] spAmong:=by
  refine h.mk' scCoresAmong (fun vs H Q E hs=>?_) (fun f cdv A outer s H vs Q E hr hs=>?_)
  · obtain ⟨q,xs,rfl,_⟩:=hs
    rfl
  obtain ⟨q,xs,rfl,hq,hz,hxs,k⟩:=hs
  refine ⟨_,(pss_cons (ps_set (i:=1) scCoresAmong.nd rfl (Or.inl rfl) pe_dnewK)
    (pss_cons (ps_for PassesOwn.never rfl (pi_tup (pv 0)) (pg_name (i:=2) scCoresAmong.nd rfl (Or.inl rfl))
      (pss_one (ps_for PassesOwn.never rfl (pi_tup (pe_cal C_cores hr (by decide) rfl (pa_cons (pv 2) pa_nil))) (pg_name (i:=3) scCoresAmong.nd rfl (Or.inl rfl))
      (pss_one (ps_dput (hu_of hr) (pv 1) (pv 3) pe_bl rfl)))))
    (pss_one (ps_ret (pv 1))))),?_⟩
  refine fun d hd=>?_
  have sp:∀ {H2:Hp} {o:HO},Same H H2→Same H (upd H2 d o):=fun s c o z=>by
    rw [upd_ne (ne_of_none z hd)]
    exact s c o z
  refine ⟨_,rfl,q,rfl,⟨_,SqT.of (same_new hd _ _ _ hq)⟩,?_⟩
  refine for_tup (K:=K) (a:=q) (xs:=xs.map V.str) (fun i σ H2=>∃ (v2 v3:Option V) (kvs:List (Key × V)),σ=[some (.ref q),some (.ref d),v2,v3]∧Same H H2∧H2 d=some (.dK kvs)∧kvs.length≤1000 * i∧DHas kvs (coresL (xs.take i)))
    ⟨_,_,[],rfl,same_new hd _,upd_same,Nat.zero_le _,fun c=>⟨(fun z=>by cases z),(fun z=>by cases z)⟩⟩ ?_ ?_ ?_
  · rintro i σ H2 _ ⟨v2,v3,kvs,_,s2,_⟩
    exact SqT.of (s2 _ _ hq)
  · rintro i y σ H2 hi ⟨v2,v3,kvs,rfl,s2,ed,hk,hd2⟩
    have hil:i < xs.length:=by
      have:=(List.getElem?_eq_some_iff.mp hi).1
      simpa using this
    have ey:y=V.str xs[i]:=by
      rw [List.getElem?_map,List.getElem?_eq_getElem hil] at hi
      exact (Option.some.inj hi).symm
    subst ey
    have hxl:=hxs xs[i] (List.getElem_mem hil)
    refine ⟨_,rfl,xs[i],rfl,hxl,fun t H3 s3 e3=>?_⟩
    have hcs:=coresL_snoc hil
    generalize hws:wds xs[i].cps.toList=ws at e3 hcs
    have hwl:ws.length≤1000:=by
      have:=wds_le xs[i].cps.toList
      rw [hws,lens] at this
      omega
    refine ⟨t,rfl,⟨_,SqT.of e3⟩,?_⟩
    refine for_tup (K:=K) (a:=t) (xs:=(ws.map lowS).map V.str) (fun j σ H4=>∃ (v3:Option V) (kvs':List (Key × V)),σ=[some (.ref q),some (.ref d),some (.str xs[i]),v3]∧Same H H4∧H4 t=some (.tup ((ws.map lowS).map V.str))∧H4 d=some (.dK kvs')∧kvs'.length≤kvs.length+j∧DHas kvs' (coresL (xs.take i)++(ws.take j).map lowS))
      ⟨_,kvs,rfl,s2.trans s3,e3,s3 _ _ ed,Nat.le_refl _,by simpa using hd2⟩ ?_ ?_ ?_
    · rintro j σ H4 _ ⟨v3,kvs',_,_,e4,_⟩
      exact SqT.of e4
    · rintro j y σ H4 hj ⟨v3,kvs',rfl,s4,e4,ed4,hk4,hd4⟩
      have hjl:j < ws.length:=by
        have:=(List.getElem?_eq_some_iff.mp hj).1
        simpa using this
      have ey:y=V.str (lowS ws[j]):=by
        rw [List.getElem?_map,List.getElem?_map,List.getElem?_eq_getElem hjl] at hj
        exact (Option.some.inj hj).symm
      subst ey
      have ntd:t≠d:=ne_of e4 ed4 (by intro z; cases z)
      have hsz:kvs'.length < sizeLine:=by
        have:=sizeLine_big
        omega
      refine ⟨_,rfl,_,rfl,d,_,rfl,DPut.k (k:=Sum.inr (lowS ws[j])) ed4 hsz,_,_,rfl,sp s4,(upd_ne ntd).trans e4,upd_same,Nat.le_trans put_len (by omega),?_⟩
      have ht:(ws.take (j+1)).map lowS=(ws.take j).map lowS++[lowS ws[j]]:=by
        rw [List.take_add_one,List.getElem?_eq_getElem hjl,List.map_append]
        rfl
      rw [ht,← List.append_assoc]
      exact hd4.put
    · rintro σ H4 ⟨v3,kvs',rfl,s4,e4,ed4,hk4,hd4⟩
      rw [List.length_map,List.length_map] at hk4 hd4
      rw [List.take_length,← hcs] at hd4
      exact ⟨_,_,_,rfl,s4,ed4,by omega,hd4⟩
  · rintro σ H2 ⟨v2,v3,kvs,rfl,s2,ed,hk,hd2⟩
    rw [List.length_map,List.take_length] at hd2
    exact ⟨_,rfl,k d kvs _ s2 ed hd2⟩
end
def hitB (as bs:List Str) (p:Str × Str):Bool:=decide (p.1∈as) && decide (p.2∈bs)
def hitN (as bs:List Str) (ps:List (Str × Str)):Nat:=(ps.filter (hitB as bs)).length
def PrT (H:Hp) (us:List V) (ps:List (Str × Str)):Prop:=us.length=ps.length∧∀ (i:Nat) (u:V) (p:Str × Str),us[i]?=some u→ps[i]?=some p→∃ q:Addr,u=.ref q∧H q=some (.tup [.str p.1,.str p.2])
theorem PrT.same {H H':Hp} {us:List V} {ps:List (Str × Str)} (h:PrT H us ps) (s:Same H H'):PrT H' us ps:=⟨h.1,fun i u p a b=>by
  obtain ⟨q,e1,e2⟩:=h.2 i u p a b
  exact ⟨q,e1,s _ _ e2⟩⟩
theorem hitN_snoc {as bs:List Str} {ps:List (Str × Str)} {i:Nat} (hi:i < ps.length):hitN as bs (ps.take (i+1))=hitN as bs (ps.take i)+if hitB as bs ps[i] then 1 else 0:=by
  unfold hitN
  rw [List.take_add_one,List.getElem?_eq_getElem hi,List.filter_append,List.length_append]
  show _+([ps[i]].filter (hitB as bs)).length=_
  by_cases z:hitB as bs ps[i]=true
  · rw [if_pos z,List.filter_cons_of_pos z]
    rfl
  · rw [if_neg z,List.filter_cons_of_neg z]
    rfl
def pk (side:Nat) (p:Str × Str):Str:=if side=0 then p.1 else p.2
def plc (side:Nat) (cs:List Str) (ps:List (Str × Str)) (n:Nat):List Nat:=(List.range n).filter fun i=>decide (pk side (ps.getD i (Str.empty,Str.empty))∈cs)
theorem plc_snoc {side:Nat} {cs:List Str} {ps:List (Str × Str)} (n:Nat):plc side cs ps (n+1)=plc side cs ps n++if pk side (ps.getD n (Str.empty,Str.empty))∈cs then [n] else []:=by
  unfold plc
  rw [List.range_succ,List.filter_append]
  congr 1
  by_cases h:pk side (ps.getD n (Str.empty,Str.empty))∈cs
  · rw [if_pos h,List.filter_cons_of_pos (by simpa using h)]
    rfl
  · rw [if_neg h,List.filter_cons_of_neg (by simpa using h)]
    rfl
theorem plc_len (side:Nat) (cs:List Str) (ps:List (Str × Str)) (n:Nat):(plc side cs ps n).length≤n:=by
  have:=List.length_filter_le (fun i=>decide (pk side (ps.getD i (Str.empty,Str.empty))∈cs)) (List.range n)
  rw [List.length_range] at this
  exact this
theorem mem_plc {side:Nat} {cs:List Str} {ps:List (Str × Str)} {n:Nat} {k:Int}:k∈(plc side cs ps n).map (fun i=>((i:Nat):Int))↔∃ i:Nat,k=i∧i < n∧pk side (ps.getD i (Str.empty,Str.empty))∈cs:=by
  unfold plc
  rw [List.mem_map]
  constructor
  · rintro ⟨i,hi,rfl⟩
    obtain ⟨h1,h2⟩:=List.mem_filter.mp hi
    exact ⟨i,rfl,List.mem_range.mp h1,of_decide_eq_true h2⟩
  · rintro ⟨i,rfl,h1,h2⟩
    exact ⟨i,List.mem_filter.mpr ⟨List.mem_range.mpr h1,decide_eq_true h2⟩,rfl⟩
theorem both_len {as bs:List Str} {ps:List (Str × Str)} {L:List Int} (hn:L.Nodup) (hL:∀ k,k∈L↔k∈(plc 0 as ps ps.length).map (fun i=>((i:Nat):Int))∧k∈(plc 1 bs ps ps.length).map (fun i=>((i:Nat):Int))):L.length=hitN as bs ps:=by
  have e:ps=(List.range ps.length).map fun i=>ps.getD i (Str.empty,Str.empty):=by
    apply List.ext_getElem (by simp)
    intro i h1 h2
    simp [List.getD_eq_getElem?_getD,h1]
  have hf:((List.range ps.length).filter fun i=>hitB as bs (ps.getD i (Str.empty,Str.empty))).length=hitN as bs ps:=by
    unfold hitN
    conv=>rhs; rw [e]
    rw [List.filter_map,List.length_map]
    rfl
  rw [← hf]
  have hp:L.Perm (((List.range ps.length).filter fun i=>hitB as bs (ps.getD i (Str.empty,Str.empty))).map fun i=>((i:Nat):Int)):=by
    refine (List.perm_ext_iff_of_nodup hn ?_).mpr fun k=>?_
    · refine List.Pairwise.map _ (fun a b h z=>h (Int.ofNat.inj z)) (List.Pairwise.filter _ List.nodup_range)
    · rw [hL k,mem_plc,mem_plc,List.mem_map]
      constructor
      · rintro ⟨⟨i,rfl,h1,h2⟩,⟨j,hj,_,h4⟩⟩
        have ej:i=j:=Int.ofNat.inj hj
        subst ej
        refine ⟨i,List.mem_filter.mpr ⟨List.mem_range.mpr h1,?_⟩,rfl⟩
        unfold hitB
        rw [decide_eq_true (show (ps.getD i (Str.empty,Str.empty)).1∈as from h2),decide_eq_true (show (ps.getD i (Str.empty,Str.empty)).2∈bs from h4)]
        rfl
      · rintro ⟨i,hi,rfl⟩
        obtain ⟨h1,h2⟩:=List.mem_filter.mp hi
        unfold hitB at h2
        obtain ⟨h3,h4⟩:=Bool.and_eq_true_iff.mp h2
        exact ⟨⟨i,rfl,List.mem_range.mp h1,of_decide_eq_true h3⟩,⟨i,rfl,List.mem_range.mp h1,of_decide_eq_true h4⟩⟩
  rw [hp.length_eq,List.length_map]
theorem none_back {H H':Hp} {b:Addr} (s:Same H H') (h:H' b=none):H b=none:=by
  cases e:H b with
  | none=>rfl
  | some o=>rw [s _ _ e] at h; cases h
def spPlaces:Sp:=fun vs H Q _=>∃ (qa qw:Addr) (side:Nat) (xs:List Str) (us:List V) (ps:List (Str × Str)),vs=[.ref qa,.ref qw,.int (side:Nat)]∧side≤1∧H qa=some (.tup (xs.map V.str))∧xs.length≤100∧(∀ x∈xs,x.length≤1000) ∧
  H qw=some (.tup us)∧us.length≤1000∧PrT H us ps∧∀ (l:Addr) (H':Hp),H l=none→Same H H'→H' l=some (.lst (((plc side (coresL xs) ps ps.length).map fun i=>((i:Nat):Int)).map V.int))→Q (.ref l) H'
def spBoth:Sp:=fun vs H Q _=>∃ (l1 l2:Addr) (as bs:List Int),vs=[.ref l1,.ref l2]∧H l1=some (.lst (as.map V.int))∧H l2=some (.lst (bs.map V.int))∧as.length≤4000∧bs.length≤4000∧∀ (L:List Int) (H':Hp),Same H H'→L.Nodup→(∀ k,k∈L↔k∈as∧k∈bs)→Q (.int (L.length:Nat)) H'
section
open M01
variable {P:Program} {w:World} {K:PySem.W.Frag} {mg:Str→Option Value} {base:Heap}
theorem scPlacesKnown:FnScope ["texts", "words", "side", "cores"] ["texts", "words", "side"] (defScope sPlacesKnown):=⟨rfl,rfl,rfl,by decide +kernel,rfl,by decide +kernel,by decide +kernel⟩
theorem c_places_known (h:Has K mg "places_known" sPlacesKnown ["texts", "words", "side"]) (C_cores_among:Cal P w K mg base "cores_among" 4 ["texts"] spAmong) (m_enumerate:mg "enumerate" = none):Cal P w K mg base "places_known" 5 ["texts", "words", "side"] spPlaces:=by
  refine h.mk' scPlacesKnown (fun vs H Q E hs=>?_) (fun f cdv A outer s H vs Q E hr hs=>?_)
  · obtain ⟨qa,qw,side,xs,us,ps,rfl,_⟩:=hs
    rfl
  obtain ⟨qa,qw,side,xs,us,ps,rfl,hside,ha,ha1,ha2,hw,hu,hP,k⟩:=hs
  refine ⟨_,(pss_cons (ps_set (i:=3) scPlacesKnown.nd rfl (Or.inr rfl) (pe_cal C_cores_among hr (by decide) rfl (pa_cons (pv 0) pa_nil)))
    (pss_one (ps_ret (pe_compL ["texts", "words", "side", "cores"] (defScope sPlacesKnown) ["side", "cores", "place", "pair"] [some 2,some 3,none,none] rfl rfl rfl (pi_enumT rfl m_enumerate (pa_cons (pv 1) pa_nil)) rfl (by decide +kernel) (by decide +kernel) (by decide +kernel) (by decide +kernel) (g:=gTup K 2 (gCons (gName 2) (gCons (gName 3) gNil))) (hg:=fun cl C s H ex pn E=>pg_tup (n:=2) rfl (pgs_cons (pg_name (i:=2) (by decide +kernel:(["side", "cores", "place", "pair"]:List Str).Nodup) rfl (Or.inl rfl) (Or.inr rfl)) (pgs_cons (pg_name (i:=3) (by decide +kernel:(["side", "cores", "place", "pair"]:List Str).Nodup) rfl (Or.inl rfl) (Or.inr rfl)) pgs_nil))) (ht:=fun cl C s H ex pn E=>(pifs_one (pt_cmp (pc_din (hu_of hr) (pe_ix (ix_tupK (K:=K) rfl) (pv 3) (pv 0) (fun _ _=>rfl)) (pv 1)) (by with_unfolding_all rfl)))) (he:=fun cl C s H ex pn E=>(pv 2)))))),?_⟩
  refine ⟨_,rfl,qa,xs,rfl,ha,ha1,ha2,fun d kl H1 s1 e1 h1=>?_⟩
  refine gN ⟨_,rfl,qw,rfl,⟨_,SqT.of (s1 _ _ hw)⟩,fun l hl=>?_⟩
  refine comp_by (J:=IteT K qw) (l:=l) us.length (fun i σ' H'=>∃ (v2 v3:Option V),σ'=[some (.int (side:Nat)),some (.ref d),v2,v3]∧Same H1 H'∧H' l=some (.lst (((plc side (coresL xs) ps i).map fun i=>((i:Nat):Int)).map V.int))) ⟨none,none,rfl,same_new hl _,upd_same⟩ ?_ ?_
  · rintro σ' H' ⟨v2,v3,rfl,s',e'⟩
    rw [hP.1] at e'
    exact ⟨⟨_,SqT.of (s' _ _ (s1 _ _ hw)),Nat.le_refl _⟩,k l H' (none_back s1 hl) (s1.trans s') e'⟩
  · rintro i σ' H' hi ⟨v2,v3,rfl,s',e'⟩
    have hat:us[i]?=some us[i]:=List.getElem?_eq_getElem hi
    have hwi:H' qw=some (.tup us):=s' _ _ (s1 _ _ hw)
    refine ⟨⟨_,_,SqT.of hwi,hat⟩,?_⟩
    rintro y H'' ⟨t,x,rfl,ht,rfl,hx⟩
    have ex:x=us[i]:=Option.some.inj ((hx _ (SqT.of hwi)).symm.trans hat)
    have s'':=s'.trans (same_new ht (.tup [.int (i:Nat),x]))
    have hip:i < ps.length:=by rw [← hP.1]; exact hi
    obtain ⟨qi,eu,eq⟩:=(hP.same (s1.trans s'')).2 i us[i] ps[i] hat (List.getElem?_eq_getElem hip)
    rw [eu] at ex
    subst ex
    have ntl:l≠t:=ne_of_none e' ht
    have e'':(upd H' t (.tup [.int (i:Nat),.ref qi])) l=some (.lst (((plc side (coresL xs) ps i).map fun i=>((i:Nat):Int)).map V.int)):=(upd_ne ntl).trans e'
    have hpi:ps.getD i (Str.empty,Str.empty)=ps[i]:=by rw [List.getD_eq_getElem?_getD,List.getElem?_eq_getElem hip]; rfl
    have hsn:=plc_snoc (side:=side) (cs:=coresL xs) (ps:=ps) i
    rw [hpi] at hsn
    have hpl:=plc_len side (coresL xs) ps i
    have hat2:∃ z:Str,z=pk side ps[i]∧atI [V.str ps[i].1,V.str ps[i].2] (side:Nat)=some (.str z):=by
      match side,hside with
      | 0,_=>exact ⟨_,rfl,atI_zero _ _⟩
      | 1,_=>exact ⟨_,rfl,atI_nat (xs:=[V.str ps[i].1,V.str ps[i].2]) (j:=1) rfl⟩
    obtain ⟨z,ez,hz⟩:=hat2
    rw [← ez] at hsn
    generalize ps[i]=pp at eq hz
    refine ⟨t,_,rfl,SqT.of upd_same,rfl,_,_,rfl,_,_,rfl,rfl,?_⟩
    refine ⟨_,rfl,_,rfl,qi,_,_,_,rfl,rfl,SqT.of eq,hz,_,rfl,d,_,rfl,DGet.k (k:=Sum.inr z) (s'' _ _ e1),_,rfl,?_⟩
    refine ite2 (fun c1=>?_) (fun c1=>?_)
    · rw [if_pos ((h1 _).mp c1)] at hsn
      refine ⟨_,rfl,_,e'',small1000 (by rw [List.length_map,List.length_map]; omega),_,_,rfl,?_,?_⟩
      · intro c o q
        rw [upd_ne (ne_of_none q hl)]
        exact s'' c o q
      · rw [upd_same,hsn,List.map_append,List.map_append]
        rfl
    · rw [if_neg (fun q=>c1 ((h1 _).mpr q)),List.append_nil] at hsn
      exact ⟨_,_,rfl,s'',by rw [hsn]; exact e''⟩
theorem scHitsOfPlaces:FnScope ["left", "right"] ["left", "right"] (defScope sHitsOfPlaces):=⟨rfl,rfl,rfl,by decide +kernel,rfl,by decide +kernel,by decide +kernel⟩
theorem c_hits_of_places (h:Has K mg "hits_of_places" sHitsOfPlaces ["left", "right"]) (m_len:mg "len" = none) (m_set:mg "set" = none):Cal P w K mg base "hits_of_places" 1 ["left", "right"] spBoth:=by
  refine h.mk' scHitsOfPlaces (fun vs H Q E hs=>?_) (fun f cdv A outer s H vs Q E hr hs=>?_)
  · obtain ⟨l1,l2,as,bs,rfl,_⟩:=hs
    rfl
  obtain ⟨l1,l2,as,bs,rfl,h1,h2,n1,n2,k⟩:=hs
  refine ⟨_,(pss_one (ps_ret (pe_callB call_len_setI rfl m_len PySem.boot_len (pa_cons (pe_op op_andI (pe_callTy (call_setI rfl) rfl m_set boot_set (pa_cons (pv 0) pa_nil)) (pe_callTy (call_setI rfl) rfl m_set boot_set (pa_cons (pv 1) pa_nil))) pa_nil)))),?_⟩
  refine ⟨_,rfl,l1,as,rfl,SqL.of h1,n1,fun a n ha hn=>?_⟩
  have s1:=same_new ha (.set (hasI as) n)
  refine ⟨_,rfl,l2,bs,rfl,SqL.of (s1 _ _ h2),n2,fun b m hb hm=>?_⟩
  have s2:=same_new hb (.set (hasI bs) m)
  refine ⟨a,b,_,_,n,m,rfl,rfl,ne_of_none upd_same hb,s2 _ _ upd_same,upd_same,by omega,by omega,fun c L hc hnd hL=>?_⟩
  refine ⟨c,_,_,rfl,upd_same,k L _ ((s1.trans s2).trans (same_new hc _)) hnd fun x=>?_⟩
  rw [hL x]
  unfold hasI
  rw [decide_eq_true_eq,decide_eq_true_eq]
end
theorem mkT_inj {a b:List Nat} (h:mkT a=mkT b):a=b:=by
  injection h with h
  injection h with h
  exact Array.mk.inj h
theorem ez_txt (a b:List Nat):decide (mkT a=mkT b)=decide (a=b):=by
  by_cases h:a=b
  · subst h; simp
  · rw [decide_eq_false h]
    exact decide_eq_false fun z=>h (mkT_inj z)
def partN (ps:List Prt) (x:List Nat):Option Prt:=ps.find? fun p=>decide (p.1=x)
def spPartOf (C:Addr):Sp:=fun vs H Q E=>∃ (v:V) (L R:List Prt) (ks:List Lnk) (al:Nms) (x:List Nat),vs=[v,mkT x]∧Den H v (bookD L R ks al)∧VB L R ks al∧x.length≤1000 ∧
  (∀ p,partN (L++R) x=some p→∀ (u:V) (H':Hp),Same H H'→Den H' u (partD p)→Q u H')∧(partN (L++R) x=none→Thrown C H E)
section
variable {P:Program} {w:World} {K:PySem.W.Frag} {mg:Str→Option Value} {base:Heap} {a_NoPart:Addr}
theorem scPartOf:FnScope ["book", "name", "part"] ["book", "name"] (defScope sPartOf):=⟨rfl,rfl,rfl,by decide +kernel,rfl,by decide +kernel,by decide +kernel⟩
theorem c_part_of (h:Has K mg "part_of" sPartOf ["book", "name"]) (q_NoPart:mg "NoPart" = some (.ref a_NoPart)) (x_NoPart:PySem.W.excIn K a_NoPart vBm "ValueError.__new__" = true):Cal1 P w K mg base "part_of" 1 ["book", "name"] (spPartOf a_NoPart):=by
  refine h.mk1 scPartOf (fun vs H Q E hs=>?_) (fun f cdv A outer s H vs Q E hr hs=>?_)
  · obtain ⟨v,L,R,ks,al,x,rfl,_⟩:=hs
    rfl
  obtain ⟨v,L,R,ks,al,x,rfl,hv,vb,hlx,k1,k2⟩:=hs
  refine ⟨_,(pss_cons (ps_for PassesOwn.leaving rfl (pi_tup (pe_op op_catT2 (pe_ix ix_tup (pv 0) pe_int (fun _ _=>rfl)) (pe_ix ix_tup (pv 0) pe_int (fun _ _=>rfl)))) (pg_name (i:=2) scPartOf.nd rfl (Or.inl rfl))
      (pss_one (ps_if (pt_cmpR op_eq (pe_ix ix_tup (pv 2) pe_int (fun _ _=>rfl)) (pv 1) (nomark _))
      (pss_one (ps_ret (pv 2)))
      pss_nil)))
    (pss_one (ps_raise rfl throws1 rfl q_NoPart x_NoPart (pa_cons (pe_fstr (pj_cons pe_str (pj_cons (pe_fmt (pv 1)) pj_nil))) pa_nil)))),?_⟩
  obtain ⟨p,pl,pr,pk,pa,ls,rs,ws,rfl,hp,hpl,hdl,hpr,hdr,hpk,hdk,hpa⟩:=den_book hv
  have at0:atI [V.ref pl,V.ref pr,V.ref pk,V.ref pa] 0=some (.ref pl):=atI_zero _ _
  have at1:atI [V.ref pl,V.ref pr,V.ref pk,V.ref pa] 1=some (.ref pr):=atI_nat (xs:=[V.ref pl,V.ref pr,V.ref pk,V.ref pa]) (j:=1) rfl
  have hl1:=hdl.len
  have hl2:=hdr.len
  rw [List.length_map] at hl1 hl2
  have lL:=vb.lL
  have lR:=vb.lR
  refine ⟨_,rfl,p,_,_,_,rfl,rfl,SqT.of hp,at0,_,rfl,p,_,_,_,rfl,rfl,SqT.of hp,at1,pl,pr,_,_,rfl,rfl,hpl,hpr,small (by omega),fun q3 H3 s3 e3=>?_⟩
  have dA:DenL H (ls++rs) ((L++R).map partD):=by
    rw [List.map_append]
    exact denl_app hdl hdr
  refine ⟨q3,rfl,⟨_,SqT.of e3⟩,?_⟩
  refine for_tup (K:=K) (a:=q3) (xs:=ls++rs) (fun j σ H4=>∃ v2:Option V,σ=[some (.ref p),some (mkT x),v2]∧Same H H4∧H4 q3=some (.tup (ls++rs))∧∀ q∈(L++R).take j,decide (q.1=x)=false) ⟨_,rfl,s3,e3,fun q hq=>by rw [List.take_zero] at hq; cases hq⟩ ?_ ?_ ?_
  · rintro j σ H4 _ ⟨_,_,_,e4,_⟩
    exact SqT.of e4
  · rintro j y σ H4 hj ⟨v2,rfl,s4,e4,hno⟩
    obtain ⟨dd,hdd,dyp⟩:=dA.at_ hj
    have hnj:j < (L++R).length:=by
      have:=(List.getElem?_eq_some_iff.mp hdd).1
      rwa [List.length_map] at this
    rw [List.getElem?_map,List.getElem?_eq_getElem hnj] at hdd
    have edd:partD (L++R)[j]=dd:=Option.some.inj hdd
    subst edd
    have htk:(L++R).take (j+1)=(L++R).take j++[(L++R)[j]]:=by
      rw [List.take_add_one,List.getElem?_eq_getElem hnj]
      rfl
    have hfirst:decide ((L++R)[j].1=x)=true→partN (L++R) x=some (L++R)[j]:=fun h=>find_first hnj hno h
    generalize (L++R)[j]=q at dyp htk hfirst
    obtain ⟨bq,pm,rfl,hbq,hpm⟩:=den_part (dyp.same s4)
    refine gN ⟨_,rfl,bq,_,_,_,rfl,rfl,SqT.of hbq,atI_zero _ _,_,rfl,rfl,_,rfl,?_⟩
    refine ite2 (fun z=>?_) (fun z=>?_)
    · have z':decide (q.1=x)=true:=by rw [← ez_txt]; exact z
      exact ⟨_,rfl,k1 q (hfirst z') _ _ s4 (dyp.same s4)⟩
    · have z':decide (q.1=x)=false:=by rw [← ez_txt]; exact Bool.eq_false_iff.mpr z
      refine ⟨_,rfl,s4,e4,fun q' hq'=>?_⟩
      rw [htk] at hq'
      rcases List.mem_append.mp hq' with h | h
      · exact hno q' h
      · rw [List.mem_singleton.mp h]; exact z'
  · rintro σ H4 ⟨v2,rfl,s4,e4,hno⟩
    have hn:partN (L++R) x=none:=List.find?_eq_none.mpr fun q hq=>by
      have hlen:(ls++rs).length=(L++R).length:=by rw [List.length_append,List.length_append,hl1,hl2]
      have:=hno q (by rw [hlen,List.take_length]; exact hq)
      rw [this]; decide
    have th:=(k2 hn).up s4
    have hx1:(⟨x.toArray⟩:Str).length≤sizeLine:=by
      show x.toArray.size≤sizeLine
      rw [List.size_toArray]; exact Nat.le_of_lt (small1000 hlx)
    have hx2:((Str.empty++Str.ofString "there is no part ")++(⟨x.toArray⟩:Str)).length≤sizeLine:=by
      rw [strLen_append]
      have e1:(Str.empty++Str.ofString "there is no part ").length=17:=by decide +kernel
      rw [e1]
      show 17+x.toArray.size≤sizeLine
      rw [List.size_toArray]
      exact Nat.le_trans (Nat.add_le_add_left hlx 17) (by decide)
    refine ⟨_,rfl,by decide +kernel,_,rfl,.inl ⟨_,rfl,hx1,_,rfl,hx2,hx2,?_⟩⟩
    exact ⟨smn 1,fun e T he hT=>th.made he hT⟩
end
def spTextOf (C:Addr):Sp:=fun vs H Q E=>∃ (v:V) (L R:List Prt) (ks:List Lnk) (al:Nms) (x:List Nat),vs=[v,mkT x]∧Den H v (bookD L R ks al)∧VB L R ks al∧x.length≤1000 ∧
  (∀ p,partN (L++R) x=some p→∀ (H':Hp),Same H H'→Q (mkT p.2.1) H')∧(partN (L++R) x=none→Thrown C H E)
def txOf (ps:List Prt) (x:List Nat):Str:=match partN ps x with
  | some p=>sOf p.2.1
  | none=>sOf []
theorem partN_in {ps:List Prt} {x:List Nat} (h:x∈ps.map (·.1)):∃ p,partN ps x=some p∧p∈ps:=by
  cases e:partN ps x with
  | none =>
    obtain ⟨q,hq,rfl⟩:=List.mem_map.mp h
    exact absurd (decide_eq_true rfl) (List.find?_eq_none.mp e q hq)
  | some p=>exact ⟨p,rfl,List.mem_of_find?_eq_some e⟩
theorem txOf_some {ps:List Prt} {x:List Nat} {p:Prt} (h:partN ps x=some p):txOf ps x=sOf p.2.1:=by
  unfold txOf
  rw [h]
section
variable {P:Program} {w:World} {K:PySem.W.Frag} {mg:Str→Option Value} {base:Heap} {a_NoPart:Addr}
theorem scTextOf:FnScope ["book", "name"] ["book", "name"] (defScope sTextOf):=⟨rfl,rfl,rfl,by decide +kernel,rfl,by decide +kernel,by decide +kernel⟩
theorem c_text_of (h:Has K mg "text_of" sTextOf ["book", "name"]) (C_part_of:Cal1 P w K mg base "part_of" 1 ["book", "name"] (spPartOf a_NoPart)):Cal1 P w K mg base "text_of" 2 ["book", "name"] (spTextOf a_NoPart):=by
  refine h.mk1 scTextOf (fun vs H Q E hs=>?_) (fun f cdv A outer s H vs Q E hr hs=>?_)
  · obtain ⟨v,L,R,ks,al,x,rfl,_⟩:=hs
    rfl
  obtain ⟨v,L,R,ks,al,x,rfl,hv,vb,hlx,k1,k2⟩:=hs
  refine ⟨_,(pss_one (ps_ret (pe_ix ix_tup (pe_cal1 C_part_of hr (by decide) rfl passesO (pa_cons (pv 0) (pa_cons (pv 1) pa_nil))) pe_int (fun _ _=>rfl)))),?_⟩
  refine ⟨_,rfl,_,rfl,v,L,R,ks,al,x,rfl,hv,vb,hlx,fun p hp u H' s' d=>?_,fun z=>(k2 z).out⟩
  obtain ⟨b,pm,rfl,hb,hpm⟩:=den_part d
  exact ⟨b,_,_,_,rfl,rfl,SqT.of hb,atI_nat (xs:=[mkT p.1,mkT p.2.1,V.ref pm]) (j:=1) rfl,k1 p hp H' s'⟩
end
def plT (side:Nat) (t:Str) (ws:List (Str × Str)):List Int:=(plc side (coresL [t]) ws ws.length).map fun i=>((i:Nat):Int)
structure NpAt (H:Hp) (l:Addr) (ps:List Prt) (xs:Nms) (side:Nat) (ws:List (Str × Str)) (vs:List V):Prop where
  e:H l=some (.lst vs)
  n:vs.length=xs.length
  a:∀ (i:Nat) (x:List Nat) (u:V),xs[i]?=some x→vs[i]?=some u→∃ t lp:Addr,u=.ref t∧H t=some (.tup [mkT x,.ref lp])∧H lp=some (.lst ((plT side (txOf ps x) ws).map V.int))∧lp≠l
theorem NpAt.same {H H':Hp} {l:Addr} {ps:List Prt} {xs:Nms} {side:Nat} {ws:List (Str × Str)} {vs:List V} (h:NpAt H l ps xs side ws vs) (s:Same H H'):NpAt H' l ps xs side ws vs:=⟨s _ _ h.e,h.n,fun i x u h1 h2=>by
  obtain ⟨t,lp,e,e1,e2,e3⟩:=h.a i x u h1 h2
  exact ⟨t,lp,e,s _ _ e1,s _ _ e2,e3⟩⟩
structure BkOk (H:Hp) (v:V) (L R:List Prt) (ks:List Lnk) (al:Nms):Prop where
  d:Den H v (bookD L R ks al)
  vb:VB L R ks al
  tx:∀ p∈L++R,p.1.length≤1000∧p.2.1.length≤1000
  la:al.length≤24
  lk:ks.length≤8
theorem BkOk.same {H H':Hp} {v:V} {L R:List Prt} {ks:List Lnk} {al:Nms} (h:BkOk H v L R ks al) (s:Same H H'):BkOk H' v L R ks al:=⟨h.d.same s,h.vb,h.tx,h.la,h.lk⟩
def spNamed:Sp:=fun vs H Q _=>∃ (v:V) (qn qw:Addr) (side:Nat) (L R:List Prt) (ks:List Lnk) (al xs:Nms) (us:List V) (ws:List (Str × Str)),vs=[v,.ref qn,.ref qw,.int (side:Nat)]∧side≤1∧BkOk H v L R ks al∧H qn=some (.tup (xs.map mkT))∧xs.length≤100∧(∀ x∈xs,x∈(L++R).map (·.1))∧H qw=some (.tup us)∧us.length≤1000∧PrT H us ws ∧
  ∀ (l:Addr) (vs':List V) (H':Hp),Same H H'→NpAt H' l (L++R) xs side ws vs'→Q (.ref l) H'
def fitB (ps:List Prt) (ws:List (Str × Str)) (least:Int) (a b:List Nat):Bool:=decide (least≤(hitN (coresL [txOf ps a]) (coresL [txOf ps b]) ws:Nat))
def fitP (ps:List Prt) (ws:List (Str × Str)) (least:Int) (ys:Nms) (a:List Nat):List (List Nat × List Nat):=(ys.filter (fitB ps ws least a)).map fun b=>(a,b)
def fitL (ps:List Prt) (ws:List (Str × Str)) (least:Int) (xs ys:Nms):List (List Nat × List Nat):=xs.flatMap (fitP ps ws least ys)
def ppD (q:List Nat × List Nat):D:=.tup [sD q.1,sD q.2]
def lackOf (L R:List Prt) (ks:List Lnk) (al:Nms) (ps:List Prt):Nms:=lackN (final (L++R) ks al) ps
def spFits:Sp:=fun vs H Q _=>∃ (v:V) (qw:Addr) (least:Int) (L R:List Prt) (ks:List Lnk) (al:Nms) (us:List V) (ws:List (Str × Str)),vs=[v,.ref qw,.int least]∧BkOk H v L R ks al∧H qw=some (.tup us)∧us.length≤1000∧PrT H us ws ∧
  ∀ (q:Addr) (vs':List V) (ds:List D) (H':Hp),Same H H'→H' q=some (.tup vs')→DenL H' vs' ds→ds.Perm ((fitL (L++R) ws least (lackOf L R ks al L) (lackOf L R ks al R)).map ppD)→UpD ds→Q (.ref q) H'
theorem hom_pp (qs:List (List Nat × List Nat)):Hom (qs.map ppD):=by
  refine ⟨fun a ha b hb=>?_,.inr (.inr fun d hd=>?_)⟩
  · obtain ⟨x,_,rfl⟩:=List.mem_map.mp ha
    obtain ⟨y,_,rfl⟩:=List.mem_map.mp hb
    unfold ppD
    exact Sim_t (SimL_c (sim_str _ _) (SimL_c (sim_str _ _) (SimL_n _)))
  · obtain ⟨x,_,rfl⟩:=List.mem_map.mp hd
    exact ⟨_,_,rfl⟩
theorem shal_pp (q:List Nat × List Nat):Shal 1 (ppD q):=by
  refine shal_tup (by simp) fun d hd=>?_
  simp only [List.mem_cons,List.not_mem_nil,or_false] at hd
  rcases hd with rfl | rfl <;> exact shal_str _
theorem lack_in {f:List Nat→Stt} {ps:List Prt} {x:List Nat} (h:x∈lackN f ps):x∈ps.map (·.1):=by
  obtain ⟨p,hp,rfl⟩:=List.mem_map.mp h
  exact List.mem_map_of_mem (List.mem_filter.mp hp).1
theorem fitP_len (ps:List Prt) (ws:List (Str × Str)) (least:Int) (ys:Nms) (a:List Nat):(fitP ps ws least ys a).length≤ys.length:=by
  unfold fitP
  rw [List.length_map]
  exact List.length_filter_le _ _
theorem fitP_snoc {ps:List Prt} {ws:List (Str × Str)} {least:Int} {ys:Nms} {a:List Nat} {j:Nat} (hj:j < ys.length):fitP ps ws least (ys.take (j+1)) a=fitP ps ws least (ys.take j) a++if fitB ps ws least a ys[j]=true then [(a,ys[j])] else []:=by
  unfold fitP
  rw [take_one (ex_at hj),List.filter_append,List.map_append]
  congr 1
  by_cases h:fitB ps ws least a ys[j]=true
  · rw [if_pos h,List.filter_cons_of_pos h]
    rfl
  · rw [if_neg h,List.filter_cons_of_neg h]
    rfl
theorem fitL_snoc {ps:List Prt} {ws:List (Str × Str)} {least:Int} {xs ys:Nms} {i:Nat} (hi:i < xs.length):fitL ps ws least (xs.take (i+1)) ys=fitL ps ws least (xs.take i) ys++fitP ps ws least ys xs[i]:=by
  unfold fitL
  rw [take_one (ex_at hi),List.flatMap_append,List.flatMap_cons,List.flatMap_nil,List.append_nil]
theorem fitL_len (ps:List Prt) (ws:List (Str × Str)) (least:Int) (ys:Nms):∀ xs:Nms,(fitL ps ws least xs ys).length≤xs.length * ys.length
  | []=>Nat.zero_le _
  | x :: xs=>by
    unfold fitL
    rw [List.flatMap_cons,List.length_append,List.length_cons,Nat.add_mul,Nat.one_mul,Nat.add_comm]
    exact Nat.add_le_add (fitL_len ps ws least ys xs) (fitP_len ..)
theorem plT_le (side:Nat) (t:Str) (ws:List (Str × Str)):(plT side t ws).length≤ws.length:=by
  unfold plT
  rw [List.length_map]
  exact plc_len ..
section
variable {P:Program} {w:World} {K:PySem.W.Frag} {mg:Str→Option Value} {base:Heap} {a_NoPart:Addr}
theorem scNamedPlaces:FnScope ["book", "names", "words", "side"] ["book", "names", "words", "side"] (defScope sNamedPlaces):=⟨rfl,rfl,rfl,by decide +kernel,rfl,by decide +kernel,by decide +kernel⟩
theorem c_named_places (h:Has K mg "named_places" sNamedPlaces ["book", "names", "words", "side"]) (C_places_known:Cal P w K mg base "places_known" 5 ["texts", "words", "side"] spPlaces) (C_text_of:Cal1 P w K mg base "text_of" 2 ["book", "name"] (spTextOf a_NoPart)):Cal P w K mg base "named_places" 6 ["book", "names", "words", "side"] spNamed:=by
  refine h.mk' scNamedPlaces (fun vs H Q E hs=>?_) (fun f cdv A outer s H vs Q E hr hs=>?_)
  · obtain ⟨v,qn,qw,side,L,R,ks,al,xs,us,ws,rfl,_⟩:=hs
    rfl
  obtain ⟨v,qn,qw,side,L,R,ks,al,xs,us,ws,rfl,hsd,hB,hqn,hxl,hxin,hqw,hul,hP,k⟩:=hs
  refine ⟨_,(pss_one (ps_ret (pe_compL ["book", "names", "words", "side"] (defScope sNamedPlaces) ["book", "words", "side", "name"] [some 0,some 2,some 3,none] rfl rfl rfl (pi_tup (pv 1)) rfl (by decide +kernel) (by decide +kernel) (by decide +kernel) (by decide +kernel) (hg:=fun cl C s H ex pn E=>(pg_name (i:=3) (by decide +kernel:(["book", "words", "side", "name"]:List Str).Nodup) rfl (Or.inl rfl))) (ht:=fun cl C s H ex pn E=>pifs_nil) (he:=fun cl C s H ex pn E=>(pe_tup (pa_cons (pv 3) (pa_cons (pe_cal C_places_known hr (by decide) rfl (pa_cons (pe_tup (pa_cons (pe_cal1 C_text_of hr (by decide) rfl passesN (pa_cons (pv 0) (pa_cons (pv 3) pa_nil))) pa_nil)) (pa_cons (pv 1) (pa_cons (pv 2) pa_nil)))) pa_nil))))))),?_⟩
  refine ⟨_,rfl,qn,rfl,⟨_,SqT.of hqn⟩,fun lc hlc=>?_⟩
  refine comp_by (J:=Itt K qn) (l:=lc) xs.length (fun i σ' H'=>∃ (v3:Option V) (vs':List V),σ'=[some v,some (.ref qw),some (.int (side:Nat)),v3]∧Same H H'∧NpAt H' lc (L++R) (xs.take i) side ws vs') ⟨none,[],rfl,same_new hlc _,upd_same,rfl,fun i x u h=>by simp at h⟩ ?_ ?_
  · rintro σ' H1 ⟨v3,vs',rfl,s1,n1⟩
    rw [List.take_length] at n1
    exact ⟨⟨_,SqT.of (s1 _ _ hqn),by rw [List.length_map]; exact Nat.le_refl _⟩,k lc vs' H1 s1 n1⟩
  · rintro i σ' H1 hi ⟨v3,vs',rfl,s1,n1⟩
    refine ⟨⟨_,_,SqT.of (s1 _ _ hqn),at_T hi⟩,?_⟩
    rintro y H2 ⟨rfl,hy⟩
    have ey:y=mkT xs[i]:=Option.some.inj ((hy _ (SqT.of (s1 _ _ hqn))).symm.trans (at_T hi))
    subst ey
    obtain ⟨p,hp,hpm⟩:=partN_in (hxin _ (List.getElem_mem hi))
    have hpx:p.1=xs[i]:=of_decide_eq_true (List.find?_some (p:=fun p:Prt=>decide (p.1=xs[i])) hp)
    obtain ⟨t1,t2⟩:=hB.tx p hpm
    have etx:=txOf_some hp
    refine gN (yesT (iteT ?_))
    refine ⟨_,rfl,_,rfl,_,rfl,v,L,R,ks,al,xs[i],rfl,hB.d.same s1,hB.vb,by rw [← hpx]; exact t1,fun p' hp' H3 s3=>?_,fun z=>by rw [hp] at z; cases z⟩
    have epp:p=p':=Option.some.inj (hp.symm.trans hp')
    subst epp
    clear hp'
    refine ⟨smn 1,fun tq htq=>?_⟩
    have s4:=same_new htq (.tup [mkT p.2.1])
    have e4:(upd H3 tq (.tup [mkT p.2.1])) tq=some (.tup ([sOf p.2.1].map V.str)):=upd_same
    generalize upd H3 tq (.tup [mkT p.2.1])=H4 at s4 e4 ⊢
    have s14:=s3.trans s4
    have s04:=s1.trans s14
    refine ⟨_,rfl,_,rfl,tq,qw,side,[sOf p.2.1],us,ws,rfl,hsd,e4,by simp,fun x hx=>?_,s04 _ _ hqw,hul,hP.same s04,fun lp H5 hlp s5 e5=>⟨smn 2,fun t ht=>?_⟩⟩
    · rw [List.mem_singleton.mp hx]
      show p.2.1.toArray.size≤1000
      rw [List.size_toArray]
      exact t2
    have s6:=same_new ht (.tup [mkT xs[i],.ref lp])
    have s16:=(s14.trans s5).trans s6
    have n6:=n1.same s16
    have e6:(upd H5 t (.tup [mkT xs[i],.ref lp])) t=some (.tup [mkT xs[i],.ref lp]):=upd_same
    have e6p:=s6 _ _ e5
    generalize upd H5 t (.tup [mkT xs[i],.ref lp])=H6 at s6 s16 n6 e6 e6p ⊢
    have hvl:=n6.n
    rw [List.length_take] at hvl
    have nlt:t≠lc:=ne_of e6 n6.e (by intro z; cases z)
    have nlp:lp≠lc:=(ne_of_none (s14 _ _ n1.e) hlp).symm
    refine ⟨_,n6.e,small1000 (by omega),_,vs'++[.ref t],rfl,same_updN (s1.trans s16) hlc,upd_same,by rw [List.length_append,hvl,List.length_take,List.length_singleton]; omega,fun j x u hj hu=>?_⟩
    rw [take_one (ex_at hi)] at hj
    rcases Nat.lt_or_ge j vs'.length with hlt | hge
    · rw [List.getElem?_append_left hlt] at hu
      rw [List.getElem?_append_left (by rw [List.length_take]; omega)] at hj
      obtain ⟨t',lp',rfl,e1,e2,e3⟩:=n6.a j x u hj hu
      exact ⟨t',lp',rfl,(upd_ne (ne_of e1 n6.e (by intro z; cases z))).trans e1,(upd_ne e3).trans e2,e3⟩
    · have hj0:j=vs'.length:=by
        have:=(List.getElem?_eq_some_iff.mp hu).1
        rw [List.length_append,List.length_singleton] at this
        omega
      subst hj0
      rw [List.getElem?_append_right (Nat.le_refl _),Nat.sub_self] at hu
      rw [List.getElem?_append_right (by rw [List.length_take]; omega),List.length_take,show vs'.length - min i xs.length=0 by omega] at hj
      cases hu
      cases hj
      refine ⟨t,lp,rfl,(upd_ne nlt).trans e6,(upd_ne nlp).trans ?_,nlp⟩
      rw [e6p,etx]
      rfl
theorem scFitsOf:FnScope ["book", "words", "least", "names", "left", "right", "pairs", "one", "places", "other", "other_places"] ["book", "words", "least"] (defScope sFitsOf):=⟨rfl,rfl,rfl,by decide +kernel,rfl,by decide +kernel,by decide +kernel⟩
theorem c_fits_of (h:Has K mg "fits_of" sFitsOf ["book", "words", "least"]) (C_lacking:Cal P w K mg base "lacking" 4 ["book"] spLack) (C_named_places:Cal P w K mg base "named_places" 6 ["book", "names", "words", "side"] spNamed) (C_hits_of_places:Cal P w K mg base "hits_of_places" 1 ["left", "right"] spBoth) (m_tuple:mg "tuple" = none) (m_sorted:mg "sorted" = none):Cal P w K mg base "fits_of" 7 ["book", "words", "least"] spFits:=by
  refine h.mk' scFitsOf (fun vs H Q E hs=>?_) (fun f cdv A outer s H vs Q E hr hs=>?_)
  · obtain ⟨v,qw,least,L,R,ks,al,us,ws,rfl,_⟩:=hs
    rfl
  obtain ⟨v,qw,least,L,R,ks,al,us,ws,rfl,hB,hqw,hul,hP,k⟩:=hs
  refine ⟨_,(pss_cons (ps_set (i:=3) scFitsOf.nd rfl (Or.inl rfl) (pe_cal C_lacking hr (by decide) rfl (pa_cons (pv 0) pa_nil)))
    (pss_cons (ps_set (i:=4) scFitsOf.nd rfl (Or.inl rfl) (pe_cal C_named_places hr (by decide) rfl (pa_cons (pv 0) (pa_cons (pe_ix ix_tup (pv 3) pe_int (fun _ _=>rfl)) (pa_cons (pv 1) (pa_cons pe_int pa_nil))))))
    (pss_cons (ps_set (i:=5) scFitsOf.nd rfl (Or.inl rfl) (pe_cal C_named_places hr (by decide) rfl (pa_cons (pv 0) (pa_cons (pe_ix ix_tup (pv 3) pe_int (fun _ _=>rfl)) (pa_cons (pv 1) (pa_cons pe_int pa_nil))))))
    (pss_cons (ps_set (i:=6) scFitsOf.nd rfl (Or.inl rfl) (pe_lst pa_nil))
    (pss_cons (ps_for PassesOwn.never rfl (pi_list (pv 4)) (pg_tup (n:=2) rfl (pgs_cons (pg_name (i:=7) scFitsOf.nd rfl (Or.inl rfl)) (pgs_cons (pg_name (i:=8) scFitsOf.nd rfl (Or.inl rfl)) pgs_nil)))
      (pss_one (ps_for PassesOwn.never rfl (pi_list (pv 5)) (pg_tup (n:=2) rfl (pgs_cons (pg_name (i:=9) scFitsOf.nd rfl (Or.inl rfl)) (pgs_cons (pg_name (i:=10) scFitsOf.nd rfl (Or.inl rfl)) pgs_nil)))
      (pss_one (ps_if (pt_cmpR op_ge (pe_cal C_hits_of_places hr (by decide) rfl (pa_cons (pv 8) (pa_cons (pv 10) pa_nil))) (pv 2) (nomark _))
      (pss_one (ps_expr (pe_bm PySem.F.plainAttrs_list PySem.F.slot_list_append PySem.F.type_list_append mt_append (pv 6) (pa_cons (pe_tup (pa_cons (pv 7) (pa_cons (pv 9) pa_nil))) pa_nil))))
      pss_nil)))))
    (pss_one (ps_ret (pe_callTy call_tuple_of rfl m_tuple boot_tuple (pa_cons (pe_callB (call_sortedDB hr.units) rfl m_sorted boot_sorted (pa_cons (pv 6) pa_nil)) pa_nil))))))))),?_⟩
  have lL:=hB.vb.lL
  have lR:=hB.vb.lR
  have hwl:ws.length≤1000:=by rw [← hP.1]; exact hul
  refine ⟨_,rfl,v,L,R,ks,al,rfl,hB.d,hB.vb,fun u H1 s1 d1=>gN ?_⟩
  obtain ⟨p,us1,rfl,hp,hd⟩:=den_tup d1
  obtain ⟨b0,b1,rfl⟩:∃ b0 b1,us1=[b0,b1]:=by
    match us1,hd with
    | [b0,b1],_=>exact ⟨b0,b1,rfl⟩
    | [],h=>exact h.elim
    | [_],h=>exact h.2.elim
    | _ :: _ :: _ :: _,h=>exact h.2.2.elim
  obtain ⟨q0,u0,rfl,hq0,hd0⟩:=den_tup hd.1
  obtain ⟨q1,u1,rfl,hq1,hd1⟩:=den_tup hd.2.1
  rw [denS hd0] at hq0
  rw [denS hd1] at hq1
  clear hd hd0 hd1 d1
  have hx0:∀ x∈lackOf L R ks al L,x∈(L++R).map (·.1):=fun x hx=>by
    rw [List.map_append]
    exact List.mem_append_left _ (lack_in hx)
  have hx1:∀ x∈lackOf L R ks al R,x∈(L++R).map (·.1):=fun x hx=>by
    rw [List.map_append]
    exact List.mem_append_right _ (lack_in hx)
  have hn0:(lackOf L R ks al L).length≤12:=Nat.le_trans (lackN_len _ _) lL
  have hn1:(lackOf L R ks al R).length≤12:=Nat.le_trans (lackN_len _ _) lR
  have hq0:H1 q0=some (.tup ((lackOf L R ks al L).map mkT)):=hq0
  have hq1:H1 q1=some (.tup ((lackOf L R ks al R).map mkT)):=hq1
  generalize lackOf L R ks al L=xs at hq0 hx0 hn0 k
  generalize lackOf L R ks al R=ys at hq1 hx1 hn1 k
  refine ⟨_,rfl,_,rfl,p,_,_,_,rfl,rfl,SqT.of hp,atI_zero _ _,_,rfl,v,q0,qw,0,L,R,ks,al,xs,us,ws,rfl,by decide,hB.same s1,hq0,by omega,hx0,s1 _ _ hqw,hul,hP.same s1,fun l2 vl H2 s2 n2=>gN ?_⟩
  have s02:=s1.trans s2
  refine ⟨_,rfl,_,rfl,p,_,_,_,rfl,rfl,SqT.of (s2 _ _ hp),atI_nat (xs:=[V.ref q0,V.ref q1]) (j:=1) rfl,_,rfl,v,q1,qw,1,L,R,ks,al,ys,us,ws,rfl,by decide,hB.same s02,s2 _ _ hq1,by omega,hx1,s02 _ _ hqw,hul,hP.same s02,fun l3 vr H3 s3 n3=>gN ?_⟩
  have s03:=s02.trans s3
  replace n2:=n2.same s3
  generalize L++R=ps at n2 n3 k
  clear hx0 hx1 hq0 hq1 hp s3 s02 s2 s1
  refine ⟨smn 0,fun l4 hl4=>gN ?_⟩
  have s4:=same_new hl4 (.lst [])
  have e4:(upd H3 l4 (.lst [])) l4=some (.lst []):=upd_same
  generalize upd H3 l4 (.lst [])=H4 at s4 e4 ⊢
  refine ⟨_,rfl,l2,rfl,⟨_,SqL.of (s4 _ _ n2.e)⟩,?_⟩
  refine for_list (K:=K) (a:=l2) (xs:=vl) (fun i σ H5=>∃ (v7 v8 v9 v10:Option V) (us:List V),σ=[some v,some (.ref qw),some (.int least),some (.ref p),some (.ref l2),some (.ref l3),some (.ref l4),v7,v8,v9,v10]∧Same H3 H5∧H5 l4=some (.lst us)∧DenL H5 us ((fitL ps ws least (xs.take i) ys).map ppD)) ⟨_,_,_,_,[],rfl,s4,e4,trivial⟩ ?_ ?_ ?_
  · rintro i σ H5 _ ⟨_,_,_,_,_,_,s5,_⟩
    exact SqL.of (s5 _ _ n2.e)
  · rintro i y σ H5 hi ⟨v7,v8,v9,v10,us5,rfl,s5,e5,d5⟩
    have hin:i < xs.length:=by rw [← n2.n]; exact (List.getElem?_eq_some_iff.mp hi).1
    obtain ⟨t,lp,rfl,ht,hlp,_⟩:=n2.a i _ y (ex_at hin) hi
    have hsn:=fitL_snoc (ps:=ps) (ws:=ws) (least:=least) (ys:=ys) hin
    have hln:=fitL_len ps ws least ys (xs.take i)
    rw [List.length_take] at hln
    have hln:(fitL ps ws least (xs.take i) ys).length≤144:=Nat.le_trans hln (Nat.mul_le_mul (show min i xs.length≤12 by omega) hn1)
    generalize xs[i]=x at ht hlp hsn
    refine ⟨t,_,rfl,SqT.of (s5 _ _ ht),rfl,_,_,rfl,_,_,rfl,rfl,?_⟩
    refine ⟨_,rfl,l3,rfl,⟨_,SqL.of (s5 _ _ n3.e)⟩,?_⟩
    refine for_list (K:=K) (a:=l3) (xs:=vr) (fun j σ H6=>∃ (v9 v10:Option V) (us:List V),σ=[some v,some (.ref qw),some (.int least),some (.ref p),some (.ref l2),some (.ref l3),some (.ref l4),some (mkT x),some (.ref lp),v9,v10]∧Same H3 H6∧H6 l4=some (.lst us)∧DenL H6 us ((fitL ps ws least (xs.take i) ys++fitP ps ws least (ys.take j) x).map ppD)) ⟨_,_,us5,rfl,s5,e5,by rw [show fitP ps ws least (ys.take 0) x=[] from rfl,List.append_nil]; exact d5⟩ ?_ ?_ ?_
    · rintro j σ H6 _ ⟨_,_,_,_,s6,_⟩
      exact SqL.of (s6 _ _ n3.e)
    · rintro j y σ H6 hj ⟨v9,v10,us6,rfl,s6,e6,d6⟩
      have hjn:j < ys.length:=by rw [← n3.n]; exact (List.getElem?_eq_some_iff.mp hj).1
      obtain ⟨t',lp',rfl,ht',hlp',_⟩:=n3.a j _ y (ex_at hjn) hj
      have hsn:=fitP_snoc (ps:=ps) (ws:=ws) (least:=least) (a:=x) hjn
      have hul:=d6.len
      have hlj:=fitP_len ps ws least (ys.take j) x
      rw [List.length_take] at hlj
      rw [List.length_map,List.length_append] at hul
      refine ⟨t',_,rfl,SqT.of (s6 _ _ ht'),rfl,_,_,rfl,_,_,rfl,rfl,?_⟩
      have p1:=plT_le 0 (txOf ps x) ws
      have p2:=plT_le 1 (txOf ps ys[j]) ws
      refine ⟨_,rfl,_,rfl,lp,lp',_,_,rfl,s6 _ _ hlp,s6 _ _ hlp',by omega,by omega,fun M H7 s7 hM hMm=>?_⟩
      have hMl:M.length=hitN (coresL [txOf ps x]) (coresL [txOf ps ys[j]]) ws:=both_len hM hMm
      rw [hMl]
      refine ⟨_,rfl,_,_,rfl,rfl,_,rfl,?_⟩
      have s37:=s6.trans s7
      have e7:=s7 _ _ e6
      have d7:=d6.same s7
      refine ite2 (fun z=>?_) (fun z=>?_)
      · have zb:fitB ps ws least x ys[j]=true:=z
        rw [if_pos zb] at hsn
        refine ⟨_,rfl,.inl ⟨rfl,_,SqL.of e7⟩,_,rfl,_,rfl,smn 2,fun tt htt=>?_⟩
        have s8:=same_new htt (.tup [mkT x,mkT ys[j]])
        have e8:=s8 _ _ e7
        have kt:=keepT_upd (zs:=us6++[.ref tt]) e8
        refine ⟨l4,us6,_,rfl,rfl,e8,small1000 (by omega),_,_,us6++[.ref tt],rfl,same_updN (s37.trans s8) hl4,upd_same,?_⟩
        rw [hsn,← List.append_assoc,List.map_append]
        exact DenL.snoc (Den.keepT kt (show Den _ (.ref tt) (ppD (x,ys[j])) from ⟨tt,_,rfl,upd_same,rfl,rfl,trivial⟩)) ((d7.same s8).keepT kt)
      · have zb:¬ fitB ps ws least x ys[j]=true:=z
        rw [if_neg zb,List.append_nil] at hsn
        exact ⟨_,_,us6,rfl,s37,e7,by rw [hsn]; exact d7⟩
    · rintro σ H6 ⟨v9,v10,us6,rfl,s6,e6,d6⟩
      rw [n3.n,List.take_length,← hsn] at d6
      exact ⟨_,_,_,_,us6,rfl,s6,e6,d6⟩
  · rintro σ H5 ⟨v7,v8,v9,v10,us5,rfl,s5,e5,d5⟩
    rw [n2.n,List.take_length] at d5
    have hln:=fitL_len ps ws least ys xs
    have hln:(fitL ps ws least xs ys).length≤144:=Nat.le_trans hln (Nat.mul_le_mul hn0 hn1)
    refine ⟨_,rfl,l4,_,_,rfl,.inl (SqL.of e5),d5,hom_pp _,by rw [List.length_map]; omega,fun d hd=>?_,fun l6 us6 ds6 hl6 pm6 up6 dn6=>?_⟩
    · obtain ⟨q,_,rfl⟩:=List.mem_map.mp hd
      exact show Shal 50 _ from shal_ups (n:=1) (shal_pp q) 49
    have s6:=same_new hl6 (.lst us6)
    refine ⟨l6,_,rfl,.inl ⟨SqL.of upd_same,fun q hq=>?_⟩⟩
    have s7:=s6.trans (same_new hq (.tup us6))
    exact k q us6 ds6 _ ((s03.trans s5).trans s7) upd_same (dn6.same s7) pm6 up6
end
def DrAt (b lb:Addr) (H:Hp):Prop:=∃ (s:Int) (ns:List Int),H b=some (.lst [.int s,.ref lb])∧H lb=some (.lst (ns.map V.int))∧b≠lb∧0≤s∧s < 2305843009213693951
theorem DrAt.same {b lb:Addr} {H H':Hp} (h:DrAt b lb H) (s:Same H H'):DrAt b lb H':=by
  obtain ⟨i,ns,e1,e2,r⟩:=h
  exact ⟨i,ns,s _ _ e1,s _ _ e2,r⟩
theorem DrAt.ne {b lb c:Addr} {H:Hp} (h:DrAt b lb H) (hc:H c=none):c≠b∧c≠lb:=by
  obtain ⟨i,ns,e1,e2,r⟩:=h
  exact ⟨(ne_of_none e1 hc).symm,(ne_of_none e2 hc).symm⟩
theorem DrAt.upd {b lb c:Addr} {H:Hp} {o:HO} (h:DrAt b lb H) (h1:c≠b) (h2:c≠lb):DrAt b lb (L2.upd H c o):=by
  obtain ⟨i,ns,e1,e2,r⟩:=h
  exact ⟨i,ns,(upd_ne h1.symm).trans e1,(upd_ne h2.symm).trans e2,r⟩
theorem Old.tup {b lb:Addr} {H H':Hp} (o:Old b lb H H') (hp:DrAt b lb H):∀ (c:Addr) (vs:List V),H c=some (.tup vs)→H' c=some (.tup vs):=fun c vs e=>by
  obtain ⟨i,ns,e1,e2,r⟩:=hp
  exact o c _ e (ne_of e e1 (by intro z; cases z)) (ne_of e e2 (by intro z; cases z))
theorem Old.none {b lb c:Addr} {H H':Hp} (o:Old b lb H H') (hp':DrAt b lb H') (hc:H' c=none):H c=none:=by
  cases e:H c with
  | none=>rfl
  | some u =>
    have:=o c u e (hp'.ne hc).1 (hp'.ne hc).2
    rw [hc] at this
    cases this
def spDraws (K:PySem.W.Frag):Sp:=fun vs H Q _=>∃ (a:Addr) (ns:List Int),vs=[.ref a]∧SqL K H a (ns.map V.int)∧ns.length≤63∧∀ (b lb:Addr) (H':Hp),Same H H'→DrAt b lb H'→Q (.ref b) H'
def spPick:Sp:=fun vs H Q _=>∃ (b lb:Addr) (m:Int),vs=[.ref b,.int m]∧DrAt b lb H∧0 < m∧m < 2 ^ 64∧∀ (r:Int) (H':Hp),DrAt b lb H'→Old b lb H H'→0≤r→r < m→Q (.int r) H'
theorem e61:(2:Int) ^ (61:Int).toNat - 1=2305843009213693951:=by decide
theorem seqIx0 (n:Nat):seqIndex? 0 (n+1)=some 0:=by
  unfold seqIndex?
  simp
theorem ixN0 {α:Type} (x:α) (r:List α):ixN (x :: r).length 0=some 0:=by
  unfold ixN
  rw [if_pos (Int.le_refl 0),if_pos (by simp)]
  rfl
section
variable {P:Program} {w:World} {K:PySem.W.Frag} {mg:Str→Option Value} {base:Heap}
theorem scDraws:FnScope ["_law_script", "_law_mixed", "_law_cell"] ["_law_script"] (defScope sDraws):=⟨rfl,rfl,rfl,by decide +kernel,rfl,by decide +kernel,by decide +kernel⟩
theorem c_draws (h:Has K mg "_law_draws" sDraws ["_law_script"]) (m_len:mg "len" = none) (m_abs:mg "abs" = none):Cal P w K mg base "_law_draws" 1 ["_law_script"] (spDraws K):=by
  refine h.mk' scDraws (fun vs H Q E hs=>?_) (fun f cdv A outer s H vs Q E hr hs=>?_)
  · obtain ⟨a,ns,rfl,_⟩:=hs
    rfl
  obtain ⟨a,ns,rfl,hS,h63,k⟩:=hs
  refine ⟨_,(pss_cons (ps_set (i:=1) scDraws.nd rfl (Or.inl rfl) (pe_op op_add (pe_callB call_len_seq rfl m_len PySem.boot_len (pa_cons (pv 0) pa_nil)) pe_int))
    (pss_cons (ps_for PassesOwn.never rfl (pi_list (pv 0)) (pg_name (i:=2) scDraws.nd rfl (Or.inl rfl))
      (pss_one (ps_set (i:=1) scDraws.nd rfl (Or.inl rfl) (pe_op op_mod (pe_op op_add (pe_op op_add (pe_op op_mul (pv 1) pe_int) (pe_op op_mod (pe_callB call_abs rfl m_abs boot_abs (pa_cons (pv 2) pa_nil)) (pe_op op_pow pe_int pe_int))) pe_int) (pe_op op_sub (pe_op op_pow pe_int pe_int) pe_int)))))
    (pss_cons (ps_if (PW.pt (pw_and (pt_cmpR op_gt (pe_callB call_len_seq rfl m_len PySem.boot_len (pa_cons (pv 0) pa_nil)) pe_int (nomark _)) (pw_and1 (pt_cmpR op_eq (pe_op op_mod (pe_ix ix_list (pv 0) pe_int (fun _ _=>rfl)) pe_int) pe_int (nomark _)))))
      (pss_one (ps_ret (pe_lst (pa_cons (pv 1) (pa_cons (pe_op op_cat (pe_lst (pa_cons (pe_op op_fdivB (pe_callB call_abs rfl m_abs boot_abs (pa_cons (pe_ix ix_list (pv 0) pe_int (fun _ _=>rfl)) pa_nil)) pe_int) pa_nil)) (pe_compL ["_law_script", "_law_mixed", "_law_cell"] (defScope sDraws) ["_law_cell"] [none] rfl rfl rfl (pi_list (pe_slice sl_list (pv 0) (po_some pe_int) (po_some pe_int))) rfl (by decide +kernel) (by decide +kernel) (by decide +kernel) (by decide +kernel) (hg:=fun cl C s H ex pn E=>(pg_name (i:=0) (by decide +kernel:(["_law_cell"]:List Str).Nodup) rfl (Or.inl rfl))) (ht:=fun cl C s H ex pn E=>pifs_nil) (he:=fun cl C s H ex pn E=>(pe_callB call_abs rfl m_abs boot_abs (pa_cons (pv 0) pa_nil))))) pa_nil)))))
      pss_nil)
    (pss_one (ps_ret (pe_lst (pa_cons (pv 1) (pa_cons (pe_lst pa_nil) pa_nil)))))))),?_⟩
  refine ⟨_,rfl,a,_,rfl,.inl hS,_,_,rfl,rfl,gN ?_⟩
  rw [List.length_map]
  refine ⟨_,rfl,a,rfl,⟨_,hS⟩,?_⟩
  refine for_list (K:=K) (a:=a) (xs:=ns.map V.int) (fun i σ H3=>∃ (v2:Option V) (s:Int),σ=[some (.ref a),some (.int s),v2]∧H3=H∧0≤s∧s < 2305843009213693951) ⟨_,_,rfl,rfl,by omega,by omega⟩ ?_ ?_ ?_
  · rintro i σ H3 _ ⟨_,_,_,rfl,_⟩
    exact hS
  · rintro i y σ H3 hi ⟨v2,s,rfl,rfl,a0,a1⟩
    obtain ⟨c,rfl⟩:=map_int_at hi
    refine gN ⟨_,rfl,_,_,rfl,rfl,.inl ⟨by omega,by omega⟩,_,rfl,_,rfl,_,_,rfl,rfl,⟨by decide,by decide,by decide⟩,_,_,rfl,rfl,by show (0:Int) < 10 ^ 40; decide,_,_,rfl,rfl,_,_,rfl,rfl,_,_,rfl,rfl,⟨by decide,by decide,by decide⟩,_,_,rfl,rfl,_,_,rfl,rfl,by show (0:Int) < 2 ^ (61:Int).toNat - 1; decide,?_⟩
    rw [e61]
    exact ⟨_,_,rfl,rfl,Int.emod_nonneg _ (by decide),Int.emod_lt_of_pos _ (by decide)⟩
  · rintro σ H3 ⟨v2,s,rfl,rfl,a0,a1⟩
    refine ⟨_,rfl,a,_,rfl,.inl hS,_,_,rfl,rfl,_,rfl,?_⟩
    refine ite2 (fun z=>?_) (fun z=>?_)
    · have z':(0:Int) < (((ns.map V.int).length:Nat):Int):=of_decide_eq_true z
      rw [List.length_map] at z'
      obtain ⟨x,r,hns⟩:∃ x r,ns=x :: r:=by
        cases ns with
        | nil=>exact absurd z' (by decide)
        | cons x r=>exact ⟨x,r,rfl⟩
      have hat:atI (ns.map V.int) 0=some (.int x):=by rw [hns]; exact atI_zero _ _
      clear z z'
      refine ⟨_,rfl,a,_,_,_,rfl,rfl,hS,hat,_,_,rfl,rfl,by show (0:Int) < 2; decide,rfl,_,rfl,?_⟩
      refine ite2 (fun z=>?_) (fun z=>?_)
      · obtain ⟨m2,em2,hm2⟩:=cutV_ints ns (some 1) (some 63)
        refine ⟨_,rfl,_,rfl,a,_,_,_,rfl,rfl,hS,hat,_,rfl,_,_,rfl,rfl,⟨by decide,by decide⟩,smn 1,fun l1 hl1=>?_⟩
        have s1:=same_new hl1 (.lst [.int ((if x < 0 then -x else x) / 2)])
        have e1:(upd H3 l1 (.lst [.int ((if x < 0 then -x else x) / 2)])) l1=some (.lst [.int ((if x < 0 then -x else x) / 2)]):=upd_same
        generalize upd H3 l1 (.lst [.int ((if x < 0 then -x else x) / 2)])=H4 at s1 e1 ⊢
        refine ⟨_,rfl,_,rfl,_,rfl,a,_,rfl,s1.seq hS,fun lx hlx=>?_⟩
        rw [em2]
        have s2:=same_new hlx (.lst (m2.map V.int))
        have e2:(upd H4 lx (.lst (m2.map V.int))) lx=some (.lst (m2.map V.int)):=upd_same
        generalize upd H4 lx (.lst (m2.map V.int))=H5 at s2 e2 ⊢
        refine ⟨lx,rfl,⟨_,SqL.of e2⟩,fun lc hlc=>?_⟩
        refine comp_by (J:=Itl K lx) (l:=lc) m2.length (fun i σ' H'=>∃ (v:Option V) (ks:List Int),σ'=[v]∧Same H5 H'∧H' lc=some (.lst (ks.map V.int))∧ks.length=i) ⟨none,[],rfl,same_new hlc _,upd_same,rfl⟩ ?_ ?_
        · rintro σ' H6 ⟨v,ks,rfl,s6,e6,hk⟩
          refine ⟨⟨_,SqL.of (s6 _ _ e2),by rw [List.length_map]; exact Nat.le_refl _⟩,l1,lc,_,_,rfl,rfl,s6 _ _ (s2 _ _ e1),e6,small (by rw [List.length_map,List.length_singleton]; omega),fun l7 hl7=>⟨smn 2,fun b hb=>?_⟩⟩
          have s7:=same_new hl7 (.lst ([V.int ((if x < 0 then -x else x) / 2)]++ks.map V.int))
          have s8:=same_new hb (.lst [.int s,.ref l7])
          exact k b l7 _ ((((s1.trans s2).trans s6).trans s7).trans s8) ⟨s,(if x < 0 then -x else x) / 2 :: ks,upd_same,s8 _ _ upd_same,(ne_of_none upd_same hb).symm,a0,a1⟩
        · rintro i σ' H6 hi ⟨v,ks,rfl,s6,e6,hk⟩
          have hat:(m2.map V.int)[i]?=some (.int m2[i]):=by rw [List.getElem?_map,ex_at hi]; rfl
          refine ⟨⟨_,_,SqL.of (s6 _ _ e2),hat⟩,?_⟩
          rintro y H7 ⟨rfl,hy⟩
          have ey:y=.int m2[i]:=Option.some.inj ((hy _ (SqL.of (s6 _ _ e2))).symm.trans hat)
          subst ey
          refine gN (yesT (iteT ⟨_,rfl,_,rfl,_,e6,small1000 (by rw [List.length_map]; omega),_,ks++[if m2[i] < 0 then -m2[i] else m2[i]],rfl,same_updN s6 hlc,?_,by rw [List.length_append,List.length_singleton,hk]⟩))
          rw [upd_same,List.map_append]
          rfl
      · refine ⟨_,rfl,smn 0,fun l1 hl1=>⟨smn 2,fun b hb=>?_⟩⟩
        have s8:=same_new hb (.lst [.int s,.ref l1])
        exact k b l1 _ ((same_new hl1 _).trans s8) ⟨s,[],upd_same,s8 _ _ upd_same,(ne_of_none upd_same hb).symm,a0,a1⟩
    · refine ⟨_,rfl,smn 0,fun l1 hl1=>⟨smn 2,fun b hb=>?_⟩⟩
      have s8:=same_new hb (.lst [.int s,.ref l1])
      exact k b l1 _ ((same_new hl1 _).trans s8) ⟨s,[],upd_same,s8 _ _ upd_same,(ne_of_none upd_same hb).symm,a0,a1⟩
theorem scPick:FnScope ["_law_draws_here", "_law_many", "_law_digit"] ["_law_draws_here", "_law_many"] (defScope sPick):=⟨rfl,rfl,rfl,by decide +kernel,rfl,by decide +kernel,by decide +kernel⟩
theorem c_pick (h:Has K mg "_law_pick" sPick ["_law_draws_here", "_law_many"]) (m_len:mg "len" = none):Cal P w K mg base "_law_pick" 1 ["_law_draws_here", "_law_many"] spPick:=by
  refine h.mk' scPick (fun vs H Q E hs=>?_) (fun f cdv A outer s H vs Q E hr hs=>?_)
  · obtain ⟨b,lb,m,rfl,_⟩:=hs
    rfl
  obtain ⟨b,lb,m,rfl,⟨s0,n0,e1,e2,hne,s00,s01⟩,m0,m1,k⟩:=hs
  refine ⟨_,(pss_cons (ps_while PassesOwn.never (PW.pt (pw_and (pt_cmpR op_gt (pe_callB call_len_seq rfl m_len PySem.boot_len (pa_cons (pe_ix ix_list (pv 0) pe_int (fun _ _=>rfl)) pa_nil)) pe_int (nomark _)) (pw_and1 (pt_cmpR op_eq (pe_ix ix_list (pe_ix ix_list (pv 0) pe_int (fun _ _=>rfl)) pe_int (fun _ _=>rfl)) pe_int (nomark _)))))
      (pss_one (ps_expr (pe_bm PySem.F.plainAttrs_list PySem.F.slot_list_pop PySem.F.type_list_pop mt_popAt (pe_ix ix_list (pv 0) pe_int (fun _ _=>rfl)) (pa_cons pe_int pa_nil)))))
    (pss_cons (ps_if (pt_cmpR op_gt (pe_callB call_len_seq rfl m_len PySem.boot_len (pa_cons (pe_ix ix_list (pv 0) pe_int (fun _ _=>rfl)) pa_nil)) pe_int (nomark _))
      (pss_cons (ps_set (i:=2) scPick.nd rfl (Or.inl rfl) (pe_op op_mod (pe_ix ix_list (pe_ix ix_list (pv 0) pe_int (fun _ _=>rfl)) pe_int (fun _ _=>rfl)) (pv 1)))
    (pss_cons (ps_asg (pe_op op_fdivB (pe_ix ix_list (pe_ix ix_list (pv 0) pe_int (fun _ _=>rfl)) pe_int (fun _ _=>rfl)) (pv 1)) (pg_sub (pe_ix ix_list (pv 0) pe_int (fun _ _=>rfl)) pe_int set_list))
    (pss_one (ps_ret (pv 2)))))
      pss_nil)
    (pss_cons (ps_asg (pe_op op_mod (pe_op op_add (pe_op op_mul (pe_ix ix_list (pv 0) pe_int (fun _ _=>rfl)) pe_int) pe_int) (pe_op op_sub (pe_op op_pow pe_int pe_int) pe_int)) (pg_sub (pv 0) pe_int set_list))
    (pss_one (ps_ret (pe_op op_mod (pe_op op_fdivB (pe_op op_mod (pe_op op_mul (pe_ix ix_list (pv 0) pe_int (fun _ _=>rfl)) (pe_op op_add (pe_op op_mod (pe_ix ix_list (pv 0) pe_int (fun _ _=>rfl)) pe_int) pe_int)) (pe_op op_sub (pe_op op_pow pe_int pe_int) pe_int)) pe_int) (pv 1))))))),?_⟩
  have at0:∀ s:Int,atI [V.int s,V.ref lb] 0=some (.int s):=fun s=>atI_zero _ _
  have at1:∀ s:Int,atI [V.int s,V.ref lb] 1=some (.ref lb):=fun s=>atI_nat (xs:=[V.int s,V.ref lb]) (j:=1) rfl
  refine ⟨fun x σ H2=>∃ ns:List Int,x=ns.length∧σ=[some (.ref b),some (.int m),none]∧H2 b=some (.lst [.int s0,.ref lb])∧H2 lb=some (.lst (ns.map V.int))∧Old b lb H H2,⟨_,n0,rfl,rfl,e1,e2,Old.refl _ _ _⟩,?_⟩
  rintro x σ H2 ⟨ns,hx,rfl,e1,e2,o2⟩
  refine ⟨_,rfl,b,_,_,_,rfl,rfl,SqL.of e1,at1 _,lb,_,rfl,.inl (SqL.of e2),_,_,rfl,rfl,_,rfl,?_⟩
  have zz:∀ {x:Int} {q:List V},atI (V.int x :: q) 0=some (.int x):=atI_zero _ _
  have two:ns=[]∨∃ x r,ns=x :: r:=by
    cases ns with
    | nil=>exact .inl rfl
    | cons x r=>exact .inr ⟨x,r,rfl⟩
  refine ite2 (fun z=>?ta) (fun z=>?tb)
  case' ta =>
    have z':(0:Int) < (((ns.map V.int).length:Nat):Int):=of_decide_eq_true z
    obtain ⟨y,r,hns⟩:∃ y r,ns=y :: r:=by
      rcases two with h | h
      · rw [h] at z'
        exact absurd z' (by decide)
      · exact h
    have e2':H2 lb=some (.lst (.int y :: r.map V.int)):=by rw [e2,hns]; rfl
    refine ⟨_,rfl,b,_,_,_,rfl,rfl,SqL.of e1,at1 _,lb,_,_,_,rfl,rfl,SqL.of e2',zz,rfl,_,rfl,?_⟩
    refine ite2 (fun z2=>?tc) (fun z2=>?td)
    case tc =>
      refine ⟨fun σ' H'=>∃ x',x' < x∧∃ ns:List Int,x'=ns.length∧σ'=[some (.ref b),some (.int m),none]∧H' b=some (.lst [.int s0,.ref lb])∧H' lb=some (.lst (ns.map V.int))∧Old b lb H H',fun _ _ q=>q,?_⟩
      refine ⟨_,rfl,b,_,_,_,rfl,rfl,SqL.of e1,at1 _,.inl ⟨rfl,_,SqL.of e2'⟩,lb,_,0,0,_,rfl,rfl,e2',by decide,by decide,seqIx0 _,rfl,?_⟩
      refine ⟨r.length,by rw [hx,hns,List.length_cons]; omega,r,rfl,rfl,(upd_ne hne).trans e1,upd_same,fun c o e h1 h2=>?_⟩
      rw [upd_ne h2]
      exact o2 c o e h1 h2
  all_goals
    clear z
    rcases two with hn | ⟨y',r',hn⟩
    · have e2':H2 lb=some (.lst []):=by rw [e2,hn]; rfl
      refine ⟨_,rfl,b,_,_,_,rfl,rfl,SqL.of e1,at1 _,lb,_,rfl,.inl (SqL.of e2'),_,_,rfl,rfl,_,rfl,iteF ?_⟩
      refine ⟨_,rfl,b,_,_,_,rfl,rfl,SqL.of e1,at0 _,_,_,rfl,rfl,.inl ⟨by omega,by omega⟩,_,_,rfl,rfl,_,_,rfl,rfl,⟨by decide,by decide,by decide⟩,_,_,rfl,rfl,_,_,rfl,rfl,by show (0:Int) < 2 ^ (61:Int).toNat - 1; decide,_,rfl,b,_,_,0,rfl,rfl,e1,rfl,?_⟩
      rw [e61]
      dsimp only
      have hr:=Int.emod_nonneg (s0 * 6364136223846793005+1442695040888963407) (show (2305843009213693951:Int)≠0 by decide)
      have hr2:=Int.emod_lt_of_pos (s0 * 6364136223846793005+1442695040888963407) (show (0:Int) < 2305843009213693951 by decide)
      generalize (s0 * 6364136223846793005+1442695040888963407) % 2305843009213693951=s' at hr hr2 ⊢
      have e3:(upd H2 b (.lst ([V.int s0,V.ref lb].set 0 (.int s')))) b=some (.lst [.int s',.ref lb]):=upd_same
      have e3l:(upd H2 b (.lst ([V.int s0,V.ref lb].set 0 (.int s')))) lb=some (.lst (([]:List Int).map V.int)):=(upd_ne hne.symm).trans e2'
      have o3:Old b lb H (upd H2 b (.lst ([V.int s0,V.ref lb].set 0 (.int s')))):=fun c o e h1 h2=>by
        rw [upd_ne h1]
        exact o2 c o e h1 h2
      generalize upd H2 b (.lst ([V.int s0,V.ref lb].set 0 (.int s')))=H3 at e3 e3l o3 ⊢
      refine ⟨_,rfl,b,_,_,_,rfl,rfl,SqL.of e3,at0 _,_,rfl,b,_,_,_,rfl,rfl,SqL.of e3,at0 _,_,_,rfl,rfl,by show (0:Int) < 65521; decide,_,_,rfl,rfl,_,_,rfl,rfl,.inl ⟨by omega,by omega⟩,_,_,rfl,rfl,⟨by decide,by decide,by decide⟩,_,_,rfl,rfl,_,_,rfl,rfl,by show (0:Int) < 2 ^ (61:Int).toNat - 1; decide,_,_,rfl,rfl,⟨by decide,by decide⟩,_,rfl,_,_,rfl,rfl,m0,?_⟩
      exact k _ H3 ⟨s',[],e3,e3l,hne,hr,hr2⟩ o3 (Int.emod_nonneg _ (by omega)) (Int.emod_lt_of_pos _ m0)
    · have e2':H2 lb=some (.lst (.int y' :: r'.map V.int)):=by rw [e2,hn]; rfl
      refine ⟨_,rfl,b,_,_,_,rfl,rfl,SqL.of e1,at1 _,lb,_,rfl,.inl (SqL.of e2'),_,_,rfl,rfl,_,rfl,?_⟩
      refine ite2 (fun _=>?_) (fun q=>absurd (decide_eq_true (by rw [List.length_cons]; omega)) q)
      refine ⟨_,rfl,b,_,_,_,rfl,rfl,SqL.of e1,at1 _,lb,_,_,_,rfl,rfl,SqL.of e2',zz,_,rfl,_,_,rfl,rfl,m0,gN ?_⟩
      refine ⟨_,rfl,b,_,_,_,rfl,rfl,SqL.of e1,at1 _,lb,_,_,_,rfl,rfl,SqL.of e2',zz,_,rfl,_,_,rfl,rfl,⟨m0,m1⟩,_,rfl,b,_,_,_,rfl,rfl,SqL.of e1,at1 _,lb,_,_,0,rfl,rfl,e2',ixN0 _ _,?_⟩
      refine ⟨_,rfl,k _ _ ⟨s0,y' / m :: r',(upd_ne hne).trans e1,upd_same,hne,s00,s01⟩ (fun c o e h1 h2=>?_) (Int.emod_nonneg _ (by omega)) (Int.emod_lt_of_pos _ m0)⟩
      rw [upd_ne h2]
      exact o2 c o e h1 h2
end
def spNames:Sp:=fun vs H Q _=>∃ (b lb:Addr) (n:Nat),vs=[.ref b,.int (n:Nat)]∧DrAt b lb H∧n≤24∧∀ (l:Addr) (ns:Nms) (H':Hp),H' l=some (.lst (ns.map mkT))→ns.length=n→ns.Nodup→(∀ x∈ns,x.length≤8)→H l=none→DrAt b lb H'→Old b lb H H'→Q (.ref l) H'
def spMoments:Sp:=fun vs H Q _=>∃ (b lb:Addr) (n:Nat),vs=[.ref b,.int (n:Nat)]∧DrAt b lb H∧n≤1∧∀ (q:Addr) (ms:List Int) (H':Hp),H' q=some (.tup (ms.map V.int))→ms.length≤4→DrAt b lb H'→Old b lb H H'→Q (.ref q) H'
theorem lt_at:∀ n:Nat,n < 26→(Str.cps "abcdefghijklmnopqrstuvwxyz").toList[n]?=some (97+n):=by decide +kernel
theorem lt_I {r:Int} (h0:0≤r) (h1:r < 26):atI (Str.cps "abcdefghijklmnopqrstuvwxyz").toList r=some (97+r.toNat):=by
  obtain ⟨n,rfl⟩:=Int.eq_ofNat_of_zero_le h0
  exact atI_nat (lt_at n (by omega))
def nmAt (f st mo:Int) (c k:Nat):List Nat:=(97+((f+st * (k:Int)) % 26).toNat) :: List.replicate (((k:Int) * k+f) % mo).toNat c
theorem nm_ne {f st mo:Int} {c:Nat} (hst:st=1∨st=3∨st=5∨st=7∨st=9∨st=11) {i j:Nat} (hi:i < 24) (hj:j < 24) (h:nmAt f st mo c i=nmAt f st mo c j):i=j:=by
  unfold nmAt at h
  injection h with h _
  rcases hst with rfl | rfl | rfl | rfl | rfl | rfl <;> omega
theorem nm_nodup {f st mo:Int} {c:Nat} (hst:st=1∨st=3∨st=5∨st=7∨st=9∨st=11) {n:Nat} (hn:n≤24):((List.range n).map (nmAt f st mo c)).Nodup:=by
  rw [List.nodup_iff_pairwise_ne,List.pairwise_map]
  refine List.Pairwise.imp_of_mem (fun {a b} ha hb h e=>h ?_) (List.nodup_iff_pairwise_ne.mp List.nodup_range)
  exact nm_ne hst (by have:=List.mem_range.mp ha; omega) (by have:=List.mem_range.mp hb; omega) e
theorem nm_len {f st mo:Int} {c:Nat} (h0:1≤mo) (h1:mo≤4) (k:Nat):(nmAt f st mo c k).length≤8:=by
  unfold nmAt
  rw [List.length_cons,List.length_replicate]
  have:=Int.emod_lt_of_pos ((k:Int) * k+f) (show 0 < mo by omega)
  omega
theorem flat_one (n c:Nat):(List.replicate n [c]).flatten=List.replicate n c:=by
  induction n with
  | zero=>rfl
  | succ n ih=>rw [List.replicate_succ,List.flatten_cons,ih]; rfl
theorem cons_cat (a:Nat) (l:List Nat):(⟨#[a]⟩:Str)++(⟨l.toArray⟩:Str)=⟨(a :: l).toArray⟩:=by
  show Str.mk (#[a]++l.toArray)=_
  simp
theorem pick_of {xs:List Int} {r:Int} {n:Nat} (hn:xs.length=n) (h0:0≤r) (h1:r < n):∃ st:Int,atI (xs.map V.int) r=some (.int st)∧st∈xs:=by
  obtain ⟨v,hv,hm⟩:=atI_lt (xs:=xs.map V.int) h0 (by rw [List.length_map,hn]; exact h1)
  obtain ⟨st,h,rfl⟩:=List.mem_map.mp hm
  exact ⟨st,hv,h⟩
section
variable {P:Program} {w:World} {K:PySem.W.Frag} {mg:Str→Option Value} {base:Heap}
theorem scNames:FnScope ["_law_draws_here", "_law_many", "_law_letters", "_law_first", "_law_step", "_law_most", "_law_tail", "_law_names_here", "_law_k", "_law_name"] ["_law_draws_here", "_law_many"] (defScope sNames):=⟨rfl,rfl,rfl,by decide +kernel,rfl,by decide +kernel,by decide +kernel⟩
theorem c_names (h:Has K mg "_law_names" sNames ["_law_draws_here", "_law_many"]) (C_pick:Cal P w K mg base "_law_pick" 1 ["_law_draws_here", "_law_many"] spPick) (m_int:mg "int" = none) (m_range:mg "range" = none):Cal P w K mg base "_law_names" 2 ["_law_draws_here", "_law_many"] spNames:=by
  refine h.mk' scNames (fun vs H Q E hs=>?_) (fun f cdv A outer s H vs Q E hr hs=>?_)
  · obtain ⟨b,lb,n,rfl,_⟩:=hs
    rfl
  obtain ⟨b,lb,n,rfl,hp,hn,k⟩:=hs
  refine qex ⟨_,(qss_cons ⟨(ps_set (i:=2) scNames.nd rfl (Or.inl rfl) pe_str)⟩
    (qss_cons ⟨(ps_set (i:=3) scNames.nd rfl (Or.inl rfl) (pe_op op_mul (pe_cal C_pick hr (by decide) rfl (pa_cons (pv 0) (pa_cons pe_int pa_nil))) (pe_callTy call_int1 rfl m_int boot_int (pa_cons (pe_cmpR op_gt (pe_cal C_pick hr (by decide) rfl (pa_cons (pv 0) (pa_cons pe_int pa_nil))) pe_int (nomark _)) pa_nil))))⟩
    (qss_cons (qs_set (i:=4) scNames.nd rfl (Or.inl rfl) (qe_ix ix_list (qe_lst (qa_c ⟨pe_int⟩ (qa_c ⟨pe_int⟩ (qa_c ⟨pe_int⟩ (qa_c ⟨pe_int⟩ (qa_c ⟨pe_int⟩ (qa_c ⟨pe_int⟩ qa_nil))))))) ⟨(pe_cal C_pick hr (by decide) rfl (pa_cons (pv 0) (pa_cons pe_int pa_nil)))⟩ (fun _ _=>rfl)))
    (qss_cons ⟨(ps_set (i:=5) scNames.nd rfl (Or.inl rfl) (pe_op op_add pe_int (pe_cal C_pick hr (by decide) rfl (pa_cons (pv 0) (pa_cons pe_int pa_nil)))))⟩
    (qss_cons ⟨(ps_set (i:=6) scNames.nd rfl (Or.inl rfl) (pe_ix ix_str (pv 2) (pe_cal C_pick hr (by decide) rfl (pa_cons (pv 0) (pa_cons pe_int pa_nil))) (fun _ _=>rfl)))⟩
    (qss_cons ⟨(ps_set (i:=7) scNames.nd rfl (Or.inl rfl) (pe_lst pa_nil))⟩
    (qss_cons ⟨(ps_for PassesOwn.never rfl (pi_range1 rfl m_range (pa_cons (pv 1) pa_nil)) (pg_name (i:=8) scNames.nd rfl (Or.inl rfl))
      (pss_cons (ps_set (i:=9) scNames.nd rfl (Or.inl rfl) (pe_ix ix_str (pv 2) (pe_op op_mod (pe_op op_add (pv 3) (pe_op op_mul (pv 4) (pv 8))) pe_int) (fun _ _=>rfl)))
    (pss_one (ps_expr (pe_bm PySem.F.plainAttrs_list PySem.F.slot_list_append PySem.F.type_list_append mt_append (pv 7) (pa_cons (pe_op op_add_str (pv 9) (pe_op op_mulS (pv 6) (pe_op op_mod (pe_op op_add (pe_op op_mul (pv 8) (pv 8)) (pv 3)) (pv 5)))) pa_nil))))))⟩
    (qss_one ⟨(ps_ret (pv 7))⟩)))))))),?_⟩
  refine gN ⟨_,rfl,b,lb,26,rfl,hp,by decide,by decide,fun r1 H1 p1 o1 a1 b1=>⟨_,rfl,b,lb,3,rfl,p1,by decide,by decide,fun r2 H2 p2 o2 a2 b2=>⟨_,_,rfl,rfl,.inr ⟨_,rfl,_,_,rfl,rfl,.inl ⟨by omega,by omega⟩,gN ?_⟩⟩⟩⟩
  obtain ⟨f,hf,f0,f1⟩:∃ f:Int,r1 * (if decide ((0:Int) < r2)=true then 1 else 0)=f∧0≤f∧f < 26:=by
    refine ⟨_,rfl,?_⟩
    split <;> omega
  have hp2:=o1.trans o2
  refine ⟨smn 6,fun l3 hl3=>?_⟩
  have s3:=same_new hl3 (.lst ([1,3,5,7,9,11].map V.int))
  have e3:(upd H2 l3 (.lst ([1,3,5,7,9,11].map V.int))) l3=some (.lst ([1,3,5,7,9,11].map V.int)):=upd_same
  have q3:=p2.same s3
  have n3:=p2.ne hl3
  refine ⟨_,rfl,b,lb,6,rfl,q3,by decide,by decide,fun r4 H4 p4 o4 a4 b4=>?_⟩
  obtain ⟨st,hst,hsm⟩:=pick_of (xs:=[1,3,5,7,9,11]) rfl a4 b4
  simp only [List.mem_cons,List.not_mem_nil,or_false] at hsm
  refine ⟨l3,_,_,_,rfl,rfl,SqL.of (o4 _ _ e3 n3.1 n3.2),hst,gN ?_⟩
  have o04:=(hp2.trans (.of s3)).trans o4
  clear e3 s3 q3 n3 hst hl3
  refine ⟨_,rfl,b,lb,4,rfl,p4,by decide,by decide,fun r5 H5 p5 o5 a5 b5=>⟨_,_,rfl,rfl,gN ?_⟩⟩
  refine ⟨_,rfl,_,rfl,b,lb,26,rfl,p5,by decide,by decide,fun r6 H6 p6 o6 a6 b6=>⟨_,_,_,rfl,rfl,small (by decide +kernel),lt_I a6 b6,gN ?_⟩⟩
  have o06:=(o04.trans o5).trans o6
  generalize 97+r6.toNat=c
  refine ⟨smn 0,fun l7 hl7=>gN ?_⟩
  have s7:=same_new hl7 (.lst [])
  have n7:=p6.ne hl7
  have h7:=o06.none p6 hl7
  refine ⟨_,rfl,_,rfl,by omega,by omega,?_⟩
  obtain ⟨mo,hmo⟩:∃ mo:Int,1+r5=mo:=⟨_,rfl⟩
  refine for_range (lo:=0) (n:=n) (fun j σ H8=>∃ (v8 v9:Option V),σ=[some (.ref b),some (.int (n:Nat)),some (.str "abcdefghijklmnopqrstuvwxyz"),some (.int f),some (.int st),some (.int mo),some (.str ⟨#[c]⟩),some (.ref l7),v8,v9]∧H8 l7=some (.lst (((List.range j).map (nmAt f st mo c)).map mkT))∧DrAt b lb H8∧Old b lb H H8) ⟨none,none,by subst hf hmo; rfl,upd_same,p6.same s7,o06.trans (.of s7)⟩ ?_ ?_
  · rintro j σ H8 hj ⟨v8,v9,rfl,e8,p8,o8⟩
    have ej:(0:Int)+(j:Nat)=(j:Nat):=by omega
    rw [ej]
    refine gN ⟨_,rfl,_,rfl,_,rfl,_,rfl,_,_,rfl,rfl,.inr ⟨by omega,by omega⟩,_,_,rfl,rfl,_,_,rfl,rfl,by show (0:Int) < 26; decide,_,_,_,rfl,rfl,small (by decide +kernel),lt_I (Int.emod_nonneg _ (by decide)) (Int.emod_lt_of_pos _ (by decide)),gN ?_⟩
    have hk0:=Int.emod_nonneg ((j:Int) * j+f) (show mo≠0 by omega)
    have hk1:=Int.emod_lt_of_pos ((j:Int) * j+f) (show 0 < mo by omega)
    obtain ⟨kk,hkk⟩:=Int.eq_ofNat_of_zero_le hk0
    refine ⟨_,rfl,.inl ⟨rfl,_,SqL.of e8⟩,_,rfl,_,rfl,_,rfl,_,rfl,_,_,rfl,rfl,.inl ⟨by omega,by omega⟩,_,rfl,_,_,rfl,rfl,_,rfl,_,_,rfl,rfl,by show 0 < mo; omega,?_⟩
    refine ⟨[c],kk,rfl,congrArg V.int hkk,by omega,by rw [List.length_singleton]; omega,_,_,rfl,rfl,?_,?_⟩
    · rw [flat_one]
      show 1+(List.replicate kk c).toArray.size≤sizeLine
      rw [List.size_toArray,List.length_replicate]
      exact small (by omega)
    rw [flat_one]
    refine ⟨l7,_,_,rfl,rfl,e8,small1000 (by rw [List.length_map,List.length_map,List.length_range]; omega),?_⟩
    refine ⟨_,_,rfl,?_,p8.upd n7.1 n7.2,o8.free h7⟩
    rw [upd_same,List.range_succ,List.map_append,List.map_append]
    congr 3
    show [V.str ((⟨#[97+((f+st * (j:Int)) % 26).toNat]⟩:Str)++⟨(List.replicate kk c).toArray⟩)]=[mkT (nmAt f st mo c j)]
    unfold nmAt
    rw [hkk,Int.toNat_natCast,cons_cat]
  · rintro σ H8 ⟨v8,v9,rfl,e8,p8,o8⟩
    exact ⟨_,rfl,k l7 _ H8 e8 (by rw [List.length_map,List.length_range]) (nm_nodup hsm hn) (fun x hx=>by
      obtain ⟨j,_,rfl⟩:=List.mem_map.mp hx
      exact nm_len (by omega) (by omega) j) h7 p8 o8⟩
theorem scMoments:FnScope ["_law_draws_here", "_law_least", "_law_moments_here", "_law_k", "_law_after"] ["_law_draws_here", "_law_least"] (defScope sMoments):=⟨rfl,rfl,rfl,by decide +kernel,rfl,by decide +kernel,by decide +kernel⟩
theorem c_moments (h:Has K mg "_law_moments" sMoments ["_law_draws_here", "_law_least"]) (C_pick:Cal P w K mg base "_law_pick" 1 ["_law_draws_here", "_law_many"] spPick) (m_range:mg "range" = none) (m_int:mg "int" = none) (m_sum:mg "sum" = none) (m_tuple:mg "tuple" = none):Cal P w K mg base "_law_moments" 2 ["_law_draws_here", "_law_least"] spMoments:=by
  refine h.mk' scMoments (fun vs H Q E hs=>?_) (fun f cdv A outer s H vs Q E hr hs=>?_)
  · obtain ⟨b,lb,n,rfl,_⟩:=hs
    rfl
  obtain ⟨b,lb,n,rfl,hp,hn,k⟩:=hs
  refine ⟨_,(pss_cons (ps_set (i:=2) scMoments.nd rfl (Or.inl rfl) (pe_lst pa_nil))
    (pss_cons (ps_for PassesOwn.never rfl (pi_range1 rfl m_range (pa_cons (pe_op op_add (pv 1) (pe_cal C_pick hr (by decide) rfl (pa_cons (pv 0) (pa_cons pe_int pa_nil)))) pa_nil)) (pg_name (i:=3) scMoments.nd rfl (Or.inl rfl))
      (pss_cons (ps_set (i:=4) scMoments.nd rfl (Or.inl rfl) (pe_op op_add pe_int (pe_cal C_pick hr (by decide) rfl (pa_cons (pv 0) (pa_cons pe_int pa_nil)))))
    (pss_cons (ps_if (pt_cmpR op_eq (pv 3) pe_int (nomark _))
      (pss_one (ps_set (i:=4) scMoments.nd rfl (Or.inl rfl) (pe_op op_add (pe_cal C_pick hr (by decide) rfl (pa_cons (pv 0) (pa_cons pe_int pa_nil))) (pe_op op_mul (pe_op op_pow pe_int pe_int) (pe_callTy call_int1 rfl m_int boot_int (pa_cons (pe_cmpR op_eq (pe_cal C_pick hr (by decide) rfl (pa_cons (pv 0) (pa_cons pe_int pa_nil))) pe_int (nomark _)) pa_nil))))))
      pss_nil)
    (pss_one (ps_expr (pe_bm PySem.F.plainAttrs_list PySem.F.slot_list_append PySem.F.type_list_append mt_append (pv 2) (pa_cons (pe_op op_add (pe_callB (call_sumE rfl) rfl m_sum boot_sum (pa_cons (pe_slice sl_list (pv 2) (po_some (pe_un un_neg pe_int)) po_none) pa_nil)) (pv 4)) pa_nil)))))))
    (pss_one (ps_ret (pe_callTy call_tuple_of rfl m_tuple boot_tuple (pa_cons (pv 2) pa_nil)))))),?_⟩
  refine ⟨smn 0,fun l1 hl1=>gN ?_⟩
  have s1:=same_new hl1 (.lst [])
  have n1:=hp.ne hl1
  have e1:(upd H l1 (.lst [])) l1=some (.lst (([]:List Int).map V.int)):=upd_same
  have p1:=hp.same s1
  generalize upd H l1 (.lst [])=H1 at s1 e1 p1 ⊢
  refine ⟨_,rfl,_,rfl,b,lb,3,rfl,p1,by decide,by decide,fun r2 H2 p2 o2 a2 b2=>⟨_,_,rfl,rfl,_,rfl,by show -(2:Int) ^ 62≤(n:Int)+r2; omega,by show (n:Int)+r2 < (2:Int) ^ 62; omega,?_⟩⟩
  obtain ⟨m,em,hm⟩:∃ m:Nat,(n:Int)+r2=(m:Int)∧m≤4:=⟨((n:Int)+r2).toNat,by omega,by omega⟩
  rw [show ((n:Int)+r2).toNat=m by omega]
  refine for_range (lo:=0) (n:=m) (fun j σ H3=>∃ (v3 v4:Option V) (ms:List Int),σ=[some (.ref b),some (.int (n:Nat)),some (.ref l1),v3,v4]∧DrAt b lb H3∧Old b lb H H3∧H3 l1=some (.lst (ms.map V.int))∧ms.length=j) ⟨_,_,[],rfl,p2,(Old.of s1).trans o2,o2 _ _ e1 n1.1 n1.2,rfl⟩ ?_ ?_
  · rintro j σ H3 hj ⟨v3,v4,ms,rfl,p3,o3,e3,hml⟩
    refine gN ⟨_,rfl,b,lb,6,rfl,p3,by decide,by decide,fun r4 H4 p4 o4 a4 b4=>⟨_,_,rfl,rfl,gN ?_⟩⟩
    have e4:=o4 _ _ e3 n1.1 n1.2
    have o04:=o3.trans o4
    refine ⟨_,rfl,rfl,_,rfl,?_⟩
    refine ite2 (fun z=>?ta) (fun z=>?tb)
    case' ta =>
      refine ⟨_,rfl,b,lb,9,rfl,p4,by decide,by decide,fun r5 H5 p5 o5 a5 b5=>⟨_,_,rfl,rfl,⟨by decide,by decide,by decide⟩,_,rfl,b,lb,12,rfl,p5,by decide,by decide,fun r6 H6 p6 o6 a6 b6=>⟨rfl,.inr ⟨_,rfl,_,_,rfl,rfl,.inl ⟨by decide,by decide⟩,_,_,rfl,rfl,gN ?_⟩⟩⟩⟩
      have e7:=o6 _ _ (o5 _ _ e4 n1.1 n1.2) n1.1 n1.2
      have p7:=p6
      have o7:=(o04.trans o5).trans o6
      generalize H6=H7 at e7 p7 o7 ⊢
      obtain ⟨aft,haft⟩:∃ a:Int,a=r5+10 ^ (11:Int).toNat * (if decide (V.int r6=V.int 11)=true then 1 else 0):=⟨_,rfl⟩
    case' tb =>
      have e7:=e4
      have p7:=p4
      have o7:=o04
      generalize H4=H7 at e7 p7 o7 ⊢
      obtain ⟨aft,haft⟩:∃ a:Int,a=1+r4:=⟨_,rfl⟩
    all_goals
      obtain ⟨m2,em2,hm2⟩:=cutV_ints ms (some (-1)) none
      refine ⟨_,rfl,.inl ⟨rfl,_,SqL.of e7⟩,_,rfl,_,rfl,_,rfl,l1,_,rfl,SqL.of e7,fun lx hlx=>?_⟩
      have s8:=same_new hlx (.lst (cutV (ms.map V.int) (some (-1)) none))
      have e8:(upd H7 lx (.lst (cutV (ms.map V.int) (some (-1)) none))) lx=some (.lst (m2.map V.int)):=by rw [upd_same,em2]
      generalize upd H7 lx (.lst (cutV (ms.map V.int) (some (-1)) none))=H8 at s8 e8 ⊢
      have e9:=s8 _ _ e7
      refine ⟨lx,m2,rfl,SqL.of e8,_,rfl,_,_,rfl,rfl,l1,_,_,rfl,rfl,e9,small1000 (by rw [List.length_map]; omega),_,_,ms++[m2.sum+aft],rfl,(p7.same s8).upd n1.1 n1.2,(o7.trans (.of s8)).free hl1,?_,by rw [List.length_append,List.length_singleton,hml]⟩
      rw [upd_same,List.map_append,haft]
      rfl
  · rintro σ H3 ⟨v3,v4,ms,rfl,p3,o3,e3,hml⟩
    refine ⟨_,rfl,l1,_,rfl,.inl ⟨SqL.of e3,fun q hq=>?_⟩⟩
    have s4:=same_new hq (.tup (ms.map V.int))
    exact k q ms _ upd_same (by omega) (p3.same s4) (o3.trans (.of s4))
end
structure WOk (w:List Nat):Prop where
  ne:w≠[]
  l:w.length≤8
  c:∀ c∈w,M01.isW c=true∧lo1 c=c
structure VOk (w v:List Nat):Prop where
  ne:v≠[]
  l:v.length≤8
  c:∀ c∈v,M01.isW c=true
  e:v.map lo1=w
theorem lo_map {w:List Nat} (h:∀ c∈w,lo1 c=c):w.map lo1=w:=by
  induction w with
  | nil=>rfl
  | cons a w ih=>rw [List.map_cons,h a (.head _),ih fun c hc=>h c (.tail _ hc)]
theorem WOk.v {w:List Nat} (h:WOk w):VOk w w:=⟨h.ne,h.l,fun c hc=>(h.c c hc).1,lo_map fun c hc=>(h.c c hc).2⟩
theorem up_ok:∀ c:Nat,c < 128→M01.isW c=true→lo1 c=c→M01.isW (up1 c)=true∧lo1 (up1 c)=c:=by decide +kernel
theorem WOk.lt {w:List Nat} (h:WOk w):∀ c∈w,c < 128:=fun c hc=>M01.isW_lt (h.c c hc).1
theorem up_map {w:List Nat} (h:∀ c∈w,M01.isW c=true∧lo1 c=c):(w.map up1).map lo1=w:=by
  induction w with
  | nil=>rfl
  | cons a w ih =>
    have:=h a (.head _)
    rw [List.map_cons,List.map_cons,(up_ok a (M01.isW_lt this.1) this.1 this.2).2,ih fun c hc=>h c (.tail _ hc)]
theorem up_isW {w:List Nat} (h:∀ c∈w,M01.isW c=true∧lo1 c=c):∀ c∈w.map up1,M01.isW c=true:=fun c hc=>by
  obtain ⟨d,hd,rfl⟩:=List.mem_map.mp hc
  have:=h d hd
  exact (up_ok d (M01.isW_lt this.1) this.1 this.2).1
theorem WOk.up {w:List Nat} (h:WOk w):VOk w (w.map up1):=⟨fun z=>h.ne (List.map_eq_nil_iff.mp z),by rw [List.length_map]; exact h.l,up_isW h.c,up_map h.c⟩
theorem WOk.cap {w:List Nat} (h:WOk w):VOk w ((w.take 1).map up1++w.drop 1):=by
  have e:w.take 1++w.drop 1=w:=List.take_append_drop 1 w
  have ht:∀ c∈w.take 1,M01.isW c=true∧lo1 c=c:=fun c hc=>h.c c (List.mem_of_mem_take hc)
  have hd:∀ c∈w.drop 1,M01.isW c=true∧lo1 c=c:=fun c hc=>h.c c (List.mem_of_mem_drop hc)
  refine ⟨fun z=>h.ne ?_,?_,fun c hc=>?_,?_⟩
  · obtain ⟨z1,z2⟩:=List.append_eq_nil_iff.mp z
    rw [← e,z2,List.map_eq_nil_iff.mp z1]
    rfl
  · have:=h.l
    rw [List.length_append,List.length_map,← List.length_append,e]
    exact this
  · rcases List.mem_append.mp hc with z | z
    · exact up_isW ht c z
    · exact (hd c z).1
  · rw [List.map_append,up_map ht,lo_map fun c hc=>(hd c hc).2,e]
section
open M01
theorem scn_app (l:List Nat):∀ v:List Nat,(∀ c∈v,isW c=true)→∀ ws q,scn l=(ws,q)→scn (l++v)=(ws,q++v):=by
  intro v
  induction v generalizing l with
  | nil=>intro _ ws q h; rw [List.append_nil,List.append_nil]; exact h
  | cons c v ih =>
    intro hv ws q h
    rw [List.append_cons]
    have:=ih (l++[c]) (fun d hd=>hv d (.tail _ hd)) ws (q++[c]) (by rw [scn_snoc,h]; unfold M01.stp; rw [if_pos (hv c (.head _))])
    rw [this,List.append_assoc]
    rfl
theorem scn_sep0 (l:List Nat):∀ v:List Nat,(∀ c∈v,isW c=false)→∀ ws,scn l=(ws,[])→scn (l++v)=(ws,[]):=by
  intro v
  induction v generalizing l with
  | nil=>intro _ ws h; rw [List.append_nil]; exact h
  | cons c v ih =>
    intro hv ws h
    rw [List.append_cons]
    refine ih (l++[c]) (fun d hd=>hv d (.tail _ hd)) ws ?_
    rw [scn_snoc,h]
    unfold M01.stp
    rw [if_neg (by rw [hv c (.head _)]; decide),if_pos rfl]
theorem scn_word {l v sp:List Nat} {ws:List (List Nat)} (h:scn l=(ws,[])) (hv:v≠[]) (hw:∀ c∈v,isW c=true) (hs:sp≠[]) (hn:∀ c∈sp,isW c=false):scn (l++v++sp)=(ws++[v],[]):=by
  have h1:=scn_app l v hw ws [] h
  rw [List.nil_append] at h1
  match sp,hs,hn with
  | c :: sp,_,hn =>
    rw [List.append_cons]
    refine scn_sep0 _ sp (fun d hd=>hn d (.tail _ hd)) _ ?_
    rw [scn_snoc,h1]
    unfold M01.stp
    rw [if_neg (by rw [hn c (.head _)]; decide),if_neg hv]
end
structure TxAt (tx:List Nat) (so:Nms) (n:Nat):Prop where
  ex:∃ ws:List (List Nat),M01.scn tx=(ws,[])∧ws.map (·.map lo1)=so
  l:tx.length≤2+10 * n
theorem TxAt.word {tx v w sp:List Nat} {so:Nms} {n:Nat} (h:TxAt tx so n) (hv:VOk w v) (hs:sp≠[]) (hn:∀ c∈sp,M01.isW c=false) (h2:sp.length≤2):TxAt (tx++v++sp) (so++[w]) (n+1):=by
  obtain ⟨ws,e1,e2⟩:=h.ex
  refine ⟨⟨ws++[v],scn_word e1 hv.ne hv.c hs hn,?_⟩,?_⟩
  · rw [List.map_append,e2]
    show so++[v.map lo1]=_
    rw [hv.e]
  · have:=h.l
    have:=hv.l
    rw [List.length_append,List.length_append]
    omega
theorem TxAt.cores {tx:List Nat} {so:Nms} {n:Nat} (h:TxAt tx so n):coresL [sOf tx]=so.map sOf:=by
  obtain ⟨ws,e1,e2⟩:=h.ex
  unfold coresL
  rw [List.flatMap_cons,List.flatMap_nil,List.append_nil]
  have e:(sOf tx).cps.toList=tx:=by simp
  rw [e]
  unfold M01.wds M01.fn
  rw [e1]
  simp only [if_true]
  rw [← e2,List.map_map]
  rfl
def spText:Sp:=fun vs H Q _=>∃ (b lb lw:Addr) (wo:Nms),vs=[.ref b,.ref lw]∧DrAt b lb H∧H lw=some (.lst (wo.map mkT))∧lw≠b∧lw≠lb∧(∀ x∈wo,WOk x)∧0 < wo.length∧wo.length≤100 ∧
  ∀ (q l:Addr) (tx:List Nat) (so:Nms) (H':Hp),H' q=some (.tup [mkT tx,.ref l])→H' l=some (.lst (so.map mkT))→H l=none→TxAt tx so 4→so.length≤4→DrAt b lb H'→Old b lb H H'→Q (.ref q) H'
def pres:Nms:=[[],[32],[45,32]]
def seps:Nms:=[[32],[44,32],[95],[10],[46,32]]
theorem pres_v:[V.str "",.str " ",.str "- "]=pres.map mkT:=by decide +kernel
theorem seps_v:[V.str " ",.str ", ",.str "_",.str "\n",.str ". "]=seps.map mkT:=by decide +kernel
theorem pres_ok:∀ x∈pres,M01.scn x=([],[])∧x.length≤2:=by decide +kernel
theorem seps_ok:∀ x∈seps,x≠[]∧(∀ c∈x,M01.isW c=false)∧x.length≤2:=by decide +kernel
theorem pick_nm {xs:Nms} {r:Int} {n:Nat} (hn:xs.length=n) (h0:0≤r) (h1:r < n):∃ x:List Nat,atI (xs.map mkT) r=some (mkT x)∧x∈xs:=by
  obtain ⟨v,hv,hm⟩:=atI_lt (xs:=xs.map mkT) h0 (by rw [List.length_map,hn]; exact h1)
  obtain ⟨st,h,rfl⟩:=List.mem_map.mp hm
  exact ⟨st,hv,h⟩
theorem cat_T (a b:List Nat):(⟨a.toArray⟩:Str)++(⟨b.toArray⟩:Str)=⟨(a++b).toArray⟩:=by
  show Str.mk (a.toArray++b.toArray)=_
  simp
theorem len_T (a:List Nat):(⟨a.toArray⟩:Str).length=a.length:=by simp [Str.length]
section
variable {P:Program} {w:World} {K:PySem.W.Frag} {mg:Str→Option Value} {base:Heap}
theorem scText:FnScope ["_law_draws_here", "_law_words", "_law_some", "_law_text_here", "_law_one"] ["_law_draws_here", "_law_words"] (defScope sText):=⟨rfl,rfl,rfl,by decide +kernel,rfl,by decide +kernel,by decide +kernel⟩
theorem c_text (h:Has K mg "_law_text" sText ["_law_draws_here", "_law_words"]) (C_pick:Cal P w K mg base "_law_pick" 1 ["_law_draws_here", "_law_many"] spPick) (m_range:mg "range" = none) (m_len:mg "len" = none):Cal P w K mg base "_law_text" 2 ["_law_draws_here", "_law_words"] spText:=by
  refine h.mk' scText (fun vs H Q E hs=>?_) (fun f cdv A outer s H vs Q E hr hs=>?_)
  · obtain ⟨b,lb,lw,wo,rfl,_⟩:=hs
    rfl
  obtain ⟨b,lb,lw,wo,rfl,hp,hw,nwb,nwl,hwo,hw0,hw1,k⟩:=hs
  refine qex ⟨_,(qss_cons ⟨(ps_setC (ix:=2) scText.nd rfl rfl ["_law_draws_here", "_law_words", "_law_some", "_law_text_here", "_law_one"] (defScope sText) ["_law_draws_here", "_law_words", "_law_k"] [some 0,some 1,none] rfl rfl rfl (pi_range1 rfl m_range (pa_cons (pe_cal C_pick hr (by decide) rfl (pa_cons (pv 0) (pa_cons pe_int pa_nil))) pa_nil)) rfl (by decide +kernel) (by decide +kernel) (by decide +kernel) (by decide +kernel) (hg:=fun cl C s H ex pn E=>(pg_name (i:=2) (by decide +kernel:(["_law_draws_here", "_law_words", "_law_k"]:List Str).Nodup) rfl (Or.inl rfl))) (ht:=fun cl C s H ex pn E=>pifs_nil) (he:=fun cl C s H ex pn E=>(pe_ix (ix_listK (K:=K) rfl) (pv 1) (pe_cal C_pick hr (by decide) rfl (pa_cons (pv 0) (pa_cons (pe_callB (call_len_seqK (K:=K) rfl) rfl m_len PySem.boot_len (pa_cons (pv 1) pa_nil)) pa_nil))) (fun _ _=>rfl))))⟩
    (qss_cons ⟨(ps_set (i:=3) scText.nd rfl (Or.inl rfl) (pe_ix ix_list (pe_lst (pa_cons pe_str (pa_cons pe_str (pa_cons pe_str pa_nil)))) (pe_cal C_pick hr (by decide) rfl (pa_cons (pv 0) (pa_cons pe_int pa_nil))) (fun _ _=>rfl)))⟩
    (qss_cons (qs_for PassesOwn.never rfl (qi_list ⟨(pv 2)⟩) (pg_name (i:=4) scText.nd rfl (Or.inl rfl))
      (qss_cons (qs_set (i:=3) scText.nd rfl (Or.inl rfl) (qe_op op_add_str ⟨(pv 3)⟩ (qe_ix ix_list (qe_lst (qa_c ⟨(pv 4)⟩ (qa_c ⟨(pv 4)⟩ (qa_c ⟨(pe_bm0 PySem.F.plainAttrs_str PySem.F.slot_str_upper PySem.F.type_str_upper mt_upper (pv 4))⟩ (qa_c ⟨(pe_op op_add_str (pe_bm0 PySem.F.plainAttrs_str PySem.F.slot_str_upper PySem.F.type_str_upper mt_upper (pe_slice sl_str (pv 4) po_none (po_some pe_int))) (pe_slice sl_str (pv 4) (po_some pe_int) po_none))⟩ qa_nil))))) ⟨(pe_cal C_pick hr (by decide) rfl (pa_cons (pv 0) (pa_cons pe_int pa_nil)))⟩ (fun _ _=>rfl))))
    (qss_one (qs_set (i:=3) scText.nd rfl (Or.inl rfl) (qe_op op_add_str ⟨(pv 3)⟩ (qe_ix ix_list (qe_lst (qa_c ⟨pe_str⟩ (qa_c ⟨pe_str⟩ (qa_c ⟨pe_str⟩ (qa_c ⟨pe_str⟩ (qa_c ⟨pe_str⟩ qa_nil)))))) ⟨(pe_cal C_pick hr (by decide) rfl (pa_cons (pv 0) (pa_cons pe_int pa_nil)))⟩ (fun _ _=>rfl)))))))
    (qss_one ⟨(ps_ret (pe_tup (pa_cons (pv 3) (pa_cons (pv 2) pa_nil))))⟩)))),?_⟩
  refine ⟨_,rfl,b,lb,5,rfl,hp,by decide,by decide,fun r1 H1 p1 o1 a1 b1=>⟨_,rfl,by omega,by omega,fun lc hlc=>?_⟩⟩
  have nc:=p1.ne hlc
  have hcH:=o1.none p1 hlc
  have hw1':=o1 _ _ hw nwb nwl
  have s1:=same_new hlc (.lst [])
  refine comp_by (J:=Itr 0 r1.toNat) (l:=lc) r1.toNat (fun i σ' H'=>∃ (v:Option V) (so:Nms),σ'=[some (.ref b),some (.ref lw),v]∧DrAt b lb H'∧Old b lb H H'∧H' lc=some (.lst (so.map mkT))∧so.length=i∧∀ x∈so,WOk x) ⟨none,[],rfl,p1.same s1,o1.trans (.of s1),upd_same,rfl,fun x hx=>nomatch hx⟩ ?_ ?_
  · rintro σ' H2 ⟨v,so,rfl,p2,o2,e2,hso,hok⟩
    refine ⟨Nat.le_refl _,gN ?_⟩
    have hso4:so.length≤4:=by omega
    clear hso s1 hw1' p1 o1 hlc
    refine ⟨smn 3,fun l3 hl3=>?_⟩
    have s3:=same_new hl3 (.lst [.str "",.str " ",.str "- "])
    have e3:(upd H2 l3 (.lst [.str "",.str " ",.str "- "])) l3=some (.lst (pres.map mkT)):=by rw [upd_same,pres_v]
    have n3:=p2.ne hl3
    have p3:=p2.same s3
    have o3:=o2.trans (.of s3)
    have e3c:=s3 _ _ e2
    generalize upd H2 l3 (.lst [.str "",.str " ",.str "- "])=H3 at s3 e3 p3 o3 e3c ⊢
    refine ⟨_,rfl,b,lb,3,rfl,p3,by decide,by decide,fun r4 H4 p4 o4 a4 b4=>?_⟩
    obtain ⟨tx,htx,hmx⟩:=pick_nm (xs:=pres) rfl a4 b4
    obtain ⟨x1,x2⟩:=pres_ok tx hmx
    refine ⟨l3,_,_,_,rfl,rfl,SqL.of (o4 _ _ e3 n3.1 n3.2),htx,gN ?_⟩
    have o04:=o3.trans o4
    have e4:=o4 _ _ e3c nc.1 nc.2
    clear e3 n3 s3 htx hmx p3 o3 e3c hl3
    refine ⟨_,rfl,lc,rfl,⟨_,SqL.of e4⟩,?_⟩
    refine for_list (K:=K) (a:=lc) (xs:=so.map mkT) (fun i σ H5=>∃ (v4:Option V) (tx:List Nat),σ=[some (.ref b),some (.ref lw),some (.ref lc),some (mkT tx),v4]∧DrAt b lb H5∧Old b lb H H5∧H5 lc=some (.lst (so.map mkT))∧TxAt tx (so.take i) i) ⟨_,tx,rfl,p4,o04,e4,⟨[],x1,rfl⟩,by omega⟩ ?_ ?_ ?_
    · rintro i σ H5 _ ⟨_,_,_,_,_,e5,_⟩
      exact SqL.of e5
    · rintro i y σ H5 hi ⟨v4,tx,rfl,p5,o5,e5,ht⟩
      have hin:i < so.length:=by
        have:=(List.getElem?_eq_some_iff.mp hi).1
        rwa [List.length_map] at this
      rw [at_T hin] at hi
      have ey:mkT so[i]=y:=Option.some.inj hi
      subst ey
      have hwk:=hok _ (List.getElem_mem hin)
      have htk:=take_one (ex_at hin)
      generalize so[i]=wd at hwk htk
      have hwl:=hwk.l
      have hlt:=hwk.lt
      have hsz:(⟨wd.toArray⟩:Str).length≤sizeLine:=by rw [len_T]; exact small (by omega)
      have htl:=ht.l
      have e1:Txt.slice (⟨wd.toArray⟩:Str) none (some 1)=⟨(wd.take 1).toArray⟩:=(SLi.upto ⟨wd.toArray⟩ 1).trans (by simp)
      have e2:Txt.slice (⟨wd.toArray⟩:Str) (some 1) none=⟨(wd.drop 1).toArray⟩:=(SLi.from_ ⟨wd.toArray⟩ 1).trans (by simp)
      have vs4:∃ vs:Nms,vs.length=4∧[mkT wd,mkT wd,mkT (wd.map up1),mkT ((wd.take 1).map up1++wd.drop 1)]=vs.map mkT∧∀ v∈vs,VOk wd v:=⟨[wd,wd,wd.map up1,(wd.take 1).map up1++wd.drop 1],rfl,rfl,fun v hv=>by
        simp only [List.mem_cons,List.not_mem_nil,or_false] at hv
        rcases hv with rfl | rfl | rfl | rfl
        · exact hwk.v
        · exact hwk.v
        · exact hwk.up
        · exact hwk.cap⟩
      obtain ⟨vs,hv4,evs,hvs⟩:=vs4
      refine gN ⟨_,rfl,_,rfl,_,rfl,_,rfl,rfl,wd,rfl,rfl,hlt,by omega,_,rfl,_,rfl,_,rfl,hsz,rfl,wd.take 1,congrArg V.str e1,rfl,fun c hc=>hlt c (List.mem_of_mem_take hc),by rw [List.length_take]; omega,_,rfl,_,rfl,_,rfl,hsz,?_⟩
      rw [e2]
      refine ⟨_,_,rfl,rfl,?_,?_⟩
      · rw [len_T,len_T,List.length_map,List.length_take,List.length_drop]
        exact small (by omega)
      rw [cat_T]
      refine ⟨smn 4,fun l6 hl6=>?_⟩
      rw [evs]
      have s6:=same_new hl6 (.lst (vs.map mkT))
      have e6:(upd H5 l6 (.lst (vs.map mkT))) l6=some (.lst (vs.map mkT)):=upd_same
      have n6:=p5.ne hl6
      have p6:=p5.same s6
      have o6:=o5.trans (.of s6)
      have e6c:=s6 _ _ e5
      generalize upd H5 l6 (.lst (vs.map mkT))=H6 at s6 e6 p6 o6 e6c ⊢
      refine ⟨_,rfl,b,lb,4,rfl,p6,by decide,by decide,fun r7 H7 p7 o7 a7 b7=>?_⟩
      obtain ⟨v,hv,hmv⟩:=pick_nm (xs:=vs) hv4 a7 b7
      have hvo:=hvs v hmv
      have hvl:=hvo.l
      refine ⟨l6,_,_,_,rfl,rfl,SqL.of (o7 _ _ e6 n6.1 n6.2),hv,_,_,rfl,rfl,by rw [len_T,len_T]; exact small (by omega),?_⟩
      rw [cat_T]
      have o07:=o6.trans o7
      have e7:=o7 _ _ e6c nc.1 nc.2
      clear s6 e6 n6 p6 o6 e6c hl6 hv hmv hvs evs e1 e2 hsz hlt
      refine gN ⟨_,rfl,smn 5,fun l8 hl8=>?_⟩
      have s8:=same_new hl8 (.lst [.str " ",.str ", ",.str "_",.str "\n",.str ". "])
      have e8:(upd H7 l8 (.lst [.str " ",.str ", ",.str "_",.str "\n",.str ". "])) l8=some (.lst (seps.map mkT)):=by rw [upd_same,seps_v]
      have n8:=p7.ne hl8
      have p8:=p7.same s8
      have o8:=o07.trans (.of s8)
      have e8c:=s8 _ _ e7
      generalize upd H7 l8 (.lst [.str " ",.str ", ",.str "_",.str "\n",.str ". "])=H8 at s8 e8 p8 o8 e8c ⊢
      refine ⟨_,rfl,b,lb,5,rfl,p8,by decide,by decide,fun r9 H9 p9 o9 a9 b9=>?_⟩
      obtain ⟨sp,hsp,hms⟩:=pick_nm (xs:=seps) rfl a9 b9
      obtain ⟨y1,y2,y3⟩:=seps_ok sp hms
      refine ⟨l8,_,_,_,rfl,rfl,SqL.of (o9 _ _ e8 n8.1 n8.2),hsp,_,_,rfl,rfl,by rw [len_T,len_T,List.length_append]; exact small (by omega),?_⟩
      rw [cat_T]
      refine gN ⟨_,_,rfl,p9,o8.trans o9,o9 _ _ e8c nc.1 nc.2,?_⟩
      rw [htk]
      exact ht.word hvo y1 y2 y3
    · rintro σ H5 ⟨v4,tx,rfl,p5,o5,e5,ht⟩
      rw [List.length_map,List.take_length] at ht
      refine ⟨_,rfl,_,rfl,smn 2,fun q hq=>?_⟩
      have s6:=same_new hq (.tup [mkT tx,.ref lc])
      exact k q lc tx so _ upd_same (s6 _ _ e5) hcH ⟨ht.ex,by have:=ht.l; omega⟩ hso4 (p5.same s6) (o5.trans (.of s6))
  · rintro i σ' H2 hi ⟨v,so,rfl,p2,o2,e2,hso,hok⟩
    refine ⟨hi,?_⟩
    rintro x H3 ⟨rfl,rfl⟩
    have hw2:=o2 _ _ hw nwb nwl
    refine gN (yesT (iteT ⟨_,rfl,_,rfl,_,rfl,lw,_,rfl,.inl (SqL.of hw2),b,lb,_,rfl,p2,by rw [List.length_map]; omega,by rw [List.length_map]; omega,fun r4 H4 p4 o4 a4 b4=>?_⟩))
    rw [List.length_map] at b4
    obtain ⟨wd,hwd,hmd⟩:=pick_nm (xs:=wo) rfl a4 b4
    refine ⟨lw,_,_,_,rfl,rfl,SqL.of (o4 _ _ hw2 nwb nwl),hwd,?_⟩
    refine ⟨_,o4 _ _ e2 nc.1 nc.2,small1000 (by rw [List.length_map]; omega),_,so++[wd],rfl,p4.upd nc.1 nc.2,(o2.trans o4).free hcH,?_,by rw [List.length_append,hso]; rfl,fun z hz=>?_⟩
    · rw [upd_same,List.map_append]
      rfl
    · rcases List.mem_append.mp hz with hz | hz
      · exact hok z hz
      · rw [List.mem_singleton.mp hz]
        exact hwo wd hmd
end
theorem shal_lnk {q:Lnk} (h1:q.1.length≤1000) (h2:q.2.1.length≤1000) (h3:q.2.2.2.1.length≤1000) (h4:q.2.2.2.2.length≤1000):Shal 3 (linkD q):=by
  refine shal_tup (by simp) fun d hd=>?_
  simp only [List.mem_cons,List.not_mem_nil,or_false] at hd
  rcases hd with rfl | rfl | rfl | rfl
  · exact (shal_names h1).up
  · exact (shal_names h2).up
  · exact (shal_int _).up.up
  · refine shal_tup (by simp) fun d hd=>?_
    simp only [List.mem_cons,List.not_mem_nil,or_false] at hd
    rcases hd with rfl | rfl
    · exact shal_mom h3
    · exact shal_mom h4
theorem cutV_T (xs:Nms) (lo hi:Option Int):∃ zs:Nms,cutV (xs.map mkT) lo hi=zs.map mkT∧zs.length≤xs.length∧∀ z∈zs,z∈xs:=by
  unfold cutV
  rw [← List.map_drop,← List.map_take]
  refine ⟨_,rfl,?_,fun z hz=>List.mem_of_mem_drop (List.mem_of_mem_take hz)⟩
  rw [List.length_take,List.length_drop]
  omega
structure LkOk (xs ys:Nms) (k:Lnk):Prop where
  a:k.1.length≤1+xs.length∧∀ x∈k.1,x∈xs
  b:k.2.1.length≤1+ys.length∧∀ x∈k.2.1,x∈ys
  c:k.2.2.2.1.length≤4∧k.2.2.2.2.length≤4
def spLinks:Sp:=fun vs H Q _=>∃ (b lb l0 l1:Addr) (xs ys:Nms),vs=[.ref b,.ref l0,.ref l1]∧DrAt b lb H∧H l0=some (.lst (xs.map mkT))∧H l1=some (.lst (ys.map mkT))∧l0≠b∧l0≠lb∧l1≠b∧l1≠lb∧xs.length≤12∧ys.length≤12 ∧
  ∀ (q:Addr) (ks:List Lnk) (H':Hp),Den H' (.ref q) (.tup (ks.map linkD))→ks.length≤8→(∀ k∈ks,LkOk xs ys k)→DrAt b lb H'→Old b lb H H'→Q (.ref q) H'
section
variable {P:Program} {w:World} {K:PySem.W.Frag} {mg:Str→Option Value} {base:Heap}
theorem grp_comp {lx lc:Addr} {H:Hp} {zs:Nms} {m k:Int} {T:TT} {R:Hp→Prop} (hx:H lx=some (.lst (zs.map mkT))) (hz:zs.length≤100) (hlc:H lc=none) (hT:∀ (j:Nat) (x:V) (H:Hp) (Q:Bool→Hp→Prop),(∀ b,Q b H)→T [some (.int m),some (.int k),some (.int (j:Nat)),some x] H Q)
    (hfin:∀ (H':Hp) (os:Nms),Same H H'→H' lc=some (.lst (os.map mkT))→os.length≤zs.length→(∀ x∈os,x∈zs)→R H') :
    ∃ W:Nat→Nat→L2.St→Hp→Prop,(∃ m',W 0 m' [some (.int m),some (.int k),none,none] (upd H lc (.lst [])))∧∀ i m' σ H,W i m' σ H →
      ((Ite K lx).stop i H∧R H)∨((Ite K lx).go i H∧∃ N:L2.St→Hp→Prop,(∀ σ' H',N σ' H'→∃ m'',m'' < m'∧W (i+1) m'' σ' H') ∧
        ∀ x H',(Ite K lx).yld i H x H'→gTup K 2 (gCons (gName 2) (gCons (gName 3) gNil)) x σ H' fun σ2 H2=>T σ2 H2 fun b H3=>if b=true then tVar 3 σ2 H3 fun v H4=>∃ ys,H4 lc=some (.lst ys)∧ys.length < sizeLine∧N σ2 (upd H4 lc (.lst (ys++[v]))) else N σ2 H3):=by
  refine comp_by (J:=Ite K lx) (l:=lc) zs.length (fun i σ' H'=>∃ (v2 v3:Option V) (os:Nms),σ'=[some (.int m),some (.int k),v2,v3]∧Same H H'∧H' lc=some (.lst (os.map mkT))∧os.length≤i∧∀ x∈os,x∈zs) ⟨none,none,[],rfl,same_new hlc _,upd_same,Nat.le_refl _,fun x hx=>nomatch hx⟩ ?_ ?_
  · rintro σ' H1 ⟨v2,v3,os,rfl,s1,e1,hl,ho⟩
    exact ⟨⟨_,SqL.of (s1 _ _ hx),by rw [List.length_map]; exact Nat.le_refl _⟩,hfin H1 os s1 e1 hl ho⟩
  · rintro i σ' H1 hi ⟨v2,v3,os,rfl,s1,e1,hl,ho⟩
    have h1:=s1 _ _ hx
    refine ⟨⟨_,_,SqL.of h1,at_T hi⟩,?_⟩
    rintro y H2 ⟨t,x,rfl,ht,rfl,hy⟩
    have ex:x=mkT zs[i]:=Option.some.inj ((hy _ (SqL.of h1)).symm.trans (at_T hi))
    subst ex
    have s2:=same_new ht (.tup [.int (i:Nat),mkT zs[i]])
    refine ⟨t,_,rfl,SqT.of upd_same,rfl,_,_,rfl,_,_,rfl,rfl,hT i _ _ _ fun b=>?_⟩
    refine ite2 (fun _=>?_) (fun _=>?_)
    · refine ⟨_,rfl,_,s2 _ _ e1,small1000 (by rw [List.length_map]; omega),_,_,os++[zs[i]],rfl,same_updN (s1.trans s2) hlc,?_,by rw [List.length_append,List.length_singleton]; omega,fun x hx=>?_⟩
      · rw [upd_same,List.map_append]
        rfl
      · rcases List.mem_append.mp hx with z | z
        · exact ho x z
        · rw [List.mem_singleton.mp z]
          exact List.getElem_mem hi
    · exact ⟨_,_,os,rfl,s1.trans s2,s2 _ _ e1,by omega,ho⟩
theorem scLinks:FnScope ["_law_draws_here", "_law_lefts", "_law_rights", "_law_many", "_law_links_here", "_law_k", "_law_ones", "_law_others", "_law_told", "_law_lost"] ["_law_draws_here", "_law_lefts", "_law_rights"] (defScope sLinks):=⟨rfl,rfl,rfl,by decide +kernel,rfl,by decide +kernel,by decide +kernel⟩
theorem c_links (h:Has K mg "_law_links" sLinks ["_law_draws_here", "_law_lefts", "_law_rights"]) (C_pick:Cal P w K mg base "_law_pick" 1 ["_law_draws_here", "_law_many"] spPick) (C_moments:Cal P w K mg base "_law_moments" 2 ["_law_draws_here", "_law_least"] spMoments) (m_min:mg "min" = none) (m_len:mg "len" = none) (m_range:mg "range" = none) (m_enumerate:mg "enumerate" = none) (m_int:mg "int" = none) (m_tuple:mg "tuple" = none) (m_sorted:mg "sorted" = none):Cal P w K mg base "_law_links" 3 ["_law_draws_here", "_law_lefts", "_law_rights"] spLinks:=by
  refine h.mk' scLinks (fun vs H Q E hs=>?_) (fun f cdv A outer s H vs Q E hr hs=>?_)
  · obtain ⟨b,lb,l0,l1,xs,ys,rfl,_⟩:=hs
    rfl
  obtain ⟨b,lb,l0,l1,xs,ys,rfl,hp,e0,e1,n0b,n0l,n1b,n1l,hx,hy,kk⟩:=hs
  refine ⟨_,(pss_cons (ps_set (i:=3) scLinks.nd rfl (Or.inr rfl) (pe_callB (call_min3 rfl) rfl m_min boot_min (pa_cons (pe_callB call_len_seq rfl m_len PySem.boot_len (pa_cons (pv 1) pa_nil)) (pa_cons (pe_callB call_len_seq rfl m_len PySem.boot_len (pa_cons (pv 2) pa_nil)) (pa_cons (pe_op op_add pe_int (pe_cal C_pick hr (by decide) rfl (pa_cons (pv 0) (pa_cons pe_int pa_nil)))) pa_nil)))))
    (pss_cons (ps_set (i:=4) scLinks.nd rfl (Or.inl rfl) (pe_lst pa_nil))
    (pss_cons (ps_for PassesOwn.never rfl (pi_range1 rfl m_range (pa_cons (pv 3) pa_nil)) (pg_name (i:=5) scLinks.nd rfl (Or.inr rfl))
      (pss_cons (ps_set (i:=6) scLinks.nd rfl (Or.inl rfl) (pe_op op_cat (pe_lst (pa_cons (pe_ix ix_list (pv 1) (pv 5) (fun _ _=>rfl)) pa_nil)) (pe_compL ["_law_draws_here", "_law_lefts", "_law_rights", "_law_many", "_law_links_here", "_law_k", "_law_ones", "_law_others", "_law_told", "_law_lost"] (defScope sLinks) ["_law_many", "_law_k", "_law_j", "_law_one"] [some 3,some 5,none,none] rfl rfl rfl (pi_enum rfl m_enumerate (pa_cons (pe_slice sl_list (pv 1) (po_some (pv 3)) po_none) pa_nil)) rfl (by decide +kernel) (by decide +kernel) (by decide +kernel) (by decide +kernel) (g:=gTup K 2 (gCons (gName 2) (gCons (gName 3) gNil))) (hg:=fun cl C s H ex pn E=>pg_tup (n:=2) rfl (pgs_cons (pg_name (i:=2) (by decide +kernel:(["_law_many", "_law_k", "_law_j", "_law_one"]:List Str).Nodup) rfl (Or.inl rfl) (Or.inr rfl)) (pgs_cons (pg_name (i:=3) (by decide +kernel:(["_law_many", "_law_k", "_law_j", "_law_one"]:List Str).Nodup) rfl (Or.inl rfl) (Or.inr rfl)) pgs_nil))) (ht:=fun cl C s H ex pn E=>(pifs_one (pt_cmpR op_eq (pe_op op_mod (pv 2) (pv 0)) (pv 1) (nomark _)))) (he:=fun cl C s H ex pn E=>(pv 3)))))
    (pss_cons (ps_set (i:=7) scLinks.nd rfl (Or.inl rfl) (pe_op op_cat (pe_lst (pa_cons (pe_ix ix_list (pv 2) (pv 5) (fun _ _=>rfl)) pa_nil)) (pe_compL ["_law_draws_here", "_law_lefts", "_law_rights", "_law_many", "_law_links_here", "_law_k", "_law_ones", "_law_others", "_law_told", "_law_lost"] (defScope sLinks) ["_law_many", "_law_k", "_law_j", "_law_one"] [some 3,some 5,none,none] rfl rfl rfl (pi_enum rfl m_enumerate (pa_cons (pe_slice sl_list (pv 2) (po_some (pv 3)) po_none) pa_nil)) rfl (by decide +kernel) (by decide +kernel) (by decide +kernel) (by decide +kernel) (g:=gTup K 2 (gCons (gName 2) (gCons (gName 3) gNil))) (hg:=fun cl C s H ex pn E=>pg_tup (n:=2) rfl (pgs_cons (pg_name (i:=2) (by decide +kernel:(["_law_many", "_law_k", "_law_j", "_law_one"]:List Str).Nodup) rfl (Or.inl rfl) (Or.inr rfl)) (pgs_cons (pg_name (i:=3) (by decide +kernel:(["_law_many", "_law_k", "_law_j", "_law_one"]:List Str).Nodup) rfl (Or.inl rfl) (Or.inr rfl)) pgs_nil))) (ht:=fun cl C s H ex pn E=>(pifs_one (pt_cmpR op_eq (pe_op op_mod (pe_op op_add (pv 2) pe_int) (pv 0)) (pv 1) (nomark _)))) (he:=fun cl C s H ex pn E=>(pv 3)))))
    (pss_cons (ps_set (i:=8) scLinks.nd rfl (Or.inl rfl) (pe_op op_add (pe_cal C_pick hr (by decide) rfl (pa_cons (pv 0) (pa_cons pe_int pa_nil))) (pe_op op_mul (pe_op op_pow pe_int pe_int) (pe_callTy call_int1 rfl m_int boot_int (pa_cons (pe_cmpR op_eq (pe_cal C_pick hr (by decide) rfl (pa_cons (pv 0) (pa_cons pe_int pa_nil))) pe_int (nomark _)) pa_nil)))))
    (pss_cons (ps_set (i:=9) scLinks.nd rfl (Or.inl rfl) (pe_tup (pa_cons (pe_cal C_moments hr (by decide) rfl (pa_cons (pv 0) (pa_cons pe_int pa_nil))) (pa_cons (pe_cal C_moments hr (by decide) rfl (pa_cons (pv 0) (pa_cons pe_int pa_nil))) pa_nil))))
    (pss_one (ps_expr (pe_bm PySem.F.plainAttrs_list PySem.F.slot_list_append PySem.F.type_list_append mt_append (pv 4) (pa_cons (pe_tup (pa_cons (pe_callTy call_tuple_of rfl m_tuple boot_tuple (pa_cons (pe_callB (call_sortedDB hr.units) rfl m_sorted boot_sorted (pa_cons (pv 6) pa_nil)) pa_nil)) (pa_cons (pe_callTy call_tuple_of rfl m_tuple boot_tuple (pa_cons (pe_callB (call_sortedDB hr.units) rfl m_sorted boot_sorted (pa_cons (pv 7) pa_nil)) pa_nil)) (pa_cons (pv 8) (pa_cons (pv 9) pa_nil))))) pa_nil)))))))))
    (pss_one (ps_ret (pe_callTy call_tuple_of rfl m_tuple boot_tuple (pa_cons (pe_callB (call_sortedDB hr.units) rfl m_sorted boot_sorted (pa_cons (pv 4) pa_nil)) pa_nil))))))),?_⟩
  refine ⟨_,rfl,l0,_,rfl,.inl (SqL.of e0),_,rfl,l1,_,rfl,.inl (SqL.of e1),_,rfl,b,lb,8,rfl,hp,by decide,by decide,fun r1 H1 p1 o1 a1 b1=>⟨_,_,rfl,rfl,_,_,_,rfl,gN ?_⟩⟩
  rw [List.length_map,List.length_map]
  obtain ⟨m,hm,hmx,hmy,hm8⟩:∃ m:Nat,min (min ((xs.length:Nat):Int) (ys.length:Nat)) (1+r1)=(m:Nat)∧m≤xs.length∧m≤ys.length∧m≤8:=⟨(min (min ((xs.length:Nat):Int) (ys.length:Nat)) (1+r1)).toNat,by omega,by omega,by omega,by omega⟩
  refine ⟨smn 0,fun l2 hl2=>gN ?_⟩
  have s2:=same_new hl2 (.lst [])
  have n2:=p1.ne hl2
  have h2:=o1.none p1 hl2
  refine ⟨_,rfl,_,congrArg (fun z=>[V.int z]) hm,by omega,by omega,?_⟩
  refine for_range (lo:=0) (n:=m) (fun j σ H3=>∃ (v5 v6 v7 v8 v9:Option V) (us:List V) (ks:List Lnk),σ=[some (.ref b),some (.ref l0),some (.ref l1),some (.int (m:Nat)),some (.ref l2),v5,v6,v7,v8,v9]∧DrAt b lb H3∧Old b lb H H3∧H3 l2=some (.lst us)∧DenL H3 us (ks.map linkD)∧ks.length=j∧∀ k∈ks,LkOk xs ys k) ⟨none,none,none,none,none,[],[],by rw [← hm]; rfl,p1.same s2,o1.trans (.of s2),upd_same,trivial,rfl,fun k hk=>nomatch hk⟩ ?_ ?_
  · rintro j σ H3 hj ⟨v5,v6,v7,v8,v9,us,ks,rfl,p3,o3,e3,d3,hkl,hks⟩
    rw [show (0:Int)+(j:Nat)=(j:Nat) by omega]
    have e30:=o3 _ _ e0 n0b n0l
    have e31:=o3 _ _ e1 n1b n1l
    have hjx:j < xs.length:=by omega
    have hjy:j < ys.length:=by omega
    obtain ⟨zx,ezx,lzx,mzx⟩:=cutV_T xs (some (m:Int)) none
    obtain ⟨zy,ezy,lzy,mzy⟩:=cutV_T ys (some (m:Int)) none
    refine gN ⟨_,rfl,_,rfl,l0,_,_,_,rfl,rfl,SqL.of e30,atI_nat (at_T hjx),smn 1,fun l4 hl4=>?_⟩
    have s4:=same_new hl4 (.lst [mkT xs[j]])
    have e4:(upd H3 l4 (.lst [mkT xs[j]])) l4=some (.lst ([xs[j]].map mkT)):=upd_same
    generalize upd H3 l4 (.lst [mkT xs[j]])=H4 at s4 e4 ⊢
    refine ⟨_,rfl,_,rfl,_,rfl,l0,_,rfl,SqL.of (s4 _ _ e30),fun l5 hl5=>?_⟩
    rw [ezx]
    have s5:=same_new hl5 (.lst (zx.map mkT))
    have e5:(upd H4 l5 (.lst (zx.map mkT))) l5=some (.lst (zx.map mkT)):=upd_same
    generalize upd H4 l5 (.lst (zx.map mkT))=H5 at s5 e5 ⊢
    refine ⟨l5,rfl,⟨_,SqL.of e5⟩,fun lc hlc=>?_⟩
    refine grp_comp (K:=K) e5 (by omega) hlc (fun i x H Q q=>⟨_,rfl,_,rfl,_,_,rfl,rfl,by omega,_,rfl,rfl,_,rfl,q _⟩) fun H6 os s6 e6 lo mo=>?_
    refine ⟨l4,lc,_,_,rfl,rfl,s6 _ _ (s5 _ _ e4),e6,small (by rw [List.length_map,List.length_map,List.length_singleton]; omega),fun l7 hl7=>gN ?_⟩
    have s7:=same_new hl7 (.lst ([xs[j]].map mkT++os.map mkT))
    have e7:(upd H6 l7 (.lst ([xs[j]].map mkT++os.map mkT))) l7=some (.lst ((xs[j] :: os).map mkT)):=upd_same
    have h7:=none_back ((s4.trans s5).trans s6) hl7
    have s37:=((s4.trans s5).trans s6).trans s7
    generalize upd H6 l7 (.lst ([xs[j]].map mkT++os.map mkT))=H7 at s7 e7 s37 ⊢
    have lA:(xs[j] :: os).length≤1+xs.length:=by rw [List.length_cons]; omega
    have mA:∀ x∈xs[j] :: os,x∈xs:=fun x hx=>by
      rcases List.mem_cons.mp hx with rfl | hx
      · exact List.getElem_mem hjx
      · exact mzx x (mo x hx)
    generalize xs[j] :: os=ones at e7 lA mA
    clear s4 e4 s5 e5 hlc e6 s6 lo mo hl4 hl5 s7 ezx mzx lzx
    refine ⟨_,rfl,_,rfl,l1,_,_,_,rfl,rfl,SqL.of (s37 _ _ e31),atI_nat (at_T hjy),smn 1,fun l4 hl4=>?_⟩
    have s4:=same_new hl4 (.lst [mkT ys[j]])
    have e4:(upd H7 l4 (.lst [mkT ys[j]])) l4=some (.lst ([ys[j]].map mkT)):=upd_same
    generalize upd H7 l4 (.lst [mkT ys[j]])=H4 at s4 e4 ⊢
    refine ⟨_,rfl,_,rfl,_,rfl,l1,_,rfl,SqL.of (s4 _ _ (s37 _ _ e31)),fun l5 hl5=>?_⟩
    rw [ezy]
    have s5:=same_new hl5 (.lst (zy.map mkT))
    have e5:(upd H4 l5 (.lst (zy.map mkT))) l5=some (.lst (zy.map mkT)):=upd_same
    generalize upd H4 l5 (.lst (zy.map mkT))=H5 at s5 e5 ⊢
    refine ⟨l5,rfl,⟨_,SqL.of e5⟩,fun lc hlc=>?_⟩
    refine grp_comp (K:=K) e5 (by omega) hlc (fun i x H Q q=>⟨_,rfl,_,_,rfl,rfl,_,rfl,_,_,rfl,rfl,by omega,_,rfl,rfl,_,rfl,q _⟩) fun H6 os s6 e6 lo mo=>?_
    refine ⟨l4,lc,_,_,rfl,rfl,s6 _ _ (s5 _ _ e4),e6,small (by rw [List.length_map,List.length_map,List.length_singleton]; omega),fun l8 hl8=>gN ?_⟩
    have s8:=same_new hl8 (.lst ([ys[j]].map mkT++os.map mkT))
    have e8:(upd H6 l8 (.lst ([ys[j]].map mkT++os.map mkT))) l8=some (.lst ((ys[j] :: os).map mkT)):=upd_same
    have h8:=none_back ((s4.trans s5).trans s6) hl8
    have s78:=((s4.trans s5).trans s6).trans s8
    generalize upd H6 l8 (.lst ([ys[j]].map mkT++os.map mkT))=H8 at s8 e8 s78 ⊢
    have lB:(ys[j] :: os).length≤1+ys.length:=by rw [List.length_cons]; omega
    have mB:∀ x∈ys[j] :: os,x∈ys:=fun x hx=>by
      rcases List.mem_cons.mp hx with rfl | hx
      · exact List.getElem_mem hjy
      · exact mzy x (mo x hx)
    generalize ys[j] :: os=others at e8 lB mB
    clear s4 e4 s5 e5 hlc e6 s6 lo mo hl4 hl5 s8 ezy mzy lzy
    replace e7:=s78 _ _ e7
    have s38:=s37.trans s78
    have p8:=p3.same s38
    have n7:=p3.ne h7
    have n8:=(p3.same s37).ne h8
    have o8:=o3.trans (.of s38)
    replace e3:=s38 _ _ e3
    replace d3:=d3.same s38
    clear s37 s78 s38 e30 e31 p3 o3
    refine ⟨_,rfl,b,lb,14,rfl,p8,by decide,by decide,fun r9 H9 p9 o9 a9 b9=>⟨_,_,rfl,rfl,⟨by decide,by decide,by decide⟩,_,rfl,b,lb,12,rfl,p9,by decide,by decide,fun ra Ha pa oa aa ba=>⟨rfl,.inr ⟨_,rfl,_,_,rfl,rfl,.inl ⟨by decide,by decide⟩,_,_,rfl,rfl,gN ?_⟩⟩⟩⟩
    obtain ⟨told,htold⟩:∃ t:Int,t=r9+10 ^ (11:Int).toNat * (if decide (V.int ra=V.int 11)=true then 1 else 0):=⟨_,rfl⟩
    have o8a:=o9.trans oa
    refine ⟨_,rfl,b,lb,0,rfl,pa,by decide,fun qc mc Hc ec lc pc oc=>⟨_,rfl,b,lb,0,rfl,pc,by decide,fun qd md Hd ed ld pd od=>⟨smn 2,fun qe hqe=>gN ?_⟩⟩⟩
    have se:=same_new hqe (.tup [.ref qc,.ref qd])
    have ee:(upd Hd qe (.tup [.ref qc,.ref qd])) qe=some (.tup [.ref qc,.ref qd]):=upd_same
    have pe:=pd.same se
    have o8e:=((o8a.trans oc).trans od).trans (.of se)
    have eec:=se _ _ (od.tup pc _ _ ec)
    have eed:=se _ _ ed
    generalize upd Hd qe (.tup [.ref qc,.ref qd])=He at se ee pe o8e eec eed ⊢
    have e3e:=o8e _ _ e3 n2.1 n2.2
    have e7e:=o8e _ _ e7 n7.1 n7.2
    have e8e:=o8e _ _ e8 n8.1 n8.2
    have d3e:=d3.keepT (o8e.tup p8)
    have o0e:=o8.trans o8e
    clear se o8a oc od ec ed pc pd pa oa p9 o9 e3 e7 e8 d3 p8 o8 o8e
    refine ⟨_,rfl,.inl ⟨rfl,_,SqL.of e3e⟩,_,rfl,l7,_,_,rfl,.inl (SqL.of e7e),denS_of _ _,hom_names _,by rw [List.length_map]; omega,fun x hx=>?_,fun lf uf df hlf pmf upf dnf=>?_⟩
    · obtain ⟨y,_,rfl⟩:=List.mem_map.mp hx
      exact show Shal 50 _ from shal_ups (n:=0) (shal_str _) 50
    obtain ⟨on,pon,rfl⟩:=perm_map_inv pmf rfl
    have euf:=denS dnf
    subst euf
    have sf:=same_new hlf (.lst (on.map mkT))
    refine ⟨lf,_,rfl,.inl ⟨SqL.of upd_same,fun qf hqf=>?_⟩⟩
    have sg:=sf.trans (same_new hqf (.tup (on.map mkT)))
    have eg:(upd (upd He lf (.lst (on.map mkT))) qf (.tup (on.map mkT))) qf=some (.tup (on.map mkT)):=upd_same
    generalize upd (upd He lf (.lst (on.map mkT))) qf (.tup (on.map mkT))=Hg at sg eg ⊢
    refine ⟨_,rfl,l8,_,_,rfl,.inl (SqL.of (sg _ _ e8e)),denS_of _ _,hom_names _,by rw [List.length_map]; omega,fun x hx=>?_,fun lh uh dh hlh pmh uph dnh=>?_⟩
    · obtain ⟨y,_,rfl⟩:=List.mem_map.mp hx
      exact show Shal 50 _ from shal_ups (n:=0) (shal_str _) 50
    obtain ⟨ot,pot,rfl⟩:=perm_map_inv pmh rfl
    have euh:=denS dnh
    subst euh
    have sh:=same_new hlh (.lst (ot.map mkT))
    refine ⟨lh,_,rfl,.inl ⟨SqL.of upd_same,fun qh hqh=>?_⟩⟩
    have si:=sh.trans (same_new hqh (.tup (ot.map mkT)))
    have ei:(upd (upd Hg lh (.lst (ot.map mkT))) qh (.tup (ot.map mkT))) qh=some (.tup (ot.map mkT)):=upd_same
    generalize upd (upd Hg lh (.lst (ot.map mkT))) qh (.tup (ot.map mkT))=Hi at si ei ⊢
    have sgi:=sg.trans si
    refine ⟨_,rfl,_,rfl,smn 4,fun tq htq=>?_⟩
    have sj:=same_new htq (.tup [.ref qf,.ref qh,.int told,.ref qe])
    have s3j:=sgi.trans sj
    have ej:=s3j _ _ e3e
    have kT:=keepT_upd (zs:=us++[.ref tq]) ej
    have hul:=d3e.len
    rw [List.length_map] at hul
    subst htold
    refine ⟨l2,us,_,rfl,rfl,ej,small1000 (by omega),_,_,_,_,_,us++[.ref tq],ks++[(on,ot,r9+10 ^ (11:Int).toNat * (if decide (V.int ra=V.int 11)=true then 1 else 0),mc,md)],rfl,(pe.same s3j).upd n2.1 n2.2,(o0e.trans (.of s3j)).free h2,upd_same,?_,by rw [List.length_append,hkl]; rfl,fun k hk=>?_⟩
    · rw [List.map_append]
      refine DenL.snoc (Den.keepT kT ?_) ((d3e.same s3j).keepT kT)
      exact ⟨tq,_,rfl,upd_same,⟨qf,_,rfl,sj _ _ (si _ _ eg),denS_of _ _⟩,⟨qh,_,rfl,sj _ _ ei,denS_of _ _⟩,rfl,⟨qe,_,rfl,s3j _ _ ee,⟨qc,_,rfl,s3j _ _ eec,denI_of _ _⟩,⟨qd,_,rfl,s3j _ _ eed,denI_of _ _⟩,trivial⟩,trivial⟩
    · rcases List.mem_append.mp hk with z | z
      · exact hks k z
      · rw [List.mem_singleton.mp z]
        exact ⟨⟨by rw [pon.length_eq]; exact lA,fun x hx=>mA x (pon.mem_iff.mp hx)⟩,⟨by rw [pot.length_eq]; exact lB,fun x hx=>mB x (pot.mem_iff.mp hx)⟩,lc,ld⟩
  · rintro σ H3 ⟨v5,v6,v7,v8,v9,us,ks,rfl,p3,o3,e3,d3,hkl,hks⟩
    refine ⟨_,rfl,l2,_,_,rfl,.inl (SqL.of e3),d3,hom_links ks,by rw [List.length_map]; omega,fun x hx=>?_,fun l4 us4 ds4 hl4 pm4 up4 dn4=>?_⟩
    · obtain ⟨y,hy',rfl⟩:=List.mem_map.mp hx
      have a:=(hks y hy').a.1
      have b:=(hks y hy').b.1
      have c:=(hks y hy').c
      exact show Shal 50 _ from shal_ups (n:=3) (shal_lnk (by omega) (by omega) (by omega) (by omega)) 47
    obtain ⟨ks4,pk4,rfl⟩:=perm_map_inv pm4 rfl
    have s4:=same_new hl4 (.lst us4)
    refine ⟨l4,_,rfl,.inl ⟨SqL.of upd_same,fun q hq=>?_⟩⟩
    have s5:=s4.trans (same_new hq (.tup us4))
    exact kk q ks4 _ ⟨q,us4,rfl,upd_same,dn4.same s5⟩ (by rw [pk4.length_eq]; omega) (fun k hk=>hks k (pk4.mem_iff.mp hk)) (p3.same s5) (o3.trans (.of s5))
end
theorem cut_from {α:Type} (xs:List α) {r:Nat} (h:r≤xs.length):(xs.drop (HT.sIx xs.length 0 (some (r:Int)))).take (HT.sIx xs.length xs.length none - HT.sIx xs.length 0 (some (r:Int)))=xs.drop r:=by
  rw [HT.sIx_nat,HT.sIx_none,Nat.min_eq_left h]
  exact List.take_of_length_le (by rw [List.length_drop]; omega)
theorem cut_upto {α:Type} (xs:List α) {r:Nat} (h:r≤xs.length):(xs.drop (HT.sIx xs.length 0 none)).take (HT.sIx xs.length xs.length (some (r:Int)) - HT.sIx xs.length 0 none)=xs.take r:=by
  rw [HT.sIx_nat,HT.sIx_none,Nat.min_eq_left h,List.drop_zero,Nat.sub_zero]
structure Al (b lb:Addr) (H0 H:Hp) (as:List Addr):Prop where
  nd:(b :: lb :: as).Nodup
  so:∀ x∈as,∃ o,H x=some o
  fr:∀ x∈as,H0 x=none
  dr:DrAt b lb H
  old:Old b lb H0 H
theorem Al.new {b lb c:Addr} {H0 H:Hp} {as:List Addr} (h:Al b lb H0 H as) (hc:H c=none) (o:HO):Al b lb H0 (upd H c o) (as++[c]):=by
  have hn:=h.dr.ne hc
  have hca:c ∉ as:=fun z=>by
    obtain ⟨o,e⟩:=h.so c z
    rw [hc] at e
    cases e
  have s:=same_new hc o
  refine ⟨?_,fun x hx=>?_,fun x hx=>?_,h.dr.same s,h.old.trans (.of s)⟩
  · rw [show b :: lb :: (as++[c])=(b :: lb :: as)++[c] from rfl,List.nodup_append]
    refine ⟨h.nd,by simp,fun x hx y hy e=>?_⟩
    rw [List.mem_singleton.mp hy] at e
    subst e
    rcases List.mem_cons.mp hx with e | hx
    · exact hn.1 e
    · rcases List.mem_cons.mp hx with e | hx
      · exact hn.2 e
      · exact hca hx
  · rcases List.mem_append.mp hx with z | z
    · obtain ⟨o,e⟩:=h.so x z
      exact ⟨o,s _ _ e⟩
    · rw [List.mem_singleton.mp z]
      exact ⟨_,upd_same⟩
  · rcases List.mem_append.mp hx with z | z
    · exact h.fr x z
    · rw [List.mem_singleton.mp z]
      exact h.old.none h.dr hc
theorem Al.same {b lb:Addr} {H0 H H':Hp} {as:List Addr} (h:Al b lb H0 H as) (s:Same H H'):Al b lb H0 H' as :=
  ⟨h.nd,fun x hx=>let ⟨o,e⟩:=h.so x hx; ⟨o,s _ _ e⟩,h.fr,h.dr.same s,h.old.trans (.of s)⟩
structure BI (A:Nat→Addr) (H0 H:Hp) (X K:Nat→Nms) (al:Nms) (L:Nat→List Prt) (N:List (List Nat × List Nat)):Prop where
  inj:∀ i j,i < 13→j < 13→A i=A j→i=j
  fr:∀ i,2≤i→i < 13→H0 (A i)=none
  dr:DrAt (A 0) (A 1) H
  old:Old (A 0) (A 1) H0 H
  esd:H (A 4)=some (.lst [.ref (A 2),.ref (A 3)])
  ek:H (A 7)=some (.lst [.ref (A 5),.ref (A 6)])
  ep:H (A 11)=some (.lst [.ref (A 9),.ref (A 10)])
  ea:H (A 8)=some (.lst (al.map mkT))
  es:∀ s,s < 2→H (A (2+s))=some (.lst ((X s).map mkT))
  eks:∀ s,s < 2→H (A (5+s))=some (.lst ((K s).map mkT))
  eps:∀ s,s < 2→∃ us,H (A (9+s))=some (.lst us)∧DenL H us ((L s).map partD)
  wd:∃ kvs,H (A 12)=some (.dK kvs)∧kvs.length≤N.length∧∀ q∈N,∃ l,valV kvs (nkey q.1)=some (.ref l)∧H l=some (.lst ((coresL [sOf q.2]).map V.str))∧∀ i,i < 13→l≠A i
section
variable {A:Nat→Addr} {H0 H H':Hp} {X K:Nat→Nms} {al:Nms} {L:Nat→List Prt} {N:List (List Nat × List Nat)}
theorem BI.ne (h:BI A H0 H X K al L N) {i j:Nat} (hi:i < 13) (hj:j < 13) (hij:i≠j):A i≠A j:=fun z=>hij (h.inj i j hi hj z)
theorem BI.call (h:BI A H0 H X K al L N) (p:DrAt (A 0) (A 1) H') (o:Old (A 0) (A 1) H H'):BI A H0 H' X K al L N where
  inj:=h.inj
  fr:=h.fr
  dr:=p
  old:=h.old.trans o
  esd:=o _ _ h.esd (h.ne (by decide) (by decide) (by decide)) (h.ne (by decide) (by decide) (by decide))
  ek:=o _ _ h.ek (h.ne (by decide) (by decide) (by decide)) (h.ne (by decide) (by decide) (by decide))
  ep:=o _ _ h.ep (h.ne (by decide) (by decide) (by decide)) (h.ne (by decide) (by decide) (by decide))
  ea:=o _ _ h.ea (h.ne (by decide) (by decide) (by decide)) (h.ne (by decide) (by decide) (by decide))
  es:=fun s hs=>o _ _ (h.es s hs) (h.ne (by omega) (by decide) (by omega)) (h.ne (by omega) (by decide) (by omega))
  eks:=fun s hs=>o _ _ (h.eks s hs) (h.ne (by omega) (by decide) (by omega)) (h.ne (by omega) (by decide) (by omega))
  eps:=fun s hs=>let ⟨us,e,d⟩:=h.eps s hs; ⟨us,o _ _ e (h.ne (by omega) (by decide) (by omega)) (h.ne (by omega) (by decide) (by omega)),d.keepT (o.tup h.dr)⟩
  wd:=let ⟨kvs,e,hl,hw⟩:=h.wd; ⟨kvs,o _ _ e (h.ne (by decide) (by decide) (by decide)) (h.ne (by decide) (by decide) (by decide)),hl,fun q hq=>let ⟨l,e1,e2,e3⟩:=hw q hq; ⟨l,e1,o _ _ e2 (e3 0 (by decide)) (e3 1 (by decide)),e3⟩⟩
theorem BI.same (h:BI A H0 H X K al L N) (s:Same H H'):BI A H0 H' X K al L N:=h.call (h.dr.same s) (.of s)
theorem BI.aln (h:BI A H0 H X K al L N) (x:List Nat):BI A H0 (upd H (A 8) (.lst (al.map mkT++[mkT x]))) X K (al++[x]) L N where
  inj:=h.inj
  fr:=h.fr
  dr:=h.dr.upd (h.ne (by decide) (by decide) (by decide)) (h.ne (by decide) (by decide) (by decide))
  old:=h.old.free (h.fr 8 (by decide) (by decide))
  esd:=(upd_ne (h.ne (by decide) (by decide) (by decide))).trans h.esd
  ek:=(upd_ne (h.ne (by decide) (by decide) (by decide))).trans h.ek
  ep:=(upd_ne (h.ne (by decide) (by decide) (by decide))).trans h.ep
  ea:=by rw [upd_same,List.map_append]; rfl
  es:=fun s hs=>(upd_ne (h.ne (by omega) (by decide) (by omega))).trans (h.es s hs)
  eks:=fun s hs=>(upd_ne (h.ne (by omega) (by decide) (by omega))).trans (h.eks s hs)
  eps:=fun s hs=>let ⟨us,e,d⟩:=h.eps s hs; ⟨us,(upd_ne (h.ne (by omega) (by decide) (by omega))).trans e,d.keepT (keepT_upd h.ea)⟩
  wd:=let ⟨kvs,e,hl,hw⟩:=h.wd; ⟨kvs,(upd_ne (h.ne (by decide) (by decide) (by decide))).trans e,hl,fun q hq=>let ⟨l,e1,e2,e3⟩:=hw q hq; ⟨l,e1,(upd_ne (e3 8 (by decide))).trans e2,e3⟩⟩
theorem BI.lnk (h:BI A H0 H X K al L N) {s:Nat} (hs:s < 2) (x:List Nat):BI A H0 (upd H (A (5+s)) (.lst ((K s).map mkT++[mkT x]))) X (fun t=>if t=s then K s++[x] else K t) al L N where
  inj:=h.inj
  fr:=h.fr
  dr:=h.dr.upd (h.ne (by omega) (by decide) (by omega)) (h.ne (by omega) (by decide) (by omega))
  old:=h.old.free (h.fr _ (by omega) (by omega))
  esd:=(upd_ne (h.ne (by decide) (by omega) (by omega))).trans h.esd
  ek:=(upd_ne (h.ne (by decide) (by omega) (by omega))).trans h.ek
  ep:=(upd_ne (h.ne (by decide) (by omega) (by omega))).trans h.ep
  ea:=(upd_ne (h.ne (by decide) (by omega) (by omega))).trans h.ea
  es:=fun t ht=>(upd_ne (h.ne (by omega) (by omega) (by omega))).trans (h.es t ht)
  eks:=fun t ht=>by
    by_cases e:t=s
    · subst e
      rw [upd_same,if_pos rfl,List.map_append]
      rfl
    · rw [upd_ne (h.ne (by omega) (by omega) (by omega)),if_neg e]
      exact h.eks t ht
  eps:=fun t ht=>let ⟨us,e,d⟩:=h.eps t ht; ⟨us,(upd_ne (h.ne (by omega) (by omega) (by omega))).trans e,d.keepT (keepT_upd (h.eks s hs))⟩
  wd:=let ⟨kvs,e,hl,hw⟩:=h.wd; ⟨kvs,(upd_ne (h.ne (by decide) (by omega) (by omega))).trans e,hl,fun q hq=>let ⟨l,e1,e2,e3⟩:=hw q hq; ⟨l,e1,(upd_ne (e3 _ (by omega))).trans e2,e3⟩⟩
theorem BI.prt (h:BI A H0 H X K al L N) {s:Nat} (hs:s < 2) {us:List V} (hu:H (A (9+s))=some (.lst us)) {v:V} {p:Prt} (hv:Den H v (partD p)):BI A H0 (upd H (A (9+s)) (.lst (us++[v]))) X K al (fun t=>if t=s then L s++[p] else L t) N where
  inj:=h.inj
  fr:=h.fr
  dr:=h.dr.upd (h.ne (by omega) (by decide) (by omega)) (h.ne (by omega) (by decide) (by omega))
  old:=h.old.free (h.fr _ (by omega) (by omega))
  esd:=(upd_ne (h.ne (by decide) (by omega) (by omega))).trans h.esd
  ek:=(upd_ne (h.ne (by decide) (by omega) (by omega))).trans h.ek
  ep:=(upd_ne (h.ne (by decide) (by omega) (by omega))).trans h.ep
  ea:=(upd_ne (h.ne (by decide) (by omega) (by omega))).trans h.ea
  es:=fun t ht=>(upd_ne (h.ne (by omega) (by omega) (by omega))).trans (h.es t ht)
  eks:=fun t ht=>(upd_ne (h.ne (by omega) (by omega) (by omega))).trans (h.eks t ht)
  eps:=fun t ht=>by
    have kT:=keepT_upd (zs:=us++[v]) hu
    by_cases e:t=s
    · subst e
      obtain ⟨us',e',d⟩:=h.eps t ht
      have eu:us=us':=by
        rw [hu] at e'
        exact HO.lst.inj (Option.some.inj e')
      subst eu
      refine ⟨us++[v],upd_same,?_⟩
      rw [if_pos rfl,List.map_append]
      exact DenL.snoc (hv.keepT kT) (d.keepT kT)
    · obtain ⟨us',e',d⟩:=h.eps t ht
      rw [if_neg e]
      exact ⟨us',(upd_ne (h.ne (by omega) (by omega) (by omega))).trans e',d.keepT kT⟩
  wd:=let ⟨kvs,e,hl,hw⟩:=h.wd; ⟨kvs,(upd_ne (h.ne (by decide) (by omega) (by omega))).trans e,hl,fun q hq=>let ⟨l,e1,e2,e3⟩:=hw q hq; ⟨l,e1,(upd_ne (e3 _ (by omega))).trans e2,e3⟩⟩
theorem BI.put (h:BI A H0 H X K al L N) {kvs:List (Key × V)} (hk:H (A 12)=some (.dK kvs)) {x tx:List Nat} {l:Addr} (hx:∀ q∈N,q.1≠x) (hl:H l=some (.lst ((coresL [sOf tx]).map V.str))) (hn:∀ i,i < 13→l≠A i):BI A H0 (upd H (A 12) (.dK (putK kvs (nkey x) (.ref l)))) X K al L (N++[(x,tx)]) where
  inj:=h.inj
  fr:=h.fr
  dr:=h.dr.upd (h.ne (by decide) (by decide) (by decide)) (h.ne (by decide) (by decide) (by decide))
  old:=h.old.free (h.fr 12 (by decide) (by decide))
  esd:=(upd_ne (h.ne (by decide) (by decide) (by decide))).trans h.esd
  ek:=(upd_ne (h.ne (by decide) (by decide) (by decide))).trans h.ek
  ep:=(upd_ne (h.ne (by decide) (by decide) (by decide))).trans h.ep
  ea:=(upd_ne (h.ne (by decide) (by decide) (by decide))).trans h.ea
  es:=fun s hs=>(upd_ne (h.ne (by omega) (by decide) (by omega))).trans (h.es s hs)
  eks:=fun s hs=>(upd_ne (h.ne (by omega) (by decide) (by omega))).trans (h.eks s hs)
  eps:=fun s hs=>let ⟨us,e,d⟩:=h.eps s hs; ⟨us,(upd_ne (h.ne (by omega) (by decide) (by omega))).trans e,d.keepT (keepT_dict hk)⟩
  wd:=by
    obtain ⟨kvs',e,hlen,hw⟩:=h.wd
    have ek:kvs=kvs':=by
      rw [hk] at e
      exact HO.dK.inj (Option.some.inj e)
    subst ek
    refine ⟨_,upd_same,?_,fun q hq=>?_⟩
    · have:=put_len (kvs:=kvs) (k:=nkey x) (v:=.ref l)
      rw [List.length_append,List.length_singleton]
      omega
    · rcases List.mem_append.mp hq with z | z
      · obtain ⟨l',e1,e2,e3⟩:=hw q z
        refine ⟨l',?_,(upd_ne (e3 12 (by decide))).trans e2,e3⟩
        rw [valV_put,if_neg fun y=>hx q z (nkey_inj y)]
        exact e1
      · rw [List.mem_singleton.mp z]
        refine ⟨l,?_,(upd_ne (hn 12 (by decide))).trans hl,hn⟩
        rw [valV_put,if_pos rfl]
end
structure GI (X K:Nat→Nms) (al:Nms) (L:Nat→List Prt) (N:List (List Nat × List Nat)) (n:Nat→Nat):Prop where
  lf:∀ t,t < 2→(L t).map (·.1)=(X t).take (n t)
  nf:∀ q∈N,∃ t,t < 2∧q.1∈(X t).take (n t)
  ln:∀ t,t < 2→∀ p∈L t,(p.1,p.2.1)∈N
  nl:N.length≤n 0+n 1
  kf:∀ t,t < 2→(K t).length≤n t∧∀ x∈K t,x∈X t
  af:al.length≤n 0+n 1∧∀ x∈al,∃ t,t < 2∧x∈X t
  pf:∀ t,t < 2→∀ p∈L t,p.2.2.length≤4∧p.2.1.length≤1000
def nx (n:Nat→Nat) (s:Nat):Nat→Nat:=fun t=>if t=s then n s+1 else n t
theorem nx_sum {n:Nat→Nat} {s:Nat} (hs:s < 2):nx n s 0+nx n s 1=n 0+n 1+1:=by
  unfold nx
  match s,hs with
  | 0,_=>simp; omega
  | 1,_=>simp; omega
theorem nx_self (n:Nat→Nat) (s:Nat):nx n s s=n s+1:=by unfold nx; rw [if_pos rfl]
theorem nx_ne {n:Nat→Nat} {s t:Nat} (h:t≠s):nx n s t=n t:=by unfold nx; rw [if_neg h]
theorem nx_le (n:Nat→Nat) (s t:Nat):n t≤nx n s t:=by
  unfold nx
  split
  · rename_i e
    rw [e]
    omega
  · exact Nat.le_refl _
theorem GI.step {X K:Nat→Nms} {al:Nms} {L:Nat→List Prt} {N:List (List Nat × List Nat)} {n:Nat→Nat} (h:GI X K al L N n) {s:Nat} (hs:s < 2) {x tx:List Nat} {ms:List Int} (hx:(X s)[n s]?=some x) (hm:ms.length≤4) (ht:tx.length≤1000) :
    GI X K al (fun t=>if t=s then L s++[(x,tx,ms)] else L t) (N++[(x,tx)]) (nx n s) where
  lf:=fun t ht=>by
    by_cases e:t=s
    · subst e
      rw [nx_self,if_pos rfl,List.map_append,h.lf t ht,take_one hx]
      rfl
    · rw [nx_ne e,if_neg e]
      exact h.lf t ht
  nf:=fun q hq=>by
    rcases List.mem_append.mp hq with z | z
    · obtain ⟨t,ht,hm⟩:=h.nf q z
      exact ⟨t,ht,(List.take_subset_take_left _ (nx_le n s t)) hm⟩
    · rw [List.mem_singleton.mp z]
      refine ⟨s,hs,?_⟩
      rw [nx_self,take_one hx]
      simp
  ln:=fun t ht p hp=>by
    by_cases e:t=s
    · subst e
      rw [if_pos rfl] at hp
      rcases List.mem_append.mp hp with z | z
      · exact List.mem_append_left _ (h.ln t ht p z)
      · rw [List.mem_singleton.mp z]
        simp
    · rw [if_neg e] at hp
      exact List.mem_append_left _ (h.ln t ht p hp)
  nl:=by rw [nx_sum hs,List.length_append,List.length_singleton]; have:=h.nl; omega
  kf:=fun t ht=>⟨Nat.le_trans (h.kf t ht).1 (nx_le n s t),(h.kf t ht).2⟩
  af:=⟨by rw [nx_sum hs]; have:=h.af.1; omega,h.af.2⟩
  pf:=fun t ht' p hp=>by
    by_cases e:t=s
    · subst e
      rw [if_pos rfl] at hp
      rcases List.mem_append.mp hp with z | z
      · exact h.pf t ht' p z
      · rw [List.mem_singleton.mp z]
        exact ⟨hm,ht⟩
    · rw [if_neg e] at hp
      exact h.pf t ht' p hp
theorem GI.lnk {X K:Nat→Nms} {al:Nms} {L:Nat→List Prt} {N:List (List Nat × List Nat)} {n:Nat→Nat} (h:GI X K al L N (nx n s)) {x:List Nat} (hK:(K s).length≤n s) (hx:x∈X s):GI X (fun t=>if t=s then K s++[x] else K t) al L N (nx n s):=⟨h.lf,h.nf,h.ln,h.nl,fun t ht=>by
  by_cases e:t=s
  · subst e
    rw [if_pos rfl,nx_self,List.length_append,List.length_singleton]
    refine ⟨by omega,fun y hy=>?_⟩
    rcases List.mem_append.mp hy with z | z
    · exact (h.kf t ht).2 y z
    · rw [List.mem_singleton.mp z]
      exact hx
  · rw [if_neg e]
    exact h.kf t ht,h.af,h.pf⟩
theorem GI.aln {X K:Nat→Nms} {al:Nms} {L:Nat→List Prt} {N:List (List Nat × List Nat)} {n:Nat→Nat} {s:Nat} (hs:s < 2) (h:GI X K al L N (nx n s)) {x:List Nat} (hA:al.length≤n 0+n 1) (hx:x∈X s):GI X K (al++[x]) L N (nx n s):=⟨h.lf,h.nf,h.ln,h.nl,h.kf,⟨by
  rw [nx_sum hs,List.length_append,List.length_singleton]
  omega,fun y hy=>by
  rcases List.mem_append.mp hy with z | z
  · exact h.af.2 y z
  · rw [List.mem_singleton.mp z]
    exact ⟨s,hs,hx⟩⟩,h.pf⟩
theorem GI.fresh {X K:Nat→Nms} {al:Nms} {L:Nat→List Prt} {N:List (List Nat × List Nat)} {n:Nat→Nat} (h:GI X K al L N n) (hn:(X 0++X 1).Nodup) {s:Nat} (hs:s < 2) {x:List Nat} (hx:(X s)[n s]?=some x):∀ q∈N,q.1≠x:=fun q hq e=>by
  obtain ⟨t,ht,hm⟩:=h.nf q hq
  rw [e] at hm
  rw [List.nodup_append] at hn
  by_cases ets:t=s
  · subst ets
    have hnd:(X t).Nodup:=by
      match t,ht with
      | 0,_=>exact hn.1
      | 1,_=>exact hn.2.1
    have h1:=take_one hx
    have h2:((X t).take (n t+1)).Nodup:=hnd.sublist (List.take_sublist _ _)
    rw [h1,List.nodup_append] at h2
    exact h2.2.2 x hm x (by simp) rfl
  · have hxs:=List.mem_of_getElem? hx
    have hxt:=List.mem_of_mem_take hm
    match t,s,ht,hs with
    | 0,1,_,_=>exact hn.2.2 x hxt x hxs rfl
    | 1,0,_,_=>exact hn.2.2 x hxs x hxt rfl
    | 0,0,_,_=>exact ets rfl
    | 1,1,_,_=>exact ets rfl
theorem inj_of {as:List Addr} (h:as.Nodup) (hl:as.length=13):∀ i j,i < 13→j < 13→as.getD i 0=as.getD j 0→i=j:=fun i j hi hj e=>by
  rw [List.nodup_iff_pairwise_ne,List.pairwise_iff_getElem] at h
  rw [List.getD_eq_getElem?_getD,List.getD_eq_getElem?_getD,ex_at (by omega:i < as.length),ex_at (by omega:j < as.length)] at e
  have e:as[i]=as[j]:=e
  rcases Nat.lt_trichotomy i j with z | z | z
  · exact absurd e (h i j (by omega) (by omega) z)
  · exact z
  · exact absurd e.symm (h j i (by omega) (by omega) z)
theorem BI.some {A:Nat→Addr} {H0 H:Hp} {X K:Nat→Nms} {al:Nms} {L:Nat→List Prt} {N:List (List Nat × List Nat)} (h:BI A H0 H X K al L N):∀ i,i < 13→∃ o,H (A i)=some o:=fun i hi=>by
  obtain ⟨s,ns,d1,d2,_⟩:=h.dr
  obtain ⟨kvs,w1,_⟩:=h.wd
  obtain ⟨u0,p0,_⟩:=h.eps 0 (by decide)
  obtain ⟨u1,p1,_⟩:=h.eps 1 (by decide)
  match i,hi with
  | 0,_=>exact ⟨_,d1⟩
  | 1,_=>exact ⟨_,d2⟩
  | 2,_=>exact ⟨_,h.es 0 (by decide)⟩
  | 3,_=>exact ⟨_,h.es 1 (by decide)⟩
  | 4,_=>exact ⟨_,h.esd⟩
  | 5,_=>exact ⟨_,h.eks 0 (by decide)⟩
  | 6,_=>exact ⟨_,h.eks 1 (by decide)⟩
  | 7,_=>exact ⟨_,h.ek⟩
  | 8,_=>exact ⟨_,h.ea⟩
  | 9,_=>exact ⟨_,p0⟩
  | 10,_=>exact ⟨_,p1⟩
  | 11,_=>exact ⟨_,h.ep⟩
  | 12,_=>exact ⟨_,w1⟩
def leftW:Nms:=[[107,97],[108,111],[109,105,55],[120]]
def rightW:Nms:=[[97,117,114],[107,97],[115,111,108],[57]]
theorem left_v:[V.str "ka",.str "lo",.str "mi7",.str "x"]=leftW.map mkT:=by decide +kernel
theorem right_v:[V.str "aur",.str "ka",.str "sol",.str "9"]=rightW.map mkT:=by decide +kernel
theorem words_ok:∀ x∈leftW++rightW,x≠[]∧x.length≤8∧∀ c∈x,M01.isW c=true∧lo1 c=c:=by decide +kernel
theorem wok {x:List Nat} (h:x∈leftW++rightW):WOk x:=⟨(words_ok x h).1,(words_ok x h).2.1,(words_ok x h).2.2⟩
structure WdAt (b lb dw:Addr) (H:Hp) (ps:List Prt):Prop where
  n:dw≠b∧dw≠lb
  e:∃ kvs,H dw=some (.dK kvs)∧∀ p∈ps,∃ l,valV kvs (nkey p.1)=some (.ref l)∧H l=some (.lst ((coresL [sOf p.2.1]).map V.str))∧l≠b∧l≠lb
def spBook:Sp:=fun vs H Q _=>∃ (b lb:Addr),vs=[.ref b]∧DrAt b lb H∧∀ (q qb dw:Addr) (L R:List Prt) (ks:List Lnk) (al:Nms) (H':Hp),H' q=some (.tup [.ref qb,.ref dw])→BkOk H' (.ref qb) L R ks al→WdAt b lb dw H' (L++R)→DrAt b lb H'→Q (.ref q) H'
def two (X:Nat→Nms) (s i:Nat):Nat→Nat:=fun t=>if t=s then i else if t < s then (X t).length else 0
theorem two_nx (X:Nat→Nms) (s i:Nat):nx (two X s i) s=two X s (i+1):=by
  funext t
  unfold nx two
  by_cases e:t=s
  · rw [if_pos e,if_pos e,if_pos rfl]
  · rw [if_neg e,if_neg e,if_neg e]
theorem two_self (X:Nat→Nms) (s i:Nat):two X s i s=i:=by unfold two; rw [if_pos rfl]
def upTo (X:Nat→Nms) (s:Nat):Nat→Nat:=fun t=>if t < s then (X t).length else 0
theorem upTo_two (X:Nat→Nms) (s:Nat):upTo X s=two X s 0:=by
  funext t
  unfold upTo two
  by_cases e:t=s
  · rw [if_pos e,if_neg (by omega)]
  · rw [if_neg e]
theorem two_upTo (X:Nat→Nms) (s:Nat):two X s (X s).length=upTo X (s+1):=by
  funext t
  unfold upTo two
  by_cases e:t=s
  · subst e
    rw [if_pos rfl,if_pos (by omega)]
  · rw [if_neg e]
    by_cases h:t < s
    · rw [if_pos h,if_pos (by omega)]
    · rw [if_neg h,if_neg (by omega)]
theorem vb_of {X K:Nat→Nms} {al al':Nms} {L:Nat→List Prt} {N:List (List Nat × List Nat)} {ks:List Lnk} (h:GI X K al L N (upTo X 2)) (hn:(X 0++X 1).Nodup) (h0:(X 0).length≤12) (h1:(X 1).length≤12) (hk:∀ k∈ks,LkOk (K 0) (K 1) k) (ha:al'.Perm al):VB (L 0) (L 1) ks al':=by
  have l0:(L 0).map (·.1)=X 0:=by have:=h.lf 0 (by decide); rwa [show upTo X 2 0=(X 0).length from rfl,List.take_length] at this
  have l1:(L 1).map (·.1)=X 1:=by have:=h.lf 1 (by decide); rwa [show upTo X 2 1=(X 1).length from rfl,List.take_length] at this
  have c0:=congrArg List.length l0
  have c1:=congrArg List.length l1
  rw [List.length_map] at c0 c1
  have k0:=h.kf 0 (by decide)
  have k1:=h.kf 1 (by decide)
  have k0l:(K 0).length≤(X 0).length:=k0.1
  have k1l:(K 1).length≤(X 1).length:=k1.1
  refine ⟨by rw [List.map_append,l0,l1]; exact hn,by omega,by omega,fun p hp=>⟨?_,trivial⟩,fun k hk'=>(hk k hk').c,fun k hk'=>?_,fun x hx=>?_,fun x hx=>?_,fun x hx=>?_⟩
  · rcases List.mem_append.mp hp with z | z
    · exact (h.pf 0 (by decide) p z).1
    · exact (h.pf 1 (by decide) p z).1
  · have a:=(hk k hk').a.1
    have b:=(hk k hk').b.1
    omega
  · obtain ⟨k,hk',hxk⟩:=List.mem_flatMap.mp hx
    rw [l0]
    exact k0.2 x ((hk k hk').a.2 x hxk)
  · obtain ⟨k,hk',hxk⟩:=List.mem_flatMap.mp hx
    rw [l1]
    exact k1.2 x ((hk k hk').b.2 x hxk)
  · obtain ⟨t,ht,hxt⟩:=h.af.2 x (ha.mem_iff.mp hx)
    rw [List.map_append,l0,l1]
    match t,ht with
    | 0,_=>exact List.mem_append_left _ hxt
    | 1,_=>exact List.mem_append_right _ hxt
section
variable {P:Program} {w:World} {K:PySem.W.Frag} {mg:Str→Option Value} {base:Heap}
theorem scBook:FnScope ["_law_draws_here", "_law_most", "_law_bare", "_law_many", "_law_names_here", "_law_sides", "_law_linked", "_law_alone", "_law_parts", "_law_words", "_law_side", "_law_name", "_law_text_here", "_law_way", "_law_links_here"] ["_law_draws_here"] (defScope sBook):=⟨rfl,rfl,rfl,by decide +kernel,rfl,by decide +kernel,by decide +kernel⟩
theorem c_book (h:Has K mg "_law_book" sBook ["_law_draws_here"]) (C_pick:Cal P w K mg base "_law_pick" 1 ["_law_draws_here", "_law_many"] spPick) (C_names:Cal P w K mg base "_law_names" 2 ["_law_draws_here", "_law_many"] spNames) (C_text:Cal P w K mg base "_law_text" 2 ["_law_draws_here", "_law_words"] spText) (C_moments:Cal P w K mg base "_law_moments" 2 ["_law_draws_here", "_law_least"] spMoments) (C_links:Cal P w K mg base "_law_links" 3 ["_law_draws_here", "_law_lefts", "_law_rights"] spLinks) (m_int:mg "int" = none) (m_sum:mg "sum" = none) (m_range:mg "range" = none) (m_tuple:mg "tuple" = none) (m_sorted:mg "sorted" = none):Cal P w K mg base "_law_book" 4 ["_law_draws_here"] spBook:=by
  refine h.mk' scBook (fun vs H Q E hs=>?_) (fun f cdv A outer s H vs Q E hr hs=>?_)
  · obtain ⟨b,lb,rfl,_⟩:=hs
    rfl
  obtain ⟨b,lb,rfl,hp,kk⟩:=hs
  refine qex ⟨_,(qss_cons ⟨(ps_set (i:=1) scBook.nd rfl (Or.inl rfl) (pe_ix ix_list (pe_lst (pa_cons pe_int (pa_cons pe_int pa_nil))) (pe_callTy call_int1 rfl m_int boot_int (pa_cons (pe_cmpR op_eq (pe_cal C_pick hr (by decide) rfl (pa_cons (pv 0) (pa_cons pe_int pa_nil))) pe_int (nomark _)) pa_nil)) (fun _ _=>rfl)))⟩
    (qss_cons ⟨(ps_set (i:=2) scBook.nd rfl (Or.inl rfl) (pe_cmpR op_eq (pe_cal C_pick hr (by decide) rfl (pa_cons (pv 0) (pa_cons pe_int pa_nil))) pe_int (nomark _)))⟩
    (qss_cons ⟨(ps_set (i:=3) scBook.nd rfl (Or.inl rfl) (pe_lst (pa_cons (pe_cal C_pick hr (by decide) rfl (pa_cons (pv 0) (pa_cons (pv 1) pa_nil))) (pa_cons (pe_cal C_pick hr (by decide) rfl (pa_cons (pv 0) (pa_cons (pv 1) pa_nil))) pa_nil))))⟩
    (qss_cons ⟨(ps_set (i:=4) scBook.nd rfl (Or.inl rfl) (pe_cal C_names hr (by decide) rfl (pa_cons (pv 0) (pa_cons (pe_callB (call_sumE rfl) rfl m_sum boot_sum (pa_cons (pv 3) pa_nil)) pa_nil))))⟩
    (qss_cons ⟨(ps_set (i:=5) scBook.nd rfl (Or.inl rfl) (pe_lst (pa_cons (pe_slice sl_list (pv 4) po_none (po_some (pe_ix ix_list (pv 3) pe_int (fun _ _=>rfl)))) (pa_cons (pe_slice sl_list (pv 4) (po_some (pe_ix ix_list (pv 3) pe_int (fun _ _=>rfl))) po_none) pa_nil))))⟩
    (qss_cons ⟨(ps_set (i:=6) scBook.nd rfl (Or.inl rfl) (pe_lst (pa_cons (pe_lst pa_nil) (pa_cons (pe_lst pa_nil) pa_nil))))⟩
    (qss_cons ⟨(ps_set (i:=7) scBook.nd rfl (Or.inl rfl) (pe_lst pa_nil))⟩
    (qss_cons ⟨(ps_set (i:=8) scBook.nd rfl (Or.inl rfl) (pe_lst (pa_cons (pe_lst pa_nil) (pa_cons (pe_lst pa_nil) pa_nil))))⟩
    (qss_cons ⟨(ps_set (i:=9) scBook.nd rfl (Or.inl rfl) pe_dnewK)⟩
    (qss_cons (qs_for PassesOwn.never rfl ⟨(pi_range1 rfl m_range (pa_cons pe_int pa_nil))⟩ (pg_name (i:=10) scBook.nd rfl (Or.inl rfl))
      (qss_one (qs_for PassesOwn.never rfl (qi_list ⟨(pe_ix ix_list (pv 5) (pv 10) (fun _ _=>rfl))⟩) (pg_name (i:=11) scBook.nd rfl (Or.inl rfl))
      (qss_cons (qs_asg (qe_cal C_text hr (by decide) rfl (qa_c ⟨(pv 0)⟩ (qa_c (qe_ix ix_list (qe_lst (qa_c (qe_lst (qa_c ⟨pe_str⟩ (qa_c ⟨pe_str⟩ (qa_c ⟨pe_str⟩ (qa_c ⟨pe_str⟩ qa_nil))))) (qa_c (qe_lst (qa_c ⟨pe_str⟩ (qa_c ⟨pe_str⟩ (qa_c ⟨pe_str⟩ (qa_c ⟨pe_str⟩ qa_nil))))) qa_nil))) ⟨(pv 10)⟩ (fun _ _=>rfl)) qa_nil))) (pg_tup (n:=2) rfl (pgs_cons (pg_name (i:=12) scBook.nd rfl (Or.inl rfl)) (pgs_cons (pg_sub (pv 9) (pv 11) (set_dict (hu_of hr))) pgs_nil))))
    (qss_cons ⟨(ps_expr (pe_bm PySem.F.plainAttrs_list PySem.F.slot_list_append PySem.F.type_list_append mt_append (pe_ix ix_list (pv 8) (pv 10) (fun _ _=>rfl)) (pa_cons (pe_tup (pa_cons (pv 11) (pa_cons (pv 12) (pa_cons (pe_cal C_moments hr (by decide) rfl (pa_cons (pv 0) (pa_cons pe_int pa_nil))) pa_nil)))) pa_nil)))⟩
    (qss_cons ⟨(ps_set (i:=13) scBook.nd rfl (Or.inl rfl) (pe_cal C_pick hr (by decide) rfl (pa_cons (pv 0) (pa_cons pe_int pa_nil))))⟩
    (qss_cons ⟨(ps_if (pt_cmpR op_eq (pv 13) pe_int (nomark _))
      (pss_one (ps_expr (pe_bm PySem.F.plainAttrs_list PySem.F.slot_list_append PySem.F.type_list_append mt_append (pv 7) (pa_cons (pv 11) pa_nil))))
      pss_nil)⟩
    (qss_one ⟨(ps_if (PW.pt (pw_and (pt_cmpR op_in_seq (pv 13) (pe_tup (pa_cons pe_int (pa_cons pe_int (pa_cons pe_int pa_nil)))) (by with_unfolding_all rfl)) (pw_and1 (pt_not (pt_val (pv 2))))))
      (pss_one (ps_expr (pe_bm PySem.F.plainAttrs_list PySem.F.slot_list_append PySem.F.type_list_append mt_append (pe_ix ix_list (pv 6) (pv 10) (fun _ _=>rfl)) (pa_cons (pv 11) pa_nil))))
      pss_nil)⟩))))))))
    (qss_cons ⟨(ps_set (i:=14) scBook.nd rfl (Or.inl rfl) (pe_cal C_links hr (by decide) rfl (pa_cons (pv 0) (pa_cons (pe_ix ix_list (pv 6) pe_int (fun _ _=>rfl)) (pa_cons (pe_ix ix_list (pv 6) pe_int (fun _ _=>rfl)) pa_nil)))))⟩
    (qss_one ⟨(ps_ret (pe_tup (pa_cons (pe_tup (pa_cons (pe_callTy call_tuple_of rfl m_tuple boot_tuple (pa_cons (pe_ix ix_list (pv 8) pe_int (fun _ _=>rfl)) pa_nil)) (pa_cons (pe_callTy call_tuple_of rfl m_tuple boot_tuple (pa_cons (pe_ix ix_list (pv 8) pe_int (fun _ _=>rfl)) pa_nil)) (pa_cons (pv 14) (pa_cons (pe_callTy call_tuple_of rfl m_tuple boot_tuple (pa_cons (pe_callB (call_sortedDB hr.units) rfl m_sorted boot_sorted (pa_cons (pv 7) pa_nil)) pa_nil)) pa_nil))))) (pa_cons (pv 9) pa_nil))))⟩)))))))))))),?_⟩
  have al0:Al b lb H H []:=⟨by
    obtain ⟨_,_,_,_,hn,_⟩:=hp
    simp [hn],(fun x hx=>nomatch hx),(fun x hx=>nomatch hx),hp,Old.refl _ _ _⟩
  refine ⟨smn 2,fun lt hlt=>?_⟩
  have st:=same_new hlt (.lst [.int 8,.int 13])
  have et:(upd H lt (.lst [.int 8,.int 13])) lt=some (.lst [.int 8,.int 13]):=upd_same
  have nt:=hp.ne hlt
  have pt:=hp.same st
  generalize upd H lt (.lst [.int 8,.int 13])=Ht at st et pt ⊢
  refine ⟨_,rfl,b,lb,8,rfl,pt,by decide,by decide,fun r1 H1 p1 o1 a1 b1=>⟨rfl,.inr ⟨_,rfl,?_⟩⟩⟩
  obtain ⟨mo,hmo,m0,m1⟩:∃ mo:Int,atI [V.int 8,V.int 13] (if decide (V.int r1=V.int 7)=true then 1 else 0)=some (.int mo)∧0 < mo∧mo≤13:=by
    split
    · exact ⟨13,atI_nat (xs:=[V.int 8,V.int 13]) (j:=1) rfl,by decide,by decide⟩
    · exact ⟨8,atI_zero _ _,by decide,by decide⟩
  refine ⟨lt,_,_,_,rfl,rfl,SqL.of (o1 _ _ et nt.1 nt.2),hmo,gN ?_⟩
  have o01:=(Old.of st).trans o1
  clear et nt pt st hlt hmo
  refine ⟨_,rfl,b,lb,3,rfl,p1,by decide,by decide,fun r2 H2 p2 o2 a2 b2=>⟨rfl,gN ?_⟩⟩
  refine ⟨_,rfl,_,rfl,b,lb,mo,rfl,p2,m0,by omega,fun r3 H3 p3 o3 a3 b3=>⟨_,rfl,_,rfl,b,lb,mo,rfl,p3,m0,by omega,fun r4 H4 p4 o4 a4 b4=>⟨smn 2,fun lm hlm=>gN ?_⟩⟩⟩
  obtain ⟨n3,hn3⟩:=Int.eq_ofNat_of_zero_le a3
  obtain ⟨n4,hn4⟩:=Int.eq_ofNat_of_zero_le a4
  have o04:=((o01.trans o2).trans o3).trans o4
  have sm:=same_new hlm (.lst [.int r3,.int r4])
  have em:(upd H4 lm (.lst [.int r3,.int r4])) lm=some (.lst ([r3,r4].map V.int)):=upd_same
  have nm:=p4.ne hlm
  have pm:=p4.same sm
  generalize upd H4 lm (.lst [.int r3,.int r4])=H5 at sm em pm ⊢
  have o05:=o04.trans (.of sm)
  refine ⟨_,rfl,_,rfl,lm,_,rfl,SqL.of em,b,lb,n3+n4,congrArg (fun z=>[V.ref b,V.int z]) (by simp; omega),pm,by omega,fun ln ns H6 e6 hnl hnd hns h6n p6 o6=>gN ?_⟩
  have o06:=o05.trans o6
  have em6:=o6 _ _ em nm.1 nm.2
  have h6:=o05.none pm h6n
  have at3:atI ([r3,r4].map V.int) 0=some (.int r3):=atI_zero _ _
  have al6:Al b lb H H6 []:=⟨al0.nd,(fun x hx=>nomatch hx),(fun x hx=>nomatch hx),p6,o06⟩
  clear al0 o01 o2 o3 o4 o04 o05 o6 sm p1 p2 p3 p4 pm hlm
  have hr3:r3.toNat=n3:=by omega
  refine ⟨_,rfl,_,rfl,lm,_,_,_,rfl,rfl,SqL.of em6,at3,_,rfl,ln,_,rfl,SqL.of e6,fun a2 h2=>?_⟩
  have c2:cutV (ns.map mkT) none (some r3)=(ns.take n3).map mkT:=by
    rw [hn3]
    exact (cut_upto _ (by rw [List.length_map]; omega)).trans (by rw [List.map_take])
  rw [c2]
  have A2:=al6.new h2 (.lst ((ns.take n3).map mkT))
  have s2:=same_new h2 (.lst ((ns.take n3).map mkT))
  have e2:(upd H6 a2 (.lst ((ns.take n3).map mkT))) a2=some (.lst ((ns.take n3).map mkT)):=upd_same
  generalize upd H6 a2 (.lst ((ns.take n3).map mkT))=H7 at A2 s2 e2 ⊢
  refine ⟨_,rfl,_,rfl,lm,_,_,_,rfl,rfl,SqL.of (s2 _ _ em6),at3,_,rfl,ln,_,rfl,SqL.of (s2 _ _ e6),fun a3 h3=>?_⟩
  have c3:cutV (ns.map mkT) (some r3) none=(ns.drop n3).map mkT:=by
    rw [hn3]
    exact (cut_from _ (by rw [List.length_map]; omega)).trans (by rw [List.map_drop])
  rw [c3]
  have A3:=A2.new h3 (.lst ((ns.drop n3).map mkT))
  have s3:=same_new h3 (.lst ((ns.drop n3).map mkT))
  have e3:(upd H7 a3 (.lst ((ns.drop n3).map mkT))) a3=some (.lst ((ns.drop n3).map mkT)):=upd_same
  replace e2:=s3 _ _ e2
  generalize upd H7 a3 (.lst ((ns.drop n3).map mkT))=H8 at A3 s3 e2 e3 ⊢
  refine ⟨smn 2,fun a4 h4=>gN ?_⟩
  have A4:=A3.new h4 (.lst [.ref a2,.ref a3])
  have s4:=same_new h4 (.lst [.ref a2,.ref a3])
  have e4:(upd H8 a4 (.lst [.ref a2,.ref a3])) a4=some (.lst [.ref a2,.ref a3]):=upd_same
  replace e2:=s4 _ _ e2
  replace e3:=s4 _ _ e3
  generalize upd H8 a4 (.lst [.ref a2,.ref a3])=H9 at A4 s4 e2 e3 e4 ⊢
  clear A2 A3 s2 s3 s4 h2 h3 h4 em6 e6 c2 c3 al6
  refine ⟨smn 0,fun a5 h5=>⟨smn 0,fun a6 h6'=>⟨smn 2,fun a7 h7=>gN ⟨smn 0,fun a8 h8=>gN ⟨smn 0,fun a9 h9=>⟨smn 0,fun aa ha=>⟨smn 2,fun ab hb=>gN fun ac hc=>gN ?_⟩⟩⟩⟩⟩⟩⟩
  have A5:=A4.new h5 (.lst [])
  have A6:=A5.new h6' (.lst [])
  have A7:=A6.new h7 (.lst [.ref a5,.ref a6])
  have A8:=A7.new h8 (.lst [])
  have A9:=A8.new h9 (.lst [])
  have Aa:=A9.new ha (.lst [])
  have Ab:=Aa.new hb (.lst [.ref a9,.ref aa])
  have Ac:=Ab.new hc (.dK [])
  clear A4 A5 A6 A7 A8 A9 Aa Ab
  have s5:=same_new h5 (.lst [])
  have s6:=same_new h6' (.lst [])
  have s7:=same_new h7 (.lst [.ref a5,.ref a6])
  have s8:=same_new h8 (.lst [])
  have s9:=same_new h9 (.lst [])
  have sa:=same_new ha (.lst [])
  have sb:=same_new hb (.lst [.ref a9,.ref aa])
  have sc:=same_new hc (.dK [])
  have s9c:=((s9.trans sa).trans sb).trans sc
  have s8c:=s8.trans s9c
  have s5c:=((s5.trans s6).trans s7).trans s8c
  have f2:=s5c _ _ e2
  have f3:=s5c _ _ e3
  have f4:=s5c _ _ e4
  have f5:=(((s6.trans s7).trans s8c)) a5 _ upd_same
  have f6:=(s7.trans s8c) a6 _ upd_same
  have f7:=s8c a7 _ upd_same
  have f8:=s9c a8 _ upd_same
  have f9:=((sa.trans sb).trans sc) a9 _ upd_same
  have fa:=(sb.trans sc) aa _ upd_same
  have fb:=sc ab _ upd_same
  have fc:(upd (upd (upd (upd (upd (upd (upd (upd H9 a5 (.lst [])) a6 (.lst [])) a7 (.lst [.ref a5,.ref a6])) a8 (.lst [])) a9 (.lst [])) aa (.lst [])) ab (.lst [.ref a9,.ref aa])) ac (.dK [])) ac=some (.dK []):=upd_same
  generalize upd (upd (upd (upd (upd (upd (upd (upd H9 a5 (.lst [])) a6 (.lst [])) a7 (.lst [.ref a5,.ref a6])) a8 (.lst [])) a9 (.lst [])) aa (.lst [])) ab (.lst [.ref a9,.ref aa])) ac (.dK [])=Hc at Ac f2 f3 f4 f5 f6 f7 f8 f9 fa fb fc ⊢
  clear s5 s6 s7 s8 s9 sa sb sc s9c s8c s5c h5 h6' h7 h8 h9 ha hb hc e2 e3 e4
  obtain ⟨A,hA⟩:∃ A:Nat→Addr,A=fun i=>[b,lb,a2,a3,a4,a5,a6,a7,a8,a9,aa,ab,ac].getD i 0:=⟨_,rfl⟩
  obtain ⟨X,hX⟩:∃ X:Nat→Nms,X=fun s=>if s=0 then ns.take n3 else ns.drop n3:=⟨_,rfl⟩
  have hX0:X 0=ns.take n3:=by rw [hX]; rfl
  have hX1:X 1=ns.drop n3:=by rw [hX]; rfl
  have hXn:(X 0++X 1).Nodup:=by rw [hX0,hX1,List.take_append_drop]; exact hnd
  have hXl:∀ t,t < 2→(X t).length≤12:=fun t ht=>by
    match t,ht with
    | 0,_=>rw [hX0,List.length_take]; omega
    | 1,_=>rw [hX1,List.length_drop]; omega
  have hXs:∀ t,t < 2→∀ x∈X t,x.length≤8:=fun t ht x hx=>by
    match t,ht with
    | 0,_=>rw [hX0] at hx; exact hns x (List.mem_of_mem_take hx)
    | 1,_=>rw [hX1] at hx; exact hns x (List.mem_of_mem_drop hx)
  have bi0:BI A H Hc X (fun _=>[]) [] (fun _=>[]) []:=by
    subst hA
    refine ⟨inj_of Ac.nd rfl,fun i h1 h2=>?_,Ac.dr,Ac.old,f4,f7,fb,f8,fun s hs=>?_,fun s hs=>?_,fun s hs=>?_,⟨[],fc,Nat.zero_le _,fun q hq=>nomatch hq⟩⟩
    · obtain ⟨j,rfl⟩:∃ j,i=j+2:=⟨i - 2,by omega⟩
      show H ([a2,a3,a4,a5,a6,a7,a8,a9,aa,ab,ac].getD j 0)=none
      have hj:j < [a2,a3,a4,a5,a6,a7,a8,a9,aa,ab,ac].length:=by show j < 11; omega
      rw [List.getD_eq_getElem?_getD,ex_at hj]
      exact Ac.fr _ (List.getElem_mem hj)
    · match s,hs with
      | 0,_=>rw [hX0]; exact f2
      | 1,_=>rw [hX1]; exact f3
    · match s,hs with
      | 0,_=>exact f5
      | 1,_=>exact f6
    · match s,hs with
      | 0,_=>exact ⟨[],f9,trivial⟩
      | 1,_=>exact ⟨[],fa,trivial⟩
  have gi0:GI X (fun _=>[]) [] (fun _=>[]) [] (upTo X 0):=⟨fun t _=>rfl,(fun q hq=>nomatch hq),(fun t _ p hp=>nomatch hp),Nat.zero_le _,fun t _=>⟨Nat.zero_le _,fun x hx=>nomatch hx⟩,⟨Nat.zero_le _,fun x hx=>nomatch hx⟩,fun t _ p hp=>nomatch hp⟩
  clear Ac f2 f3 f4 f5 f6 f7 f8 f9 fa fb fc
  have hb0:b=A 0:=by rw [hA]; rfl
  have hb1:lb=A 1:=by rw [hA]; rfl
  have hb4:a4=A 4:=by rw [hA]; rfl
  have hb7:a7=A 7:=by rw [hA]; rfl
  have hb8:a8=A 8:=by rw [hA]; rfl
  have hbb:ab=A 11:=by rw [hA]; rfl
  have hbc:ac=A 12:=by rw [hA]; rfl
  clear hA hX hX0 hX1 at3 hns hnd
  refine ⟨2,rfl,by decide,by decide,?_⟩
  refine for_range (lo:=0) (n:=2) (fun s σ H1=>∃ (v10 v11 v12 v13:Option V) (Kn:Nat→Nms) (al:Nms) (L:Nat→List Prt) (N:List (List Nat × List Nat)),σ=[some (.ref (A 0)),some (.int mo),some (.bl (decide (V.int r2=V.int 0))),some (.ref lm),some (.ref ln),some (.ref (A 4)),some (.ref (A 7)),some (.ref (A 8)),some (.ref (A 11)),some (.ref (A 12)),v10,v11,v12,v13,none]∧BI A H H1 X Kn al L N∧GI X Kn al L N (upTo X s)) ⟨none,none,none,none,_,_,_,_,by rw [← hb0,← hb4,← hb7,← hb8,← hbb,← hbc]; rfl,bi0,gi0⟩ ?_ ?_
  · rintro s σ H1 hs2 ⟨v10,v11,v12,v13,Kn,al,L,N,rfl,bi1,gi1⟩
    rw [show (0:Int)+(s:Nat)=(s:Nat) by omega]
    have hats:∀ u v:V,∀ f:Nat→V,u=f 0→v=f 1→atI [u,v] ((s:Nat):Int)=some (f s):=fun u v f hu hv=>by
      match s,hs2 with
      | 0,_=>rw [← hu]; exact atI_zero _ _
      | 1,_=>rw [← hv]; exact atI_nat (xs:=[u,v]) (j:=1) rfl
    have hat2:=hats (.ref (A 2)) (.ref (A 3)) (fun s=>.ref (A (2+s))) rfl rfl
    have hat5:=hats (.ref (A 5)) (.ref (A 6)) (fun s=>.ref (A (5+s))) rfl rfl
    have hat9:=hats (.ref (A 9)) (.ref (A 10)) (fun s=>.ref (A (9+s))) rfl rfl
    rw [upTo_two] at gi1
    refine gN ⟨_,rfl,_,rfl,A 4,_,_,_,rfl,rfl,SqL.of bi1.esd,hat2,A (2+s),rfl,⟨_,SqL.of (bi1.es s hs2)⟩,?_⟩
    refine for_list (K:=K) (a:=A (2+s)) (xs:=(X s).map mkT) (fun i σ H2=>∃ (v11 v12 v13:Option V) (Kn:Nat→Nms) (al:Nms) (L:Nat→List Prt) (N:List (List Nat × List Nat)),σ=[some (.ref (A 0)),some (.int mo),some (.bl (decide (V.int r2=V.int 0))),some (.ref lm),some (.ref ln),some (.ref (A 4)),some (.ref (A 7)),some (.ref (A 8)),some (.ref (A 11)),some (.ref (A 12)),some (.int (s:Nat)),v11,v12,v13,none]∧BI A H H2 X Kn al L N∧GI X Kn al L N (two X s i)) ⟨_,_,_,_,_,_,_,rfl,bi1,gi1⟩ ?_ ?_ ?_
    · rintro i σ H2 _ ⟨_,_,_,_,_,_,_,_,bi2,_⟩
      exact SqL.of (bi2.es s hs2)
    · clear bi1 gi1 Kn al L N v11 v12 v13
      rintro i y σ H2 hi ⟨v11,v12,v13,Kn,al,L,N,rfl,bi2,gi2⟩
      have hin:i < (X s).length:=by
        have:=(List.getElem?_eq_some_iff.mp hi).1
        rwa [List.length_map] at this
      have hxi:(X s)[two X s i s]?=some (X s)[i]:=by rw [two_self]; exact ex_at hin
      rw [at_T hin] at hi
      have ey:mkT (X s)[i]=y:=Option.some.inj hi
      subst ey
      have hxm:(X s)[i]∈X s:=List.getElem_mem hin
      have hx8:=hXs s hs2 _ hxm
      have hfr:=gi2.fresh hXn hs2 hxi
      generalize (X s)[i]=x at hxi hxm hx8 hfr
      have hal:=gi2.af.1
      have hkn:=(gi2.kf s hs2).1
      have hNl:=gi2.nl
      have hxl:=hXl s hs2
      have hn24:two X s i 0+two X s i 1≤24:=by
        unfold two
        have a:=hXl 0 (by decide)
        have b:=hXl 1 (by decide)
        split <;> split <;> (try split) <;> (try split) <;> omega
      have hLl:(L s).length≤12:=by
        have:=congrArg List.length (gi2.lf s hs2)
        rw [List.length_map,List.length_take] at this
        omega
      refine gN ⟨_,rfl,smn 4,fun w0 hw0=>⟨smn 4,fun w1 hw1=>⟨smn 2,fun w2 hw2=>⟨_,rfl,?_⟩⟩⟩⟩
      have s0:=same_new hw0 (.lst [.str "ka",.str "lo",.str "mi7",.str "x"])
      have s1:=same_new hw1 (.lst [.str "aur",.str "ka",.str "sol",.str "9"])
      have s2:=same_new hw2 (.lst [.ref w0,.ref w1])
      have n0:=bi2.dr.ne hw0
      have n1:=(bi2.dr.same s0).ne hw1
      have g0:=(s1.trans s2) w0 _ upd_same
      have g1:=s2 w1 _ upd_same
      have g2:(upd (upd (upd H2 w0 (.lst [.str "ka",.str "lo",.str "mi7",.str "x"])) w1 (.lst [.str "aur",.str "ka",.str "sol",.str "9"])) w2 (.lst [.ref w0,.ref w1])) w2=some (.lst [.ref w0,.ref w1]):=upd_same
      have bi3:=bi2.same ((s0.trans s1).trans s2)
      generalize upd (upd (upd H2 w0 (.lst [.str "ka",.str "lo",.str "mi7",.str "x"])) w1 (.lst [.str "aur",.str "ka",.str "sol",.str "9"])) w2 (.lst [.ref w0,.ref w1])=H3 at g0 g1 g2 bi3 ⊢
      rw [left_v] at g0
      rw [right_v] at g1
      obtain ⟨wS,wo,hatw,gS,nS,hwo,hw4⟩:∃ (wS:Addr) (wo:Nms),atI [V.ref w0,V.ref w1] ((s:Nat):Int)=some (.ref wS)∧H3 wS=some (.lst (wo.map mkT))∧(wS≠A 0∧wS≠A 1)∧(∀ x∈wo,WOk x)∧wo.length=4:=by
        match s,hs2 with
        | 0,_=>exact ⟨w0,leftW,atI_zero _ _,g0,n0,fun x hx=>wok (List.mem_append_left _ hx),rfl⟩
        | 1,_=>exact ⟨w1,rightW,atI_nat (xs:=[V.ref w0,V.ref w1]) (j:=1) rfl,g1,n1,fun x hx=>wok (List.mem_append_right _ hx),rfl⟩
      clear s0 s1 s2 n0 n1 g0 g1 hw0 hw1 hw2 bi2
      refine ⟨w2,_,_,_,rfl,rfl,SqL.of g2,hatw,A 0,A 1,wS,wo,rfl,bi3.dr,gS,nS.1,nS.2,hwo,by omega,by omega,fun q l tx so H4 eq el hl ht hso p4 o4=>?_⟩
      have bi4:=bi3.call p4 o4
      have hln:∀ i,i < 13→l≠A i:=fun i hi z=>by
        obtain ⟨o,e⟩:=bi3.some i hi
        rw [← z,hl] at e
        cases e
      have el':H4 l=some (.lst ((coresL [sOf tx]).map V.str)):=by
        rw [ht.cores,List.map_map]
        exact el
      obtain ⟨kvs,w1',w2',_⟩:=bi4.wd
      have htl:tx.length≤1000:=by have:=ht.l; omega
      refine ⟨q,_,rfl,SqT.of eq,rfl,_,_,rfl,_,_,rfl,_,rfl,_,rfl,A 12,_,rfl,DPut.k (k:=nkey x) w1' (small1000 (by omega)),rfl,?_⟩
      have bi5:=bi4.put w1' hfr el' hln
      generalize upd H4 (A 12) (.dK (putK kvs (nkey x) (.ref l)))=H5 at bi5 ⊢
      clear bi4 bi3 g2 gS hatw nS hwo hw4 w1' w2' el el' hl hln p4 o4 eq
      obtain ⟨u5,e5,d5⟩:=bi5.eps s hs2
      refine ⟨_,rfl,_,rfl,A 11,_,_,_,rfl,rfl,SqL.of bi5.ep,hat9,.inl ⟨rfl,_,SqL.of e5⟩,_,rfl,_,rfl,_,rfl,A 0,A 1,1,rfl,bi5.dr,by decide,fun qm ms H6 em hm p6 o6=>⟨smn 3,fun t ht7=>?_⟩⟩
      have s7:=same_new ht7 (.tup [mkT x,mkT tx,.ref qm])
      have bi7:=(bi5.call p6 o6).same s7
      have hp7:Den (upd H6 t (.tup [mkT x,mkT tx,.ref qm])) (.ref t) (partD (x,tx,ms)):=⟨t,_,rfl,upd_same,rfl,rfl,⟨qm,_,rfl,s7 _ _ em,denI_of _ _⟩,trivial⟩
      generalize upd H6 t (.tup [mkT x,mkT tx,.ref qm])=H7 at s7 bi7 hp7 ⊢
      obtain ⟨u7,e7,d7⟩:=bi7.eps s hs2
      have hu7:=d7.len
      rw [List.length_map] at hu7
      refine ⟨A (9+s),u7,_,rfl,rfl,e7,small1000 (by omega),?_⟩
      have bi8:=bi7.prt hs2 e7 hp7
      have gi8:=gi2.step hs2 hxi hm htl
      generalize upd H7 (A (9+s)) (.lst (u7++[.ref t]))=H8 at bi8 ⊢
      generalize (fun t=>if t=s then L s++[(x,tx,ms)] else L t)=L8 at bi8 gi8
      clear bi7 bi5 e7 d7 hu7 hp7 s7 em e5 d5 p6 o6 hLl
      refine ⟨_,rfl,A 0,A 1,7,rfl,bi8.dr,by decide,by decide,fun r9 H9 p9 o9 a9 b9=>gN ?_⟩
      have bi9:=bi8.call p9 o9
      clear bi8 p9 o9
      refine ⟨_,rfl,rfl,_,rfl,?_⟩
      refine ite2 (fun z=>?ta) (fun z=>?tb)
      case' ta =>
        refine ⟨_,rfl,.inl ⟨rfl,_,SqL.of bi9.ea⟩,_,rfl,A 8,_,_,rfl,rfl,bi9.ea,small1000 (by rw [List.length_map]; omega),?_⟩
        have bi10:=bi9.aln x
        have gi10:=GI.aln hs2 gi8 hal hxm
        generalize upd H9 (A 8) (.lst (al.map mkT++[mkT x]))=H10 at bi10 ⊢
        generalize al++[x]=al10 at bi10 gi10
      case' tb =>
        have bi10:=bi9
        have gi10:=gi8
        generalize H9=H10 at bi10 ⊢
        generalize al=al10 at bi10 gi10
      all_goals
        clear z bi9 gi8
        refine ⟨_,rfl,smn 3,fun tt htt=>⟨tt,_,rfl,.inr (SqT.of upd_same),rfl,rfl,_,rfl,?_⟩⟩
        have bi11:=bi10.same (same_new htt (.tup [.int 3,.int 4,.int 5]))
        generalize upd H10 tt (.tup [.int 3,.int 4,.int 5])=H11 at bi11 ⊢
        have skip:∃ (v11 v12 v13:Option V) (Kn:Nat→Nms) (al:Nms) (L:Nat→List Prt) (N:List (List Nat × List Nat)),[some (V.ref (A 0)),some (.int mo),some (.bl (decide (V.int r2=V.int 0))),some (.ref lm),some (.ref ln),some (.ref (A 4)),some (.ref (A 7)),some (.ref (A 8)),some (.ref (A 11)),some (.ref (A 12)),some (.int (s:Nat)),some (mkT x),some (mkT tx),some (.int r9),none]=[some (V.ref (A 0)),some (.int mo),some (.bl (decide (V.int r2=V.int 0))),some (.ref lm),some (.ref ln),some (.ref (A 4)),some (.ref (A 7)),some (.ref (A 8)),some (.ref (A 11)),some (.ref (A 12)),some (.int (s:Nat)),v11,v12,v13,none]∧BI A H H11 X Kn al L N∧GI X Kn al L N (two X s (i+1)):=⟨_,_,_,Kn,al10,L8,_,rfl,bi11,by rw [← two_nx]; exact gi10⟩
        refine ite2 (fun z2=>?_) (fun z2=>?_)
        · refine ⟨_,rfl,_,rfl,?_⟩
          refine ite2 (fun z3=>?_) (fun z3=>?_)
          · refine ⟨_,rfl,_,rfl,A 7,_,_,_,rfl,rfl,SqL.of bi11.ek,hat5,.inl ⟨rfl,_,SqL.of (bi11.eks s hs2)⟩,_,rfl,A (5+s),_,_,rfl,rfl,bi11.eks s hs2,small1000 (by rw [List.length_map,two_self] at *; omega),?_⟩
            have hkn':(Kn s).length≤two X s i s:=hkn
            exact ⟨_,_,_,_,al10,L8,_,rfl,bi11.lnk hs2 x,by rw [← two_nx]; exact GI.lnk gi10 hkn' hxm⟩
          · exact skip
        · exact skip
    · rintro σ H2 ⟨v11,v12,v13,Kn,al,L,N,rfl,bi2,gi2⟩
      rw [List.length_map,two_upTo] at gi2
      exact ⟨_,_,_,_,_,_,_,_,rfl,bi2,gi2⟩
  · rintro σ H1 ⟨v10,v11,v12,v13,Kn,al,L,N,rfl,bi1,gi1⟩
    have a0:∀ u v:V,atI [u,v] 0=some u:=fun u v=>atI_zero _ _
    have a1:∀ u v:V,atI [u,v] 1=some v:=fun u v=>atI_nat (xs:=[u,v]) (j:=1) rfl
    have k0:=gi1.kf 0 (by decide)
    have k1:=gi1.kf 1 (by decide)
    have k0l:(Kn 0).length≤(X 0).length:=k0.1
    have k1l:(Kn 1).length≤(X 1).length:=k1.1
    have x0:=hXl 0 (by decide)
    have x1:=hXl 1 (by decide)
    refine ⟨_,rfl,_,rfl,A 7,_,_,_,rfl,rfl,SqL.of bi1.ek,a0 _ _,_,rfl,A 7,_,_,_,rfl,rfl,SqL.of bi1.ek,a1 _ _,A 0,A 1,A 5,A 6,Kn 0,Kn 1,rfl,bi1.dr,bi1.eks 0 (by decide),bi1.eks 1 (by decide),bi1.ne (by decide) (by decide) (by decide),bi1.ne (by decide) (by decide) (by decide),bi1.ne (by decide) (by decide) (by decide),bi1.ne (by decide) (by decide) (by decide),by omega,by omega,fun q2 ks H2 d2 hk8 hks p2 o2=>gN ?_⟩
    have bi2:=bi1.call p2 o2
    clear bi1 o2 p2
    obtain ⟨u0,e0,d0⟩:=bi2.eps 0 (by decide)
    obtain ⟨u1,e1,d1⟩:=bi2.eps 1 (by decide)
    refine ⟨_,rfl,A 11,_,_,_,rfl,rfl,SqL.of bi2.ep,a0 _ _,A 9,_,rfl,.inl ⟨SqL.of e0,fun q3 hq3=>?_⟩⟩
    have s3:=same_new hq3 (.tup u0)
    have e3:(upd H2 q3 (.tup u0)) q3=some (.tup u0):=upd_same
    have bi3:=bi2.same s3
    generalize upd H2 q3 (.tup u0)=H3 at s3 e3 bi3 ⊢
    refine ⟨_,rfl,A 11,_,_,_,rfl,rfl,SqL.of bi3.ep,a1 _ _,A 10,_,rfl,.inl ⟨SqL.of (s3 _ _ e1),fun q4 hq4=>?_⟩⟩
    have s4:=same_new hq4 (.tup u1)
    have e4:(upd H3 q4 (.tup u1)) q4=some (.tup u1):=upd_same
    have bi4:=bi3.same s4
    generalize upd H3 q4 (.tup u1)=H4 at s4 e4 bi4 ⊢
    have hal:=gi1.af.1
    have hal24:al.length≤24:=Nat.le_trans hal (by show (X 0).length+(X 1).length≤24; omega)
    refine ⟨_,rfl,_,rfl,A 8,_,_,rfl,.inl (SqL.of bi4.ea),denS_of _ _,hom_names _,by rw [List.length_map]; omega,fun x hx=>?_,fun l5 us5 ds5 hl5 pm5 up5 dn5=>?_⟩
    · obtain ⟨y,_,rfl⟩:=List.mem_map.mp hx
      exact show Shal 50 _ from shal_ups (n:=0) (shal_str _) 50
    obtain ⟨al5,pal,rfl⟩:=perm_map_inv pm5 rfl
    have s5:=same_new hl5 (.lst us5)
    refine ⟨l5,_,rfl,.inl ⟨SqL.of upd_same,fun q6 hq6=>?_⟩⟩
    have s6:=s5.trans (same_new hq6 (.tup us5))
    have e6:(upd (upd H4 l5 (.lst us5)) q6 (.tup us5)) q6=some (.tup us5):=upd_same
    have d6:=dn5.same s6
    generalize upd (upd H4 l5 (.lst us5)) q6 (.tup us5)=H6 at s6 e6 d6 ⊢
    refine ⟨smn 4,fun qb hqb=>⟨_,rfl,smn 2,fun q hq=>?_⟩⟩
    have s7:=same_new hqb (.tup [.ref q3,.ref q4,.ref q2,.ref q6])
    have e7:(upd H6 qb (.tup [.ref q3,.ref q4,.ref q2,.ref q6])) qb=some (.tup [.ref q3,.ref q4,.ref q2,.ref q6]):=upd_same
    generalize upd H6 qb (.tup [.ref q3,.ref q4,.ref q2,.ref q6])=H7 at s7 e7 hq ⊢
    have s8:=same_new hq (.tup [.ref qb,.ref (A 12)])
    have s48:=(s6.trans s7).trans s8
    have s38:=s4.trans s48
    have s28:=s3.trans s38
    have bi8:=bi4.same s48
    have vb:=vb_of gi1 hXn x0 x1 hks pal
    have hb0':=hb0
    subst hb0' hb1
    refine kk q qb (A 12) (L 0) (L 1) ks al5 _ upd_same ⟨⟨qb,_,rfl,s8 _ _ e7,⟨q3,u0,rfl,s38 _ _ e3,d0.same s28⟩,⟨q4,u1,rfl,s48 _ _ e4,d1.same s28⟩,d2.same s28,⟨q6,us5,rfl,(s7.trans s8) _ _ e6,d6.same (s7.trans s8)⟩,trivial⟩,vb,fun p hp=>?_,by rw [pal.length_eq]; exact hal24,hk8⟩ ⟨⟨bi8.ne (by decide) (by decide) (by decide),bi8.ne (by decide) (by decide) (by decide)⟩,?_⟩ bi8.dr
    · have hx:∃ t,t < 2∧p∈L t:=by
        rcases List.mem_append.mp hp with z | z
        · exact ⟨0,by decide,z⟩
        · exact ⟨1,by decide,z⟩
      obtain ⟨t,ht,hpt⟩:=hx
      have hm:p.1∈(L t).map (·.1):=List.mem_map_of_mem hpt
      rw [gi1.lf t ht] at hm
      have:=hXs t ht _ (List.mem_of_mem_take hm)
      exact ⟨by omega,(gi1.pf t ht p hpt).2⟩
    · obtain ⟨kvs,w1,w2,w3⟩:=bi8.wd
      refine ⟨kvs,w1,fun p hp=>?_⟩
      have hx:∃ t,t < 2∧p∈L t:=by
        rcases List.mem_append.mp hp with z | z
        · exact ⟨0,by decide,z⟩
        · exact ⟨1,by decide,z⟩
      obtain ⟨t,ht,hpt⟩:=hx
      obtain ⟨l,v1,v2,v3⟩:=w3 _ (gi1.ln t ht p hpt)
      exact ⟨l,v1,v2,v3 0 (by decide),v3 1 (by decide)⟩
end
theorem PrT.keepT {H H':Hp} {us:List V} {ps:List (Str × Str)} (h:PrT H us ps) (e:∀ (b:Addr) (vs:List V),H b=some (.tup vs)→H' b=some (.tup vs)):PrT H' us ps:=⟨h.1,fun i u p a b=>by
  obtain ⟨q,e1,e2⟩:=h.2 i u p a b
  exact ⟨q,e1,e _ _ e2⟩⟩
theorem PrT.snoc {H:Hp} {us:List V} {ps:List (Str × Str)} {t:Addr} {p:Str × Str} (h:PrT H us ps) (ht:H t=some (.tup [.str p.1,.str p.2])):PrT H (us++[.ref t]) (ps++[p]):=by
  refine ⟨by rw [List.length_append,List.length_append,h.1]; rfl,fun i u q hu hq=>?_⟩
  by_cases hi:i < us.length
  · rw [List.getElem?_append_left hi] at hu
    rw [List.getElem?_append_left (by rw [← h.1]; exact hi)] at hq
    exact h.2 i u q hu hq
  · have hi2:i=us.length:=by
      have:=(List.getElem?_eq_some_iff.mp hu).1
      rw [List.length_append,List.length_singleton] at this
      omega
    subst hi2
    rw [List.getElem?_append_right (Nat.le_refl _),Nat.sub_self] at hu
    rw [h.1,List.getElem?_append_right (Nat.le_refl _),Nat.sub_self] at hq
    have e1:u=.ref t:=(Option.some.inj hu).symm
    have e2:q=p:=(Option.some.inj hq).symm
    subst e2
    exact ⟨t,e1,ht⟩
def spKnown:Sp:=fun vs H Q _=>∃ (b lb:Addr),vs=[.ref b]∧DrAt b lb H∧∀ (q:Addr) (us:List V) (ps:List (Str × Str)) (H':Hp),H' q=some (.tup us)→us.length≤100→PrT H' us ps→DrAt b lb H'→Old b lb H H'→Q (.ref q) H'
def takenN (ks:List Lnk) (al:Nms):Nms:=al++ks.flatMap fun k=>k.1++k.2.1
theorem pst_notlack (ps:List Prt) (k:Lnk) (s:Nat):isLack (pst ps k s)=false:=by
  unfold pst
  cases later k.2.2.1 (seenP ps k (1 - s)) <;> rfl
theorem fold_lack (ps:List Prt) (y:List Nat):∀ (ks:List Lnk) (f:List Nat→Stt),isLack (ks.foldl (afterLink ps) f y)=(isLack (f y) && decide (y ∉ ks.flatMap fun k=>k.1++k.2.1))
  | [],f=>by simp
  | k :: ks,f=>by
    rw [List.foldl_cons,fold_lack ps y ks,List.flatMap_cons]
    have e:isLack (afterLink ps f k y)=(isLack (f y) && decide (y ∉ k.1++k.2.1)):=by
      unfold afterLink setAll
      by_cases h2:y∈k.2.1
      · rw [if_pos h2,pst_notlack,decide_eq_false (fun z=>z (List.mem_append_right _ h2)),Bool.and_false]
      · rw [if_neg h2]
        by_cases h1:y∈k.1
        · rw [if_pos h1,pst_notlack,decide_eq_false (fun z=>z (List.mem_append_left _ h1)),Bool.and_false]
        · have hn:y ∉ k.1++k.2.1:=fun z=>(List.mem_append.mp z).elim h1 h2
          rw [if_neg h1,decide_eq_true hn,Bool.and_true]
    rw [e,Bool.and_assoc]
    congr 1
    rw [Bool.eq_iff_iff,Bool.and_eq_true_iff,decide_eq_true_eq,decide_eq_true_eq,decide_eq_true_eq,List.mem_append (s:=k.1++k.2.1)]
    exact ⟨fun ⟨a,b⟩ z=>z.elim a b,fun z=>⟨fun a=>z (.inl a),fun a=>z (.inr a)⟩⟩
theorem lack_taken (ps:List Prt) (ks:List Lnk) (al:Nms) (y:List Nat):isLack (final ps ks al y)=decide (y ∉ takenN ks al):=by
  unfold final takenN
  rw [fold_lack]
  unfold setAll
  by_cases h:y∈al
  · have hn:¬ y ∉ al++ks.flatMap fun k=>k.1++k.2.1:=fun z=>z (List.mem_append_left _ h)
    rw [if_pos h,decide_eq_false hn]
    rfl
  · rw [if_neg h]
    show (true && _)=_
    rw [Bool.true_and,Bool.eq_iff_iff,decide_eq_true_eq,decide_eq_true_eq,List.mem_append]
    exact ⟨fun a z=>z.elim h a,fun z a=>z (.inr a)⟩
def freeN (tk:Nms) (ps:List Prt):Nms:=(ps.filter fun p=>decide (p.1 ∉ tk)).map (·.1)
theorem lackOf_free (L R:List Prt) (ks:List Lnk) (al:Nms) (ps:List Prt):lackOf L R ks al ps=freeN (takenN ks al) ps:=by
  unfold lackOf lackN freeN
  congr 1
  exact List.filter_congr fun p _=>lack_taken _ _ _ _
theorem freeN_snoc {tk:Nms} {ps:List Prt} {i:Nat} (hi:i < ps.length):freeN tk (ps.take (i+1))=freeN tk (ps.take i)++if ps[i].1 ∉ tk then [ps[i].1] else []:=by
  unfold freeN
  rw [take_one (ex_at hi),List.filter_append,List.map_append]
  congr 1
  by_cases h:ps[i].1 ∉ tk
  · rw [if_pos h,List.filter_cons_of_pos (by simpa using h)]
    rfl
  · rw [if_neg h,List.filter_cons_of_neg (by simpa using h)]
    rfl
theorem freeN_len (tk:Nms) (ps:List Prt):(freeN tk ps).length≤ps.length:=by
  unfold freeN
  rw [List.length_map]
  exact List.length_filter_le _ _
theorem taken_len {ks:List Lnk} (h:∀ k∈ks,k.1.length≤13∧k.2.1.length≤13):(ks.flatMap fun k=>k.1++k.2.1).length≤26 * ks.length:=by
  induction ks with
  | nil=>exact Nat.le_refl _
  | cons k ks ih =>
    have:=ih fun q hq=>h q (.tail _ hq)
    have:=h k (.head _)
    rw [List.flatMap_cons,List.length_append,List.length_append,List.length_cons]
    omega
def spLLack:Sp:=fun vs H Q _=>∃ (v:V) (L R:List Prt) (ks:List Lnk) (al:Nms),vs=[v]∧BkOk H v L R ks al∧∀ (l l0 l1:Addr) (H':Hp),Same H H'→H' l=some (.lst [.ref l0,.ref l1])→H' l0=some (.lst ((lackOf L R ks al L).map mkT))→H' l1=some (.lst ((lackOf L R ks al R).map mkT))→Q (.ref l) H'
section
variable {P:Program} {w:World} {K:PySem.W.Frag} {mg:Str→Option Value} {base:Heap}
theorem scKnown:FnScope ["_law_draws_here", "_law_known_here", "_law_k", "_law_pair"] ["_law_draws_here"] (defScope sKnown):=⟨rfl,rfl,rfl,by decide +kernel,rfl,by decide +kernel,by decide +kernel⟩
theorem c_known (h:Has K mg "_law_known" sKnown ["_law_draws_here"]) (C_pick:Cal P w K mg base "_law_pick" 1 ["_law_draws_here", "_law_many"] spPick) (m_range:mg "range" = none) (m_tuple:mg "tuple" = none):Cal P w K mg base "_law_known" 2 ["_law_draws_here"] spKnown:=by
  refine h.mk' scKnown (fun vs H Q E hs=>?_) (fun f cdv A outer s H vs Q E hr hs=>?_)
  · obtain ⟨b,lb,rfl,_⟩:=hs
    rfl
  obtain ⟨b,lb,rfl,hp,k⟩:=hs
  refine qex ⟨_,(qss_cons ⟨(ps_set (i:=1) scKnown.nd rfl (Or.inl rfl) (pe_lst pa_nil))⟩
    (qss_cons (qs_for PassesOwn.never rfl ⟨(pi_range1 rfl m_range (pa_cons (pe_cal C_pick hr (by decide) rfl (pa_cons (pv 0) (pa_cons pe_int pa_nil))) pa_nil))⟩ (pg_name (i:=2) scKnown.nd rfl (Or.inl rfl))
      (qss_cons (qs_set (i:=3) scKnown.nd rfl (Or.inl rfl) ⟨(pe_tup (pa_cons (pe_ix ix_list (pe_lst (pa_cons pe_str (pa_cons pe_str (pa_cons pe_str (pa_cons pe_str pa_nil))))) (pe_cal C_pick hr (by decide) rfl (pa_cons (pv 0) (pa_cons pe_int pa_nil))) (fun _ _=>rfl)) (pa_cons (pe_ix ix_list (pe_lst (pa_cons pe_str (pa_cons pe_str (pa_cons pe_str (pa_cons pe_str pa_nil))))) (pe_cal C_pick hr (by decide) rfl (pa_cons (pv 0) (pa_cons pe_int pa_nil))) (fun _ _=>rfl)) pa_nil)))⟩)
    (qss_one ⟨(ps_if (pt_cmpR (op_notInP (hu_of hr)) (pv 3) (pv 1) (by with_unfolding_all rfl))
      (pss_one (ps_expr (pe_bm PySem.F.plainAttrs_list PySem.F.slot_list_append PySem.F.type_list_append mt_append (pv 1) (pa_cons (pv 3) pa_nil))))
      pss_nil)⟩)))
    (qss_one ⟨(ps_ret (pe_callTy call_tuple_of rfl m_tuple boot_tuple (pa_cons (pv 1) pa_nil)))⟩))),?_⟩
  refine ⟨smn 0,fun lk hlk=>gN ?_⟩
  have nk:=hp.ne hlk
  have s0:=same_new hlk (.lst [])
  have e0:(upd H lk (.lst [])) lk=some (.lst []):=upd_same
  have p0:=hp.same s0
  generalize upd H lk (.lst [])=H0 at s0 e0 p0 ⊢
  refine ⟨_,rfl,b,lb,10,rfl,p0,by decide,by decide,fun r5 H5 p5 o5 r50 r51=>⟨_,rfl,by omega,by omega,?_⟩⟩
  have o05:=(Old.of s0).trans o5
  have e5:H5 lk=some (.lst []):=o5 _ _ e0 nk.1 nk.2
  refine for_range (lo:=0) (n:=r5.toNat) (fun i σ H6=>∃ (v2 v3:Option V) (us:List V) (ps:List (Str × Str)),σ=[some (.ref b),some (.ref lk),v2,v3]∧DrAt b lb H6∧Old b lb H H6∧H6 lk=some (.lst us)∧PrT H6 us ps∧us.length≤i) ⟨_,_,[],[],rfl,p5,o05,e5,⟨rfl,fun i u p h=>by simp at h⟩,Nat.le_refl _⟩ ?_ ?_
  · rintro i σ H6 hi ⟨v4,v5,us,ps,rfl,p6,o6,e6,P6,hul⟩
    refine gN ⟨smn 4,fun w0 hw0=>?_⟩
    have s7:=same_new hw0 (.lst [.str "ka",.str "lo",.str "mi7",.str "x"])
    have g7:(upd H6 w0 (.lst [.str "ka",.str "lo",.str "mi7",.str "x"])) w0=some (.lst (leftW.map mkT)):=by rw [upd_same,left_v]
    have n7:=p6.ne hw0
    have p7:=p6.same s7
    have e7:=s7 _ _ e6
    have P7:=P6.same s7
    generalize upd H6 w0 (.lst [.str "ka",.str "lo",.str "mi7",.str "x"])=H7 at s7 g7 p7 e7 P7 ⊢
    refine ⟨_,rfl,b,lb,4,rfl,p7,by decide,by decide,fun r8 H8 p8 o8 a8 b8=>?_⟩
    obtain ⟨x,hatx,_⟩:=pick_nm (xs:=leftW) rfl a8 b8
    refine ⟨w0,_,_,_,rfl,rfl,SqL.of (o8 _ _ g7 n7.1 n7.2),hatx,smn 4,fun w1 hw1=>?_⟩
    have s9:=same_new hw1 (.lst [.str "aur",.str "ka",.str "sol",.str "9"])
    have g9:(upd H8 w1 (.lst [.str "aur",.str "ka",.str "sol",.str "9"])) w1=some (.lst (rightW.map mkT)):=by rw [upd_same,right_v]
    have n9:=p8.ne hw1
    have p9:=p8.same s9
    have e9:=s9 _ _ (o8 _ _ e7 nk.1 nk.2)
    have P9:=(P7.keepT (o8.tup p7)).same s9
    generalize upd H8 w1 (.lst [.str "aur",.str "ka",.str "sol",.str "9"])=H9 at s9 g9 p9 e9 P9 ⊢
    refine ⟨_,rfl,b,lb,4,rfl,p9,by decide,by decide,fun ra Ha pa oa aa ba=>?_⟩
    obtain ⟨y,haty,_⟩:=pick_nm (xs:=rightW) rfl aa ba
    refine ⟨w1,_,_,_,rfl,rfl,SqL.of (oa _ _ g9 n9.1 n9.2),haty,smn 2,fun tp htp=>gN ?_⟩
    have sc:=same_new htp (.tup [mkT x,mkT y])
    have ec:(upd Ha tp (.tup [mkT x,mkT y])) tp=some (.tup [.str (sOf x),.str (sOf y)]):=upd_same
    have ek:=sc _ _ (oa _ _ e9 nk.1 nk.2)
    have Pc:=(P9.keepT (oa.tup p9)).same sc
    have pc:=pa.same sc
    have oc:=((((o6.trans (.of s7)).trans o8).trans (.of s9)).trans oa).trans (.of sc)
    generalize upd Ha tp (.tup [mkT x,mkT y])=Hc at sc ec ek Pc pc oc ⊢
    refine ⟨_,rfl,_,rfl,tp,lk,us,ps,(sOf x,sOf y),rfl,rfl,ek,ec,Pc.1,Pc.2,_,rfl,?_⟩
    refine ite2 (fun _=>?_) (fun _=>?_)
    · refine ⟨_,rfl,.inl ⟨rfl,_,SqL.of ek⟩,_,rfl,lk,_,_,rfl,rfl,ek,small1000 (by omega),?_⟩
      exact ⟨_,_,us++[.ref tp],ps++[(sOf x,sOf y)],rfl,pc.upd nk.1 nk.2,oc.free hlk,upd_same,(Pc.keepT (keepT_upd ek)).snoc (keepT_upd ek _ _ ec),by rw [List.length_append,List.length_singleton]; omega⟩
    · exact ⟨_,_,us,ps,rfl,pc,oc,ek,Pc,by omega⟩
  · rintro σ H6 ⟨v4,v5,us,ps,rfl,p6,o6,e6,P6,hul⟩
    exact ⟨_,rfl,lk,_,rfl,.inl ⟨SqL.of e6,fun r hr=>k r us ps _ upd_same (by omega) (P6.same (same_new hr _)) (p6.same (same_new hr _)) (o6.trans (.of (same_new hr _)))⟩⟩
theorem scLLacking:FnScope ["_law_book_here", "_law_taken", "_law_link"] ["_law_book_here"] (defScope sLLacking):=⟨rfl,rfl,rfl,by decide +kernel,rfl,by decide +kernel,by decide +kernel⟩
theorem c_llacking (h:Has K mg "_law_lacking" sLLacking ["_law_book_here"]) (m_list:mg "list" = none):Cal P w K mg base "_law_lacking" 1 ["_law_book_here"] spLLack:=by
  refine h.mk' scLLacking (fun vs H Q E hs=>?_) (fun f cdv A outer s H vs Q E hr hs=>?_)
  · obtain ⟨v,L,R,ks,al,rfl,_⟩:=hs
    rfl
  obtain ⟨v,L,R,ks,al,rfl,hB,kk⟩:=hs
  refine ⟨_,(pss_cons (ps_set (i:=1) scLLacking.nd rfl (Or.inr rfl) (pe_callTy call_list_of rfl m_list boot_list (pa_cons (pe_ix ix_tup (pv 0) pe_int (fun _ _=>rfl)) pa_nil)))
    (pss_cons (ps_for PassesOwn.never rfl (pi_tup (pe_ix ix_tup (pv 0) pe_int (fun _ _=>rfl))) (pg_name (i:=2) scLLacking.nd rfl (Or.inl rfl))
      (pss_one (ps_set (i:=1) scLLacking.nd rfl (Or.inr rfl) (pe_op op_cat (pe_op op_cat (pv 1) (pe_callTy call_list_of rfl m_list boot_list (pa_cons (pe_ix ix_tup (pv 2) pe_int (fun _ _=>rfl)) pa_nil))) (pe_callTy call_list_of rfl m_list boot_list (pa_cons (pe_ix ix_tup (pv 2) pe_int (fun _ _=>rfl)) pa_nil))))))
    (pss_one (ps_ret (pe_compL ["_law_book_here", "_law_taken", "_law_link"] (defScope sLLacking) ["_law_taken", "_law_side"] [some 1,none] rfl rfl rfl (pi_tup (pe_slice sl_tupW (pv 0) po_none (po_some pe_int))) rfl (by decide +kernel) (by decide +kernel) (by decide +kernel) (by decide +kernel) (hg:=fun cl C s H ex pn E=>(pg_name (i:=1) (by decide +kernel:(["_law_taken", "_law_side"]:List Str).Nodup) rfl (Or.inl rfl))) (ht:=fun cl C s H ex pn E=>pifs_nil) (he:=fun cl C s H ex pn E=>(pe_compL ["_law_taken", "_law_side"] _ ["_law_taken", "_law_part"] [some 0,none] rfl rfl rfl (pi_tupK (K:=K) rfl (pv 1)) rfl (by decide +kernel) (by decide +kernel) (freeBlock (by decide +kernel)) (by decide +kernel) (hg:=fun cl C s H ex pn E=>(pg_name (i:=1) (by decide +kernel:(["_law_taken", "_law_part"]:List Str).Nodup) rfl (Or.inl rfl))) (ht:=fun cl C s H ex pn E=>(pifs_one (pt_cmpR (op_notIn_seqK (K:=K) rfl) (pe_ix (ix_tupK (K:=K) rfl) (pv 1) pe_int (fun _ _=>rfl)) (pv 0) (by with_unfolding_all rfl)))) (he:=fun cl C s H ex pn E=>(pe_ix (ix_tupK (K:=K) rfl) (pv 1) pe_int (fun _ _=>rfl)))))))))),?_⟩
  have vb:=hB.vb
  have lL:=vb.lL
  have lR:=vb.lR
  have la24:=hB.la
  have lk8:=hB.lk
  rw [lackOf_free,lackOf_free] at kk
  obtain ⟨p,pl,pr,pk,pa,ls,rs,ws,rfl,hp,hpl,hdl,hpr,hdr,hpk,hdk,hpa⟩:=den_book hB.d
  have at2:atI [V.ref pl,V.ref pr,V.ref pk,V.ref pa] 2=some (.ref pk):=atI_nat (xs:=[V.ref pl,V.ref pr,V.ref pk,V.ref pa]) (j:=2) rfl
  have at3:atI [V.ref pl,V.ref pr,V.ref pk,V.ref pa] 3=some (.ref pa):=atI_nat (xs:=[V.ref pl,V.ref pr,V.ref pk,V.ref pa]) (j:=3) rfl
  have hl1:=hdl.len
  have hl2:=hdr.len
  have hl3:=hdk.len
  rw [List.length_map] at hl1 hl2 hl3
  have hal:(al.map sOf).map V.str=al.map mkT:=by rw [List.map_map]; rfl
  rw [hal] at hpa
  refine ⟨_,rfl,p,_,_,_,rfl,rfl,SqT.of hp,at3,pa,_,rfl,.inr (SqT.of hpa),fun l1 hl1'=>gN ?_⟩
  have s1:=same_new hl1' (.lst (al.map mkT))
  have e1:(upd H l1 (.lst (al.map mkT))) l1=some (.lst (al.map mkT)):=upd_same
  generalize upd H l1 (.lst (al.map mkT))=H1 at s1 e1 ⊢
  refine ⟨_,rfl,p,_,_,_,rfl,rfl,SqT.of (s1 _ _ hp),at2,pk,rfl,⟨_,SqT.of (s1 _ _ hpk)⟩,?_⟩
  refine for_tup (K:=K) (a:=pk) (xs:=ws) (fun i σ H2=>∃ (v2:Option V) (lt:Addr),σ=[some (.ref p),some (.ref lt),v2]∧Same H H2∧H2 lt=some (.lst ((takenN (ks.take i) al).map mkT))) ⟨_,l1,rfl,s1,by show _=some (HO.lst ((al++[]).map mkT)); rw [List.append_nil]; exact e1⟩ ?_ ?_ ?_
  · rintro i σ H2 _ ⟨_,_,_,s2,_⟩
    exact SqT.of (s2 _ _ hpk)
  · rintro i y σ H2 hi ⟨v2,lt,rfl,s2,e2⟩
    have hin:i < ks.length:=by rw [← hl3]; exact (List.getElem?_eq_some_iff.mp hi).1
    obtain ⟨dd,hdd,dy⟩:=hdk.at_ hi
    rw [List.getElem?_map,ex_at hin] at hdd
    have edd:linkD ks[i]=dd:=Option.some.inj hdd
    subst edd
    have hkn:=vb.nl _ (List.getElem_mem hin)
    have htk:takenN (ks.take (i+1)) al=takenN (ks.take i) al++ks[i].1++ks[i].2.1:=by
      unfold takenN
      rw [take_one (ex_at hin),List.flatMap_append,List.flatMap_cons,List.flatMap_nil,List.append_nil,← List.append_assoc,← List.append_assoc]
    have htl:(takenN (ks.take i) al).length≤24+26 * 8:=by
      have:=taken_len (ks:=ks.take i) fun k hk=>vb.nl k (List.mem_of_mem_take hk)
      unfold takenN
      rw [List.length_append]
      rw [List.length_take] at this
      omega
    generalize ks[i]=kq at dy hkn htk
    obtain ⟨q,q0,q1,q3,q4,q5,us0,us1,rfl,hq,h0,hd0,h1,hd1,_⟩:=den_link (dy.same s2)
    rw [denS hd0] at h0
    rw [denS hd1] at h1
    have a0:atI [V.ref q0,V.ref q1,V.int kq.2.2.1,V.ref q3] 0=some (.ref q0):=atI_zero _ _
    have a1:atI [V.ref q0,V.ref q1,V.int kq.2.2.1,V.ref q3] 1=some (.ref q1):=atI_nat (xs:=[V.ref q0,V.ref q1,V.int kq.2.2.1,V.ref q3]) (j:=1) rfl
    refine gN ⟨_,rfl,_,rfl,q,_,_,_,rfl,rfl,SqT.of hq,a0,q0,_,rfl,.inr (SqT.of h0),fun l3 hl3=>?_⟩
    have s3:=same_new hl3 (.lst (kq.1.map mkT))
    have e3:(upd H2 l3 (.lst (kq.1.map mkT))) l3=some (.lst (kq.1.map mkT)):=upd_same
    generalize upd H2 l3 (.lst (kq.1.map mkT))=H3 at s3 e3 ⊢
    refine ⟨lt,l3,_,_,rfl,rfl,s3 _ _ e2,e3,small (by rw [List.length_map,List.length_map]; omega),fun l4 hl4=>?_⟩
    have s4:=same_new hl4 (.lst ((takenN (ks.take i) al).map mkT++kq.1.map mkT))
    have e4:(upd H3 l4 (.lst ((takenN (ks.take i) al).map mkT++kq.1.map mkT))) l4=some (.lst ((takenN (ks.take i) al).map mkT++kq.1.map mkT)):=upd_same
    generalize upd H3 l4 (.lst ((takenN (ks.take i) al).map mkT++kq.1.map mkT))=H4 at s4 e4 ⊢
    have s24:=s3.trans s4
    refine ⟨_,rfl,q,_,_,_,rfl,rfl,SqT.of (s24 _ _ hq),a1,q1,_,rfl,.inr (SqT.of (s24 _ _ h1)),fun l5 hl5=>?_⟩
    have s5:=same_new hl5 (.lst (kq.2.1.map mkT))
    have e5:(upd H4 l5 (.lst (kq.2.1.map mkT))) l5=some (.lst (kq.2.1.map mkT)):=upd_same
    generalize upd H4 l5 (.lst (kq.2.1.map mkT))=H5 at s5 e5 ⊢
    refine ⟨l4,l5,_,_,rfl,rfl,s5 _ _ e4,e5,small (by rw [List.length_append,List.length_map,List.length_map,List.length_map]; omega),fun l6 hl6=>?_⟩
    have s6:=same_new hl6 (.lst (((takenN (ks.take i) al).map mkT++kq.1.map mkT)++kq.2.1.map mkT))
    refine ⟨_,l6,rfl,((s2.trans s24).trans s5).trans s6,?_⟩
    rw [upd_same,htk,List.map_append,List.map_append]
  · rintro σ H2 ⟨v2,lt,rfl,s2,e2⟩
    rw [hl3,List.take_length] at e2
    have htl:(takenN ks al).length≤24+26 * 8:=by
      have:=taken_len vb.nl
      unfold takenN
      rw [List.length_append]
      omega
    generalize takenN ks al=tk at e2 htl kk
    have cp:cutV [V.ref pl,V.ref pr,V.ref pk,V.ref pa] none (some 2)=[V.ref pl,V.ref pr]:=cut_upto (r:=2) _ (by simp)
    refine ⟨_,rfl,_,rfl,p,_,rfl,s2 _ _ hp,fun q3 H3 s3 e3=>?_⟩
    rw [cp] at e3
    have s03:=s2.trans s3
    have e3t:=s3 _ _ e2
    refine ⟨q3,rfl,⟨_,SqT.of e3⟩,fun lo hlo=>?_⟩
    refine comp_by (J:=Itt K q3) (l:=lo) 2 (fun i σ' H'=>∃ (v1:Option V) (us:List Addr),σ'=[some (.ref lt),v1]∧Same H3 H'∧H' lo=some (.lst (us.map V.ref))∧us.length=i∧∀ (m:Nat) (l:Addr) (ps:List Prt),us[m]?=some l→[L,R][m]?=some ps→H' l=some (.lst ((freeN tk ps).map mkT))∧l≠lo) ⟨none,[],rfl,same_new hlo _,upd_same,rfl,fun m l ps h=>by simp at h⟩ ?_ ?_
    · rintro σ' H4 ⟨v1,us,rfl,s4,e4,hul,hus⟩
      obtain ⟨l0,l1',rfl⟩:∃ l0 l1,us=[l0,l1]:=by
        match us,hul with
        | [l0,l1],_=>exact ⟨l0,l1,rfl⟩
      exact ⟨⟨_,SqT.of (s4 _ _ e3),Nat.le_refl _⟩,kk lo l0 l1' H4 (s03.trans s4) e4 (hus 0 l0 L rfl rfl).1 (hus 1 l1' R rfl rfl).1⟩
    · rintro i σ' H4 hi ⟨v1,us,rfl,s4,e4,hul,hus⟩
      obtain ⟨pq,ps,vs,hat,hps,hpq,hdq,hpl12⟩:∃ (pq:Addr) (ps:List Prt) (vs:List V),[V.ref pl,V.ref pr][i]?=some (.ref pq)∧[L,R][i]?=some ps∧H pq=some (.tup vs)∧DenL H vs (ps.map partD)∧ps.length≤12:=by
        match i,hi with
        | 0,_=>exact ⟨pl,L,ls,rfl,rfl,hpl,hdl,lL⟩
        | 1,_=>exact ⟨pr,R,rs,rfl,rfl,hpr,hdr,lR⟩
      refine ⟨⟨_,_,SqT.of (s4 _ _ e3),hat⟩,?_⟩
      rintro y H5 ⟨rfl,hy⟩
      have ey:y=.ref pq:=Option.some.inj ((hy _ (SqT.of (s4 _ _ e3))).symm.trans hat)
      subst ey
      have s05:=s03.trans s4
      have hvl:=hdq.len
      rw [List.length_map] at hvl
      refine gN (yesT (iteT ⟨_,rfl,pq,rfl,⟨_,SqT.of (s05 _ _ hpq)⟩,fun li hli=>?_⟩))
      have nlo:li≠lo:=(ne_of_none e4 hli).symm
      refine comp_by (J:=Itt K pq) (l:=li) vs.length (fun j σ' H'=>∃ (v1:Option V),σ'=[some (.ref lt),v1]∧Same H5 H'∧H' li=some (.lst ((freeN tk (ps.take j)).map mkT))) ⟨none,rfl,same_new hli _,upd_same⟩ ?_ ?_
      · rintro σ' H6 ⟨v1,rfl,s6,e6⟩
        rw [hvl,List.take_length] at e6
        refine ⟨⟨_,SqT.of (s6 _ _ (s05 _ _ hpq)),Nat.le_refl _⟩,?_⟩
        refine ⟨_,s6 _ _ e4,small1000 (by rw [List.length_map]; omega),_,us++[li],rfl,same_updN (s4.trans s6) hlo,by rw [upd_same,List.map_append]; rfl,by rw [List.length_append,hul]; rfl,fun m l qs hm hq=>?_⟩
        rcases Nat.lt_or_ge m us.length with hlt | hge
        · rw [List.getElem?_append_left hlt] at hm
          obtain ⟨f1,f2⟩:=hus m l qs hm hq
          exact ⟨(upd_ne f2).trans (s6 _ _ f1),f2⟩
        · rw [List.getElem?_append_right hge] at hm
          have hm0:m=i:=by
            have:=(List.getElem?_eq_some_iff.mp hm).1
            rw [List.length_singleton] at this
            omega
          subst hm0
          rw [hul,Nat.sub_self] at hm
          cases hm
          rw [hps] at hq
          cases hq
          exact ⟨(upd_ne nlo).trans e6,nlo⟩
      · rintro j σ' H6 hj ⟨v1,rfl,s6,e6⟩
        have hjn:j < ps.length:=by omega
        have hpq6:=s6 _ _ (s05 _ _ hpq)
        refine ⟨⟨_,_,SqT.of hpq6,ex_at hj⟩,?_⟩
        rintro y H7 ⟨rfl,hy⟩
        have ey:y=vs[j]:=Option.some.inj ((hy _ (SqT.of hpq6)).symm.trans (ex_at hj))
        obtain ⟨dd,hdd,dy⟩:=hdq.at_ (ex_at hj)
        rw [← ey] at dy
        rw [List.getElem?_map,ex_at hjn] at hdd
        have edd:partD ps[j]=dd:=Option.some.inj hdd
        subst edd
        obtain ⟨bq,pm,rfl,hbq,_⟩:=den_part ((dy.same s05).same s6)
        have hsn:=freeN_snoc (tk:=tk) hjn
        have e6t:=s6 _ _ (s4 _ _ e3t)
        have hfl:=freeN_len tk (ps.take j)
        rw [List.length_take] at hfl
        generalize ps[j]=pj at hbq hsn
        refine gN ⟨_,rfl,bq,_,_,_,rfl,rfl,SqT.of hbq,atI_zero _ _,_,rfl,lt,_,rfl,.inl (SqL.of e6t),rfl,flat_names _,_,rfl,?_⟩
        rw [in_names]
        refine ite2 (fun z=>?_) (fun z=>?_)
        · have z':pj.1 ∉ tk:=by simpa using z
          rw [if_pos z'] at hsn
          refine ⟨_,rfl,bq,_,_,_,rfl,rfl,SqT.of hbq,atI_zero _ _,_,e6,small1000 (by rw [List.length_map]; omega),_,rfl,same_updN s6 hli,?_⟩
          rw [upd_same,hsn,List.map_append]
          rfl
        · have z':¬ pj.1 ∉ tk:=by simpa using z
          rw [if_neg z',List.append_nil] at hsn
          exact ⟨_,rfl,s6,by rw [hsn]; exact e6⟩
end
def spLaw (K:PySem.W.Frag):Sp:=fun vs H Q _=>∃ (a:Addr) (ns:List Int),vs=[.ref a]∧SqL K H a (ns.map V.int)∧ns.length≤63∧∀ H',Q (.bl true) H'
theorem BkOk.old {b lb:Addr} {H H':Hp} {v:V} {L R:List Prt} {ks:List Lnk} {al:Nms} (h:BkOk H v L R ks al) (o:Old b lb H H') (p:DrAt b lb H):BkOk H' v L R ks al:=⟨h.d.keepT (o.tup p),h.vb,h.tx,h.la,h.lk⟩
theorem WdAt.old {b lb dw:Addr} {H H':Hp} {ps:List Prt} (h:WdAt b lb dw H ps) (o:Old b lb H H'):WdAt b lb dw H' ps:=⟨h.n,by
  obtain ⟨kvs,e,hw⟩:=h.e
  refine ⟨kvs,o _ _ e h.n.1 h.n.2,fun p hp=>?_⟩
  obtain ⟨l,e1,e2,n1,n2⟩:=hw p hp
  exact ⟨l,e1,o _ _ e2 n1 n2,n1,n2⟩⟩
theorem WdAt.get {b lb dw:Addr} {H:Hp} {ps:List Prt} (h:WdAt b lb dw H ps) {x:List Nat} (hx:x∈ps.map (·.1)):∃ l,DGet H dw (mkT x) (some (.ref l))∧H l=some (.lst ((coresL [txOf ps x]).map V.str)):=by
  obtain ⟨kvs,e,hw⟩:=h.e
  obtain ⟨p,hp,hpm⟩:=partN_in hx
  have hpx:p.1=x:=of_decide_eq_true (List.find?_some (p:=fun p:Prt=>decide (p.1=x)) hp)
  obtain ⟨l,e1,e2,_⟩:=hw p hpm
  rw [hpx] at e1
  have hg:=DGet.k (k:=nkey x) e
  rw [e1] at hg
  refine ⟨l,hg,?_⟩
  rw [txOf_some hp]
  exact e2
theorem sim_pp (a b:List Nat × List Nat):Sim (ppD a) (ppD b):=by
  unfold ppD
  exact Sim_t (SimL_c (sim_str _ _) (SimL_c (sim_str _ _) (SimL_n _)))
section
variable {P:Program} {w:World} {K:PySem.W.Frag} {mg:Str→Option Value} {base:Heap}
theorem scLaw:FnScope ["_law_script", "_law_draws_here", "_law_book_here", "_law_words", "_law_known_here", "_law_least", "_law_lefts", "_law_rights", "_law_due", "_law_one", "_law_other", "_law_met"] ["_law_script"] (defScope sLaw):=⟨rfl,rfl,rfl,by decide +kernel,rfl,by decide +kernel,by decide +kernel⟩
theorem ok_law {f:Addr} {fd:FuncData} (F:Fun K "law" "law" sLaw f fd) (C_draws:Cal P w K mg base "_law_draws" 1 ["_law_script"] (spDraws K)) (C_book:Cal P w K mg base "_law_book" 4 ["_law_draws_here"] spBook) (C_known:Cal P w K mg base "_law_known" 2 ["_law_draws_here"] spKnown) (C_pick:Cal P w K mg base "_law_pick" 1 ["_law_draws_here", "_law_many"] spPick) (C_llacking:Cal P w K mg base "_law_lacking" 1 ["_law_book_here"] spLLack) (C_fits_of:Cal P w K mg base "fits_of" 7 ["book", "words", "least"] spFits) (m_len:mg "len" = none) (m_tuple:mg "tuple" = none) (m_sorted:mg "sorted" = none):FnOk P w K mg base CX0 8 f fd ["_law_script"] (spLaw K):=by
  refine F.ok scLaw (fun vs H Q E hs=>?_) (fun cdv A outer s H vs Q E hr hs=>?_)
  · obtain ⟨a,ns,rfl,_⟩:=hs
    rfl
  obtain ⟨a,ns,rfl,hS,h63,k⟩:=hs
  refine qex ⟨_,(qss_cons ⟨(ps_set (i:=1) scLaw.nd rfl (Or.inl rfl) (pe_cal C_draws hr (by decide) rfl (pa_cons (pv 0) pa_nil)))⟩
    (qss_cons ⟨(ps_asg (pe_cal C_book hr (by decide) rfl (pa_cons (pv 1) pa_nil)) (pg_tup (n:=2) rfl (pgs_cons (pg_name (i:=2) scLaw.nd rfl (Or.inl rfl)) (pgs_cons (pg_name (i:=3) scLaw.nd rfl (Or.inr rfl)) pgs_nil))))⟩
    (qss_cons ⟨(ps_set (i:=4) scLaw.nd rfl (Or.inl rfl) (pe_cal C_known hr (by decide) rfl (pa_cons (pv 1) pa_nil)))⟩
    (qss_cons (qs_set (i:=5) scLaw.nd rfl (Or.inl rfl) (qe_ix ix_list (qe_lst (qa_c ⟨pe_int⟩ (qa_c ⟨pe_int⟩ (qa_c ⟨pe_int⟩ (qa_c ⟨pe_int⟩ (qa_c ⟨pe_int⟩ (qa_c ⟨pe_int⟩ qa_nil))))))) ⟨(pe_cal C_pick hr (by decide) rfl (pa_cons (pv 1) (pa_cons pe_int pa_nil)))⟩ (fun _ _=>rfl)))
    (qss_cons ⟨(ps_asg (pe_cal C_llacking hr (by decide) rfl (pa_cons (pv 2) pa_nil)) (pg_lst rfl (pgs_cons (pg_name (i:=6) scLaw.nd rfl (Or.inl rfl)) (pgs_cons (pg_name (i:=7) scLaw.nd rfl (Or.inl rfl)) pgs_nil))))⟩
    (qss_cons ⟨(ps_set (i:=8) scLaw.nd rfl (Or.inl rfl) (pe_lst pa_nil))⟩
    (qss_cons ⟨(ps_for PassesOwn.never rfl (pi_list (pv 6)) (pg_name (i:=9) scLaw.nd rfl (Or.inr rfl))
      (pss_one (ps_for PassesOwn.never rfl (pi_list (pv 7)) (pg_name (i:=10) scLaw.nd rfl (Or.inr rfl))
      (pss_cons (ps_setC (ix:=11) scLaw.nd rfl rfl ["_law_script", "_law_draws_here", "_law_book_here", "_law_words", "_law_known_here", "_law_least", "_law_lefts", "_law_rights", "_law_due", "_law_one", "_law_other", "_law_met"] (defScope sLaw) ["_law_words", "_law_one", "_law_other", "_law_pair"] [some 3,some 9,some 10,none] rfl rfl rfl (pi_tup (pv 4)) rfl (by decide +kernel) (by decide +kernel) (by decide +kernel) (by decide +kernel) (hg:=fun cl C s H ex pn E=>(pg_name (i:=3) (by decide +kernel:(["_law_words", "_law_one", "_law_other", "_law_pair"]:List Str).Nodup) rfl (Or.inl rfl))) (ht:=fun cl C s H ex pn E=>(pifs_one (PW.pt (pw_and (pt_cmpR (op_in_seqK (K:=K) rfl) (pe_ix (ix_tupK (K:=K) rfl) (pv 3) pe_int (fun _ _=>rfl)) (pe_dget (hu_of hr) (pv 0) (pv 1) (fun _ _=>rfl)) (by with_unfolding_all rfl)) (pw_and1 (pt_cmpR (op_in_seqK (K:=K) rfl) (pe_ix (ix_tupK (K:=K) rfl) (pv 3) pe_int (fun _ _=>rfl)) (pe_dget (hu_of hr) (pv 0) (pv 2) (fun _ _=>rfl)) (by with_unfolding_all rfl))))))) (he:=fun cl C s H ex pn E=>(pv 3)))
    (pss_one (ps_if (pt_cmpR op_ge (pe_callB call_len_seq rfl m_len PySem.boot_len (pa_cons (pv 11) pa_nil)) (pv 5) (nomark _))
      (pss_one (ps_expr (pe_bm PySem.F.plainAttrs_list PySem.F.slot_list_append PySem.F.type_list_append mt_append (pv 8) (pa_cons (pe_tup (pa_cons (pv 9) (pa_cons (pv 10) pa_nil))) pa_nil))))
      pss_nil))))))⟩
    (qss_cons ⟨(ps_set (i:=8) scLaw.nd rfl (Or.inl rfl) (pe_callTy call_tuple_of rfl m_tuple boot_tuple (pa_cons (pe_callB (call_sortedDB hr.units) rfl m_sorted boot_sorted (pa_cons (pv 8) pa_nil)) pa_nil)))⟩
    (qss_one ⟨(ps_ret (pe_and (pe_cmpR (op_eqDt hr.units) (pe_cal C_fits_of hr (by decide) rfl (pa_cons (pv 2) (pa_cons (pv 4) (pa_cons (pv 5) pa_nil)))) (pv 8) (nomark _)) (pe_one (pe_cmpR (op_eqDt hr.units) (pe_cal C_fits_of hr (by decide) rfl (pa_cons (pv 2) (pa_cons (pv 4) (pa_cons (pv 5) pa_nil)))) (pv 8) (nomark _)))))⟩))))))))),?_⟩
  refine ⟨_,rfl,a,ns,rfl,hS,h63,fun b lb H1 s1 p1=>gN ?_⟩
  refine ⟨_,rfl,b,lb,rfl,p1,fun q qb dw L R ks al H2 eq hB hW p2=>?_⟩
  refine ⟨q,_,rfl,SqT.of eq,rfl,_,_,rfl,_,_,rfl,rfl,?_⟩
  clear eq s1 p1 hS h63
  refine ⟨_,rfl,b,lb,rfl,p2,fun qk us ws H3 ek hul hP p3 o3=>gN ?_⟩
  replace hB:=hB.old o3 p2
  replace hW:=hW.old o3
  clear o3 p2
  refine ⟨smn 6,fun l4 hl4=>?_⟩
  have s4:=same_new hl4 (.lst ([0,1,1,2,3,9].map V.int))
  have e4:(upd H3 l4 (.lst ([0,1,1,2,3,9].map V.int))) l4=some (.lst ([0,1,1,2,3,9].map V.int)):=upd_same
  have n4:=p3.ne hl4
  have p4:=p3.same s4
  replace hB:=hB.same s4
  replace hW:=hW.old (.of s4)
  replace ek:=s4 _ _ ek
  replace hP:=hP.same s4
  refine ⟨_,rfl,b,lb,6,rfl,p4,by decide,by decide,fun r5 H5 p5 o5 a5 b5=>?_⟩
  obtain ⟨least,hle,_⟩:=pick_of (xs:=[0,1,1,2,3,9]) rfl a5 b5
  refine ⟨l4,_,_,_,rfl,rfl,SqL.of (o5 _ _ e4 n4.1 n4.2),hle,gN ?_⟩
  replace hB:=hB.old o5 p4
  replace hW:=hW.old o5
  replace hP:=hP.keepT (o5.tup p4)
  replace ek:=o5.tup p4 _ _ ek
  clear s4 e4 n4 p4 o5 hle hl4 p3
  have lL:=hB.vb.lL
  have lR:=hB.vb.lR
  refine ⟨_,rfl,.ref qb,L,R,ks,al,rfl,hB,fun l l0 l1 H6 s6 el e0 e1=>?_⟩
  refine ⟨l,_,rfl,SqL.of el,rfl,_,_,rfl,_,_,rfl,rfl,?_⟩
  replace hB:=hB.same s6
  replace hW:=hW.old (.of s6)
  replace hP:=hP.same s6
  replace ek:=s6 _ _ ek
  clear s6 el p5
  have hx0:∀ x∈lackOf L R ks al L,x∈(L++R).map (·.1):=fun x hx=>by
    rw [List.map_append]
    exact List.mem_append_left _ (lack_in hx)
  have hx1:∀ x∈lackOf L R ks al R,x∈(L++R).map (·.1):=fun x hx=>by
    rw [List.map_append]
    exact List.mem_append_right _ (lack_in hx)
  have hn0:(lackOf L R ks al L).length≤12:=Nat.le_trans (lackN_len _ _) lL
  have hn1:(lackOf L R ks al R).length≤12:=Nat.le_trans (lackN_len _ _) lR
  obtain ⟨xs,hxs⟩:∃ xs,xs=lackOf L R ks al L:=⟨_,rfl⟩
  obtain ⟨ys,hys⟩:∃ ys,ys=lackOf L R ks al R:=⟨_,rfl⟩
  obtain ⟨ps,hps⟩:∃ ps,ps=L++R:=⟨_,rfl⟩
  rw [← hxs] at e0 hx0 hn0
  rw [← hys] at e1 hx1 hn1
  rw [← hps] at hx0 hx1 hW
  refine ⟨smn 0,fun ld hld=>gN ?_⟩
  have s7:=same_new hld (.lst [])
  have e7:(upd H6 ld (.lst [])) ld=some (.lst []):=upd_same
  generalize upd H6 ld (.lst [])=H7 at s7 e7 ⊢
  refine ⟨_,rfl,l0,rfl,⟨_,SqL.of (s7 _ _ e0)⟩,?_⟩
  refine for_list (K:=K) (a:=l0) (xs:=xs.map mkT) (fun i σ H8=>∃ (v9 v10 v11:Option V) (ds:List V),σ=[some (.ref a),some (.ref b),some (.ref qb),some (.ref dw),some (.ref qk),some (.int least),some (.ref l0),some (.ref l1),some (.ref ld),v9,v10,v11]∧Same H6 H8∧H8 ld=some (.lst ds)∧DenL H8 ds ((fitL ps ws least (xs.take i) ys).map ppD)) ⟨_,_,_,[],rfl,s7,e7,trivial⟩ ?_ ?_ ?_
  · rintro i σ H8 _ ⟨_,_,_,_,_,s8,_⟩
    exact SqL.of (s8 _ _ e0)
  · rintro i y σ H8 hi ⟨v9,v10,v11,ds,rfl,s8,e8,d8⟩
    have hin:i < xs.length:=by
      have:=(List.getElem?_eq_some_iff.mp hi).1
      rwa [List.length_map] at this
    rw [at_T hin] at hi
    have ey:mkT xs[i]=y:=Option.some.inj hi
    subst ey
    have hsn:=fitL_snoc (ps:=ps) (ws:=ws) (least:=least) (ys:=ys) hin
    have hln:=fitL_len ps ws least ys (xs.take i)
    rw [List.length_take] at hln
    have hln:(fitL ps ws least (xs.take i) ys).length≤144:=Nat.le_trans hln (Nat.mul_le_mul (show min i xs.length≤12 by omega) hn1)
    have hxm:=hx0 _ (List.getElem_mem hin)
    generalize xs[i]=x at hsn hxm
    refine gN ⟨_,rfl,l1,rfl,⟨_,SqL.of (s8 _ _ e1)⟩,?_⟩
    refine for_list (K:=K) (a:=l1) (xs:=ys.map mkT) (fun j σ H9=>∃ (v10 v11:Option V) (ds:List V),σ=[some (.ref a),some (.ref b),some (.ref qb),some (.ref dw),some (.ref qk),some (.int least),some (.ref l0),some (.ref l1),some (.ref ld),some (mkT x),v10,v11]∧Same H6 H9∧H9 ld=some (.lst ds)∧DenL H9 ds ((fitL ps ws least (xs.take i) ys++fitP ps ws least (ys.take j) x).map ppD)) ⟨_,_,ds,rfl,s8,e8,by rw [show fitP ps ws least (ys.take 0) x=[] from rfl,List.append_nil]; exact d8⟩ ?_ ?_ ?_
    · rintro j σ H9 _ ⟨_,_,_,_,s9,_⟩
      exact SqL.of (s9 _ _ e1)
    · rintro j y σ H9 hj ⟨v10,v11,ds9,rfl,s9,e9,d9⟩
      have hjn:j < ys.length:=by
        have:=(List.getElem?_eq_some_iff.mp hj).1
        rwa [List.length_map] at this
      rw [at_T hjn] at hj
      have ey:mkT ys[j]=y:=Option.some.inj hj
      subst ey
      have hsj:=fitP_snoc (ps:=ps) (ws:=ws) (least:=least) (a:=x) hjn
      have hdl:=d9.len
      have hlj:=fitP_len ps ws least (ys.take j) x
      rw [List.length_take] at hlj
      rw [List.length_map,List.length_append] at hdl
      have hym:=hx1 _ (List.getElem_mem hjn)
      generalize ys[j]=y at hsj hym
      refine gN ⟨_,rfl,qk,rfl,⟨_,SqT.of (s9 _ _ ek)⟩,fun lc hlc=>?_⟩
      refine comp_by (J:=Itt K qk) (l:=lc) us.length (fun m σ' H'=>∃ (v3:Option V) (ms:List V),σ'=[some (.ref dw),some (mkT x),some (mkT y),v3]∧Same H9 H'∧H' lc=some (.lst ms)∧ms.length=hitN (coresL [txOf ps x]) (coresL [txOf ps y]) (ws.take m)) ⟨none,[],rfl,same_new hlc _,upd_same,rfl⟩ ?_ ?_
      · rintro σ' Ha ⟨v3,ms,rfl,sa,ea,hml⟩
        rw [hP.1,List.take_length] at hml
        refine ⟨⟨_,SqT.of (sa _ _ (s9 _ _ ek)),Nat.le_refl _⟩,gN ?_⟩
        refine ⟨_,rfl,lc,_,rfl,.inl (SqL.of ea),_,rfl,_,_,rfl,rfl,_,rfl,?_⟩
        rw [hml]
        have s6a:=s9.trans sa
        have e9a:=sa _ _ e9
        have d9a:=d9.same sa
        refine ite2 (fun z=>?_) (fun z=>?_)
        · have zb:fitB ps ws least x y=true:=z
          rw [if_pos zb] at hsj
          refine ⟨_,rfl,.inl ⟨rfl,_,SqL.of e9a⟩,_,rfl,_,rfl,smn 2,fun tt htt=>?_⟩
          have sb:=same_new htt (.tup [mkT x,mkT y])
          have eb:=sb _ _ e9a
          have kt:=keepT_upd (zs:=ds9++[.ref tt]) eb
          refine ⟨ld,ds9,_,rfl,rfl,eb,small1000 (by omega),_,_,ds9++[.ref tt],rfl,same_updN (s6a.trans sb) hld,upd_same,?_⟩
          rw [hsj,← List.append_assoc,List.map_append]
          exact DenL.snoc (Den.keepT kt (show Den _ (.ref tt) (ppD (x,y)) from ⟨tt,_,rfl,upd_same,rfl,rfl,trivial⟩)) ((d9a.same sb).keepT kt)
        · have zb:¬ fitB ps ws least x y=true:=z
          rw [if_neg zb,List.append_nil] at hsj
          exact ⟨_,_,ds9,rfl,s6a,e9a,by rw [hsj]; exact d9a⟩
      · rintro m σ' Ha hm ⟨v3,ms,rfl,sa,ea,hml⟩
        have s6a:=s9.trans sa
        have hka:=s6a _ _ ek
        have hmw:m < ws.length:=by rw [← hP.1]; exact hm
        refine ⟨⟨_,_,SqT.of hka,ex_at hm⟩,?_⟩
        rintro v Hb ⟨rfl,hv⟩
        have ev:v=us[m]:=Option.some.inj ((hv _ (SqT.of hka)).symm.trans (ex_at hm))
        obtain ⟨qi,eu,hq⟩:=(hP.same s6a).2 m us[m] ws[m] (ex_at hm) (ex_at hmw)
        rw [eu] at ev
        subst ev
        have hst:=hitN_snoc (as:=coresL [txOf ps x]) (bs:=coresL [txOf ps y]) hmw
        have hle2:(hitN (coresL [txOf ps x]) (coresL [txOf ps y]) (ws.take m))≤m:=by
          unfold hitN
          refine Nat.le_trans (List.length_filter_le _ _) ?_
          rw [List.length_take]
          omega
        generalize ws[m]=pp at hq hst
        have at0:atI [V.str pp.1,V.str pp.2] 0=some (.str pp.1):=atI_zero _ _
        have at1:atI [V.str pp.1,V.str pp.2] 1=some (.str pp.2):=atI_nat (xs:=[V.str pp.1,V.str pp.2]) (j:=1) rfl
        obtain ⟨lx,gx,ex⟩:=(hW.old (.of s6a)).get hxm
        obtain ⟨ly,gy,ey⟩:=(hW.old (.of s6a)).get hym
        refine gN ⟨_,rfl,qi,_,_,_,rfl,rfl,SqT.of hq,at0,_,rfl,_,rfl,dw,_,rfl,gx,lx,_,rfl,.inl (SqL.of ex),rfl,flat_strs _,_,rfl,?_⟩
        refine ite2 (fun z1=>?_) (fun z1=>?_)
        · have z1':decide (pp.1∈coresL [txOf ps x])=true:=by rw [← inV_str]; exact z1
          refine ⟨_,rfl,qi,_,_,_,rfl,rfl,SqT.of hq,at1,_,rfl,_,rfl,dw,_,rfl,gy,ly,_,rfl,.inl (SqL.of ey),rfl,flat_strs _,_,rfl,?_⟩
          refine ite2 (fun z2=>?_) (fun z2=>?_)
          · have z2':decide (pp.2∈coresL [txOf ps y])=true:=by rw [← inV_str]; exact z2
            have hb:hitB (coresL [txOf ps x]) (coresL [txOf ps y]) pp=true:=by
              unfold hitB
              rw [z1',z2']
              rfl
            rw [if_pos hb] at hst
            exact ⟨_,rfl,_,ea,small1000 (by omega),_,ms++[.ref qi],rfl,same_updN sa hlc,upd_same,by rw [List.length_append,hml,hst]; rfl⟩
          · have z2':decide (pp.2∈coresL [txOf ps y])=false:=by rw [← inV_str]; exact Bool.eq_false_iff.mpr z2
            have hb:¬ hitB (coresL [txOf ps x]) (coresL [txOf ps y]) pp=true:=by
              unfold hitB
              rw [z2',Bool.and_false]
              decide
            rw [if_neg hb] at hst
            exact ⟨_,ms,rfl,sa,ea,by rw [hml,hst]; rfl⟩
        · have z1':decide (pp.1∈coresL [txOf ps x])=false:=by rw [← inV_str]; exact Bool.eq_false_iff.mpr z1
          have hb:¬ hitB (coresL [txOf ps x]) (coresL [txOf ps y]) pp=true:=by
            unfold hitB
            rw [z1',Bool.false_and]
            decide
          rw [if_neg hb] at hst
          exact ⟨_,ms,rfl,sa,ea,by rw [hml,hst]; rfl⟩
    · rintro σ H9 ⟨v10,v11,ds9,rfl,s9,e9,d9⟩
      rw [List.length_map,List.take_length,← hsn] at d9
      exact ⟨_,_,_,ds9,rfl,s9,e9,d9⟩
  · rintro σ H8 ⟨v9,v10,v11,ds,rfl,s8,e8,d8⟩
    rw [List.length_map,List.take_length] at d8
    have hln:=fitL_len ps ws least ys xs
    have hln:(fitL ps ws least xs ys).length≤144:=Nat.le_trans hln (Nat.mul_le_mul hn0 hn1)
    refine ⟨_,rfl,ld,_,_,rfl,.inl (SqL.of e8),d8,hom_pp _,by rw [List.length_map]; omega,fun d hd=>?_,fun l9 us9 ds9 hl9 pm9 up9 dn9=>?_⟩
    · obtain ⟨q,_,rfl⟩:=List.mem_map.mp hd
      exact show Shal 50 _ from shal_ups (n:=1) (shal_pp q) 49
    have s9:=same_new hl9 (.lst us9)
    refine ⟨l9,_,rfl,.inl ⟨SqL.of upd_same,fun qd hqd=>gN ?_⟩⟩
    have sa:=s9.trans (same_new hqd (.tup us9))
    have ea:(upd (upd H8 l9 (.lst us9)) qd (.tup us9)) qd=some (.tup us9):=upd_same
    have da:=dn9.same sa
    generalize upd (upd H8 l9 (.lst us9)) qd (.tup us9)=Ha at sa ea da ⊢
    have s6a:=s8.trans sa
    replace hB:=hB.same s6a
    replace hP:=hP.same s6a
    replace ek:=s6a _ _ ek
    subst hps hxs hys
    obtain ⟨qs,pqs,hqs⟩:=perm_map_inv pm9 rfl
    have hql:qs.length≤144:=by rw [pqs.length_eq]; exact hln
    have sh:Shal 2 (.tup ds9):=by
      rw [hqs]
      exact shal_tup (by rw [List.length_map]; omega) fun d hd=>by
        obtain ⟨q,_,rfl⟩:=List.mem_map.mp hd
        exact shal_pp q
    have si:SimL ds9 ds9:=by
      rw [hqs]
      exact simL_map sim_pp qs qs
    refine ⟨_,rfl,_,rfl,_,rfl,.ref qb,qk,least,L,R,ks,al,us,ws,rfl,hB,ek,by omega,hP,fun qf vf df Hb sb eb db pmb upb=>?_⟩
    have edf:df=ds9:=upD_unique upb up9 (pmb.trans pm9.symm)
    rw [edf] at db
    refine ⟨_,rfl,ds9,ds9,1,⟨qf,vf,rfl,eb,db⟩,⟨qd,us9,rfl,sb _ _ ea,da.same sb⟩,sh,sh,by decide,si,?_⟩
    rw [eqD_self]
    refine ⟨_,rfl,iteT ?_⟩
    refine ⟨_,rfl,_,rfl,_,rfl,.ref qb,qk,least,L,R,ks,al,us,ws,rfl,hB.same sb,sb _ _ ek,by omega,hP.same sb,fun qg vg dg Hc sc ec dc pmc upc=>?_⟩
    have edg:dg=ds9:=upD_unique upc up9 (pmc.trans pm9.symm)
    rw [edg] at dc
    refine ⟨_,rfl,ds9,ds9,1,⟨qg,vg,rfl,ec,dc⟩,⟨qd,us9,rfl,sc _ _ (sb _ _ ea),(da.same sb).same sc⟩,sh,sh,by decide,si,?_⟩
    rw [eqD_self]
    exact k _
end
theorem all_mk {l:PySem.W.OpenLaw} {w:World} {K:PySem.W.Frag} {h:Heap} {mg:Str→Option Value} {fa f1 f2 f3 f4 f5 f6 f7 f8 f9 f10 f11 f12 f13 f14 f15 f16 f17 f18 f19 f20 f21 f22 f23 f24 f25:Addr} (X:K.In h) (G:h.Ns mainGlobals mg) (hfa:mg "law" = some (.ref fa))
    {od1 an1 od2 an2 od3 an3 od4 an4 od5 an5 od6 an6 od7 an7 od8 an8 od9 an9 od10 an10 od11 an11 od12 an12 od13 an13 od14 an14 od15 an15 od16 an16 od17 an17 od18 an18 od19 an19 od20 an20 od21 an21 od22 an22 od23 an23 od24 an24 od25 an25:Option Addr} {sl1 sl2 sl3 sl4 sl5 sl6 sl7 sl8 sl9 sl10 sl11 sl12 sl13 sl14 sl15 sl16 sl17 sl18 sl19 sl20 sl21 sl22 sl23 sl24 sl25:Array (Option Value)} {oc1 kV1 dc1 pm1 cd1 ct1 oc2 kV2 dc2 pm2 cd2 ct2 oc3 kV3 dc3 pm3 cd3 ct3 oc4 kV4 dc4 pm4 cd4 ct4 oc5 kV5 dc5 pm5 cd5 ct5 oc6 kV6 dc6 pm6 cd6 ct6 oc7 kV7 dc7 pm7 cd7 ct7 oc8 kV8 dc8 pm8 cd8 ct8 oc9 kV9 dc9 pm9 cd9 ct9 oc10 kV10 dc10 pm10 cd10 ct10 oc11 kV11 dc11 pm11 cd11 ct11 oc12 kV12 dc12 pm12 cd12 ct12 oc13 kV13 dc13 pm13 cd13 ct13 oc14 kV14 dc14 pm14 cd14 ct14 oc15 kV15 dc15 pm15 cd15 ct15 oc16 kV16 dc16 pm16 cd16 ct16 oc17 kV17 dc17 pm17 cd17 ct17 oc18 kV18 dc18 pm18 cd18 ct18 oc19 kV19 dc19 pm19 cd19 ct19 oc20 kV20 dc20 pm20 cd20 ct20 oc21 kV21 dc21 pm21 cd21 ct21 oc22 kV22 dc22 pm22 cd22 ct22 oc23 kV23 dc23 pm23 cd23 ct23 oc24 kV24 dc24 pm24 cd24 ct24 oc25 kV25 dc25 pm25 cd25 ct25:Value}
    (a1:PySem.W.nsIn K mainGlobals "part_of" = some (some (.ref f1))) (l1:K.lookup f1=some ⟨oc1,od1,.func (PySem.W.fnOf "part_of" "part_of" (defArgs sPartOf) (defBody sPartOf) (defScope sPartOf) .none kV1 dc1 pm1 an1 cd1 ct1),sl1⟩) (c1:PySem.W.codeIn K cd1 "part_of" = true) (k1:PySem.W.keepIn K (.ref f1)=true)
    (a2:PySem.W.nsIn K mainGlobals "text_of" = some (some (.ref f2))) (l2:K.lookup f2=some ⟨oc2,od2,.func (PySem.W.fnOf "text_of" "text_of" (defArgs sTextOf) (defBody sTextOf) (defScope sTextOf) .none kV2 dc2 pm2 an2 cd2 ct2),sl2⟩) (c2:PySem.W.codeIn K cd2 "text_of" = true) (k2:PySem.W.keepIn K (.ref f2)=true)
    (a3:PySem.W.nsIn K mainGlobals "state_in_link" = some (some (.ref f3))) (l3:K.lookup f3=some ⟨oc3,od3,.func (PySem.W.fnOf "state_in_link" "state_in_link" (defArgs sStateInLink) (defBody sStateInLink) (defScope sStateInLink) .none kV3 dc3 pm3 an3 cd3 ct3),sl3⟩) (c3:PySem.W.codeIn K cd3 "state_in_link" = true) (k3:PySem.W.keepIn K (.ref f3)=true)
    (a4:PySem.W.nsIn K mainGlobals "states_by_name" = some (some (.ref f4))) (l4:K.lookup f4=some ⟨oc4,od4,.func (PySem.W.fnOf "states_by_name" "states_by_name" (defArgs sStatesByName) (defBody sStatesByName) (defScope sStatesByName) .none kV4 dc4 pm4 an4 cd4 ct4),sl4⟩) (c4:PySem.W.codeIn K cd4 "states_by_name" = true) (k4:PySem.W.keepIn K (.ref f4)=true)
    (a5:PySem.W.nsIn K mainGlobals "states" = some (some (.ref f5))) (l5:K.lookup f5=some ⟨oc5,od5,.func (PySem.W.fnOf "states" "states" (defArgs sStates) (defBody sStates) (defScope sStates) .none kV5 dc5 pm5 an5 cd5 ct5),sl5⟩) (c5:PySem.W.codeIn K cd5 "states" = true) (k5:PySem.W.keepIn K (.ref f5)=true)
    (a6:PySem.W.nsIn K mainGlobals "names_lacking" = some (some (.ref f6))) (l6:K.lookup f6=some ⟨oc6,od6,.func (PySem.W.fnOf "names_lacking" "names_lacking" (defArgs sNamesLacking) (defBody sNamesLacking) (defScope sNamesLacking) .none kV6 dc6 pm6 an6 cd6 ct6),sl6⟩) (c6:PySem.W.codeIn K cd6 "names_lacking" = true) (k6:PySem.W.keepIn K (.ref f6)=true)
    (a7:PySem.W.nsIn K mainGlobals "lacking" = some (some (.ref f7))) (l7:K.lookup f7=some ⟨oc7,od7,.func (PySem.W.fnOf "lacking" "lacking" (defArgs sLacking) (defBody sLacking) (defScope sLacking) .none kV7 dc7 pm7 an7 cd7 ct7),sl7⟩) (c7:PySem.W.codeIn K cd7 "lacking" = true) (k7:PySem.W.keepIn K (.ref f7)=true)
    (a8:PySem.W.nsIn K mainGlobals "is_word_sign" = some (some (.ref f8))) (l8:K.lookup f8=some ⟨oc8,od8,.func (PySem.W.fnOf "is_word_sign" "is_word_sign" (defArgs sIsW) (defBody sIsW) (defScope sIsW) .none kV8 dc8 pm8 an8 cd8 ct8),sl8⟩) (c8:PySem.W.codeIn K cd8 "is_word_sign" = true) (k8:PySem.W.keepIn K (.ref f8)=true)
    (a9:PySem.W.nsIn K mainGlobals "words_of" = some (some (.ref f9))) (l9:K.lookup f9=some ⟨oc9,od9,.func (PySem.W.fnOf "words_of" "words_of" (defArgs sWords) (defBody sWords) (defScope sWords) .none kV9 dc9 pm9 an9 cd9 ct9),sl9⟩) (c9:PySem.W.codeIn K cd9 "words_of" = true) (k9:PySem.W.keepIn K (.ref f9)=true)
    (a10:PySem.W.nsIn K mainGlobals "cores_of" = some (some (.ref f10))) (l10:K.lookup f10=some ⟨oc10,od10,.func (PySem.W.fnOf "cores_of" "cores_of" (defArgs sCoresOf) (defBody sCoresOf) (defScope sCoresOf) .none kV10 dc10 pm10 an10 cd10 ct10),sl10⟩) (c10:PySem.W.codeIn K cd10 "cores_of" = true) (k10:PySem.W.keepIn K (.ref f10)=true)
    (a11:PySem.W.nsIn K mainGlobals "cores_among" = some (some (.ref f11))) (l11:K.lookup f11=some ⟨oc11,od11,.func (PySem.W.fnOf "cores_among" "cores_among" (defArgs sCoresAmong) (defBody sCoresAmong) (defScope sCoresAmong) .none kV11 dc11 pm11 an11 cd11 ct11),sl11⟩) (c11:PySem.W.codeIn K cd11 "cores_among" = true) (k11:PySem.W.keepIn K (.ref f11)=true)
    (a12:PySem.W.nsIn K mainGlobals "places_known" = some (some (.ref f12))) (l12:K.lookup f12=some ⟨oc12,od12,.func (PySem.W.fnOf "places_known" "places_known" (defArgs sPlacesKnown) (defBody sPlacesKnown) (defScope sPlacesKnown) .none kV12 dc12 pm12 an12 cd12 ct12),sl12⟩) (c12:PySem.W.codeIn K cd12 "places_known" = true) (k12:PySem.W.keepIn K (.ref f12)=true)
    (a13:PySem.W.nsIn K mainGlobals "hits_of_places" = some (some (.ref f13))) (l13:K.lookup f13=some ⟨oc13,od13,.func (PySem.W.fnOf "hits_of_places" "hits_of_places" (defArgs sHitsOfPlaces) (defBody sHitsOfPlaces) (defScope sHitsOfPlaces) .none kV13 dc13 pm13 an13 cd13 ct13),sl13⟩) (c13:PySem.W.codeIn K cd13 "hits_of_places" = true) (k13:PySem.W.keepIn K (.ref f13)=true)
    (a14:PySem.W.nsIn K mainGlobals "named_places" = some (some (.ref f14))) (l14:K.lookup f14=some ⟨oc14,od14,.func (PySem.W.fnOf "named_places" "named_places" (defArgs sNamedPlaces) (defBody sNamedPlaces) (defScope sNamedPlaces) .none kV14 dc14 pm14 an14 cd14 ct14),sl14⟩) (c14:PySem.W.codeIn K cd14 "named_places" = true) (k14:PySem.W.keepIn K (.ref f14)=true)
    (a15:PySem.W.nsIn K mainGlobals "fits_of" = some (some (.ref f15))) (l15:K.lookup f15=some ⟨oc15,od15,.func (PySem.W.fnOf "fits_of" "fits_of" (defArgs sFitsOf) (defBody sFitsOf) (defScope sFitsOf) .none kV15 dc15 pm15 an15 cd15 ct15),sl15⟩) (c15:PySem.W.codeIn K cd15 "fits_of" = true) (k15:PySem.W.keepIn K (.ref f15)=true)
    (a16:PySem.W.nsIn K mainGlobals "_law_draws" = some (some (.ref f16))) (l16:K.lookup f16=some ⟨oc16,od16,.func (PySem.W.fnOf "_law_draws" "_law_draws" (defArgs sDraws) (defBody sDraws) (defScope sDraws) .none kV16 dc16 pm16 an16 cd16 ct16),sl16⟩) (c16:PySem.W.codeIn K cd16 "_law_draws" = true) (k16:PySem.W.keepIn K (.ref f16)=true)
    (a17:PySem.W.nsIn K mainGlobals "_law_pick" = some (some (.ref f17))) (l17:K.lookup f17=some ⟨oc17,od17,.func (PySem.W.fnOf "_law_pick" "_law_pick" (defArgs sPick) (defBody sPick) (defScope sPick) .none kV17 dc17 pm17 an17 cd17 ct17),sl17⟩) (c17:PySem.W.codeIn K cd17 "_law_pick" = true) (k17:PySem.W.keepIn K (.ref f17)=true)
    (a18:PySem.W.nsIn K mainGlobals "_law_names" = some (some (.ref f18))) (l18:K.lookup f18=some ⟨oc18,od18,.func (PySem.W.fnOf "_law_names" "_law_names" (defArgs sNames) (defBody sNames) (defScope sNames) .none kV18 dc18 pm18 an18 cd18 ct18),sl18⟩) (c18:PySem.W.codeIn K cd18 "_law_names" = true) (k18:PySem.W.keepIn K (.ref f18)=true)
    (a19:PySem.W.nsIn K mainGlobals "_law_moments" = some (some (.ref f19))) (l19:K.lookup f19=some ⟨oc19,od19,.func (PySem.W.fnOf "_law_moments" "_law_moments" (defArgs sMoments) (defBody sMoments) (defScope sMoments) .none kV19 dc19 pm19 an19 cd19 ct19),sl19⟩) (c19:PySem.W.codeIn K cd19 "_law_moments" = true) (k19:PySem.W.keepIn K (.ref f19)=true)
    (a20:PySem.W.nsIn K mainGlobals "_law_text" = some (some (.ref f20))) (l20:K.lookup f20=some ⟨oc20,od20,.func (PySem.W.fnOf "_law_text" "_law_text" (defArgs sText) (defBody sText) (defScope sText) .none kV20 dc20 pm20 an20 cd20 ct20),sl20⟩) (c20:PySem.W.codeIn K cd20 "_law_text" = true) (k20:PySem.W.keepIn K (.ref f20)=true)
    (a21:PySem.W.nsIn K mainGlobals "_law_links" = some (some (.ref f21))) (l21:K.lookup f21=some ⟨oc21,od21,.func (PySem.W.fnOf "_law_links" "_law_links" (defArgs sLinks) (defBody sLinks) (defScope sLinks) .none kV21 dc21 pm21 an21 cd21 ct21),sl21⟩) (c21:PySem.W.codeIn K cd21 "_law_links" = true) (k21:PySem.W.keepIn K (.ref f21)=true)
    (a22:PySem.W.nsIn K mainGlobals "_law_book" = some (some (.ref f22))) (l22:K.lookup f22=some ⟨oc22,od22,.func (PySem.W.fnOf "_law_book" "_law_book" (defArgs sBook) (defBody sBook) (defScope sBook) .none kV22 dc22 pm22 an22 cd22 ct22),sl22⟩) (c22:PySem.W.codeIn K cd22 "_law_book" = true) (k22:PySem.W.keepIn K (.ref f22)=true)
    (a23:PySem.W.nsIn K mainGlobals "_law_lacking" = some (some (.ref f23))) (l23:K.lookup f23=some ⟨oc23,od23,.func (PySem.W.fnOf "_law_lacking" "_law_lacking" (defArgs sLLacking) (defBody sLLacking) (defScope sLLacking) .none kV23 dc23 pm23 an23 cd23 ct23),sl23⟩) (c23:PySem.W.codeIn K cd23 "_law_lacking" = true) (k23:PySem.W.keepIn K (.ref f23)=true)
    (a24:PySem.W.nsIn K mainGlobals "_law_known" = some (some (.ref f24))) (l24:K.lookup f24=some ⟨oc24,od24,.func (PySem.W.fnOf "_law_known" "_law_known" (defArgs sKnown) (defBody sKnown) (defScope sKnown) .none kV24 dc24 pm24 an24 cd24 ct24),sl24⟩) (c24:PySem.W.codeIn K cd24 "_law_known" = true) (k24:PySem.W.keepIn K (.ref f24)=true)
    (a25:PySem.W.nsIn K mainGlobals "law" = some (some (.ref f25))) (l25:K.lookup f25=some ⟨oc25,od25,.func (PySem.W.fnOf "law" "law" (defArgs sLaw) (defBody sLaw) (defScope sLaw) .none kV25 dc25 pm25 an25 cd25 ct25),sl25⟩) (c25:PySem.W.codeIn K cd25 "law" = true) (k25:PySem.W.keepIn K (.ref f25)=true)
    {a_NoPart:Addr} (p_NoPart:PySem.W.nsIn K mainGlobals "NoPart" = some (some (.ref a_NoPart))) (x_NoPart:PySem.W.excIn K a_NoPart vBm "ValueError.__new__" = true)
    (z_len:PySem.W.nsIn K mainGlobals "len" = some none) (z_int:PySem.W.nsIn K mainGlobals "int" = some none) (z_range:PySem.W.nsIn K mainGlobals "range" = some none) (z_tuple:PySem.W.nsIn K mainGlobals "tuple" = some none) (z_dict:PySem.W.nsIn K mainGlobals "dict" = some none) (z_list:PySem.W.nsIn K mainGlobals "list" = some none) (z_sorted:PySem.W.nsIn K mainGlobals "sorted" = some none) (z_min:PySem.W.nsIn K mainGlobals "min" = some none) (z_sum:PySem.W.nsIn K mainGlobals "sum" = some none) (z_abs:PySem.W.nsIn K mainGlobals "abs" = some none) (z_set:PySem.W.nsIn K mainGlobals "set" = some none) (z_enumerate:PySem.W.nsIn K mainGlobals "enumerate" = some none) :
    ∃ fd:FuncData,(∀ (s:Shared) (v:Value),BindsTo s fd ⟨[v],[]⟩ [("_law_script",v)])∧∀ base:Heap,K.In base→base.Ns mainGlobals mg→FnOk l.prog w K mg base CX0 8 fa fd ["_law_script"] (spLaw K):=by
  have e:=hfa.symm.trans (PySem.W.mg_of X G a25)
  cases e
  have F1:=fun_mk (st:=sPartOf) l1 c1 k1
  have h_part_of:Has K mg "part_of" sPartOf ["book", "name"]:=⟨_,_,F1,F1.binds fun _ _ _ _ _ _ us hl=>match us,hl with | [_,_],_=>rfl,PySem.W.mg_of X G a1⟩
  have F2:=fun_mk (st:=sTextOf) l2 c2 k2
  have h_text_of:Has K mg "text_of" sTextOf ["book", "name"]:=⟨_,_,F2,F2.binds fun _ _ _ _ _ _ us hl=>match us,hl with | [_,_],_=>rfl,PySem.W.mg_of X G a2⟩
  have F3:=fun_mk (st:=sStateInLink) l3 c3 k3
  have h_state_in_link:Has K mg "state_in_link" sStateInLink ["link", "side", "moments"]:=⟨_,_,F3,F3.binds fun _ _ _ _ _ _ us hl=>match us,hl with | [_,_,_],_=>rfl,PySem.W.mg_of X G a3⟩
  have F4:=fun_mk (st:=sStatesByName) l4 c4 k4
  have h_states_by_name:Has K mg "states_by_name" sStatesByName ["book"]:=⟨_,_,F4,F4.binds fun _ _ _ _ _ _ us hl=>match us,hl with | [_],_=>rfl,PySem.W.mg_of X G a4⟩
  have F5:=fun_mk (st:=sStates) l5 c5 k5
  have h_states:Has K mg "states" sStates ["book"]:=⟨_,_,F5,F5.binds fun _ _ _ _ _ _ us hl=>match us,hl with | [_],_=>rfl,PySem.W.mg_of X G a5⟩
  have F6:=fun_mk (st:=sNamesLacking) l6 c6 k6
  have h_names_lacking:Has K mg "names_lacking" sNamesLacking ["rows"]:=⟨_,_,F6,F6.binds fun _ _ _ _ _ _ us hl=>match us,hl with | [_],_=>rfl,PySem.W.mg_of X G a6⟩
  have F7:=fun_mk (st:=sLacking) l7 c7 k7
  have h_lacking:Has K mg "lacking" sLacking ["book"]:=⟨_,_,F7,F7.binds fun _ _ _ _ _ _ us hl=>match us,hl with | [_],_=>rfl,PySem.W.mg_of X G a7⟩
  have F8:=fun_mk (st:=sIsW) l8 c8 k8
  have h_isw:Has K mg "is_word_sign" sIsW ["sign"]:=⟨_,_,F8,F8.binds fun _ _ _ _ _ _ us hl=>match us,hl with | [_],_=>rfl,PySem.W.mg_of X G a8⟩
  have F9:=fun_mk (st:=sWords) l9 c9 k9
  have h_words:Has K mg "words_of" sWords ["text"]:=⟨_,_,F9,F9.binds fun _ _ _ _ _ _ us hl=>match us,hl with | [_],_=>rfl,PySem.W.mg_of X G a9⟩
  have F10:=fun_mk (st:=sCoresOf) l10 c10 k10
  have h_cores:Has K mg "cores_of" sCoresOf ["text"]:=⟨_,_,F10,F10.binds fun _ _ _ _ _ _ us hl=>match us,hl with | [_],_=>rfl,PySem.W.mg_of X G a10⟩
  have F11:=fun_mk (st:=sCoresAmong) l11 c11 k11
  have h_cores_among:Has K mg "cores_among" sCoresAmong ["texts"]:=⟨_,_,F11,F11.binds fun _ _ _ _ _ _ us hl=>match us,hl with | [_],_=>rfl,PySem.W.mg_of X G a11⟩
  have F12:=fun_mk (st:=sPlacesKnown) l12 c12 k12
  have h_places_known:Has K mg "places_known" sPlacesKnown ["texts", "words", "side"]:=⟨_,_,F12,F12.binds fun _ _ _ _ _ _ us hl=>match us,hl with | [_,_,_],_=>rfl,PySem.W.mg_of X G a12⟩
  have F13:=fun_mk (st:=sHitsOfPlaces) l13 c13 k13
  have h_hits_of_places:Has K mg "hits_of_places" sHitsOfPlaces ["left", "right"]:=⟨_,_,F13,F13.binds fun _ _ _ _ _ _ us hl=>match us,hl with | [_,_],_=>rfl,PySem.W.mg_of X G a13⟩
  have F14:=fun_mk (st:=sNamedPlaces) l14 c14 k14
  have h_named_places:Has K mg "named_places" sNamedPlaces ["book", "names", "words", "side"]:=⟨_,_,F14,F14.binds fun _ _ _ _ _ _ us hl=>match us,hl with | [_,_,_,_],_=>rfl,PySem.W.mg_of X G a14⟩
  have F15:=fun_mk (st:=sFitsOf) l15 c15 k15
  have h_fits_of:Has K mg "fits_of" sFitsOf ["book", "words", "least"]:=⟨_,_,F15,F15.binds fun _ _ _ _ _ _ us hl=>match us,hl with | [_,_,_],_=>rfl,PySem.W.mg_of X G a15⟩
  have F16:=fun_mk (st:=sDraws) l16 c16 k16
  have h_draws:Has K mg "_law_draws" sDraws ["_law_script"]:=⟨_,_,F16,F16.binds fun _ _ _ _ _ _ us hl=>match us,hl with | [_],_=>rfl,PySem.W.mg_of X G a16⟩
  have F17:=fun_mk (st:=sPick) l17 c17 k17
  have h_pick:Has K mg "_law_pick" sPick ["_law_draws_here", "_law_many"]:=⟨_,_,F17,F17.binds fun _ _ _ _ _ _ us hl=>match us,hl with | [_,_],_=>rfl,PySem.W.mg_of X G a17⟩
  have F18:=fun_mk (st:=sNames) l18 c18 k18
  have h_names:Has K mg "_law_names" sNames ["_law_draws_here", "_law_many"]:=⟨_,_,F18,F18.binds fun _ _ _ _ _ _ us hl=>match us,hl with | [_,_],_=>rfl,PySem.W.mg_of X G a18⟩
  have F19:=fun_mk (st:=sMoments) l19 c19 k19
  have h_moments:Has K mg "_law_moments" sMoments ["_law_draws_here", "_law_least"]:=⟨_,_,F19,F19.binds fun _ _ _ _ _ _ us hl=>match us,hl with | [_,_],_=>rfl,PySem.W.mg_of X G a19⟩
  have F20:=fun_mk (st:=sText) l20 c20 k20
  have h_text:Has K mg "_law_text" sText ["_law_draws_here", "_law_words"]:=⟨_,_,F20,F20.binds fun _ _ _ _ _ _ us hl=>match us,hl with | [_,_],_=>rfl,PySem.W.mg_of X G a20⟩
  have F21:=fun_mk (st:=sLinks) l21 c21 k21
  have h_links:Has K mg "_law_links" sLinks ["_law_draws_here", "_law_lefts", "_law_rights"]:=⟨_,_,F21,F21.binds fun _ _ _ _ _ _ us hl=>match us,hl with | [_,_,_],_=>rfl,PySem.W.mg_of X G a21⟩
  have F22:=fun_mk (st:=sBook) l22 c22 k22
  have h_book:Has K mg "_law_book" sBook ["_law_draws_here"]:=⟨_,_,F22,F22.binds fun _ _ _ _ _ _ us hl=>match us,hl with | [_],_=>rfl,PySem.W.mg_of X G a22⟩
  have F23:=fun_mk (st:=sLLacking) l23 c23 k23
  have h_llacking:Has K mg "_law_lacking" sLLacking ["_law_book_here"]:=⟨_,_,F23,F23.binds fun _ _ _ _ _ _ us hl=>match us,hl with | [_],_=>rfl,PySem.W.mg_of X G a23⟩
  have F24:=fun_mk (st:=sKnown) l24 c24 k24
  have h_known:Has K mg "_law_known" sKnown ["_law_draws_here"]:=⟨_,_,F24,F24.binds fun _ _ _ _ _ _ us hl=>match us,hl with | [_],_=>rfl,PySem.W.mg_of X G a24⟩
  have F25:=fun_mk (st:=sLaw) l25 c25 k25
  have m_len:=PySem.W.mg_none_of X G z_len
  have m_int:=PySem.W.mg_none_of X G z_int
  have m_range:=PySem.W.mg_none_of X G z_range
  have m_tuple:=PySem.W.mg_none_of X G z_tuple
  have m_dict:=PySem.W.mg_none_of X G z_dict
  have m_list:=PySem.W.mg_none_of X G z_list
  have m_sorted:=PySem.W.mg_none_of X G z_sorted
  have m_min:=PySem.W.mg_none_of X G z_min
  have m_sum:=PySem.W.mg_none_of X G z_sum
  have m_abs:=PySem.W.mg_none_of X G z_abs
  have m_set:=PySem.W.mg_none_of X G z_set
  have m_enumerate:=PySem.W.mg_none_of X G z_enumerate
  have q_NoPart:=PySem.W.mg_of X G p_NoPart
  refine ⟨PySem.W.fnOf "law" "law" (defArgs sLaw) (defBody sLaw) (defScope sLaw) .none kV25 dc25 pm25 an25 cd25 ct25,fun s v=>.of_eq rfl,fun base _ _=>?_⟩
  have C_state_in_link:=c_state_in_link (P:=l.prog) (w:=w) (base:=base) h_state_in_link m_list m_min
  have C_states_by_name:=c_states_by_name (P:=l.prog) (w:=w) (base:=base) h_states_by_name C_state_in_link m_dict
  have C_states:=c_states (P:=l.prog) (w:=w) (base:=base) h_states C_states_by_name m_tuple
  have C_names_lacking:=c_names_lacking (P:=l.prog) (w:=w) (base:=base) h_names_lacking m_tuple
  have C_lacking:=c_lacking (P:=l.prog) (w:=w) (base:=base) h_lacking C_states C_names_lacking
  have C_isw:=c_isw (P:=l.prog) (w:=w) (base:=base) h_isw
  have C_words:=c_words (P:=l.prog) (w:=w) (base:=base) h_words C_isw m_tuple
  have C_cores:=c_cores (P:=l.prog) (w:=w) (base:=base) h_cores C_words m_tuple
  have C_cores_among:=c_cores_among (P:=l.prog) (w:=w) (base:=base) h_cores_among C_cores
  have C_places_known:=c_places_known (P:=l.prog) (w:=w) (base:=base) h_places_known C_cores_among m_enumerate
  have C_hits_of_places:=c_hits_of_places (P:=l.prog) (w:=w) (base:=base) h_hits_of_places m_len m_set
  have C_part_of:=c_part_of (P:=l.prog) (w:=w) (base:=base) h_part_of q_NoPart x_NoPart
  have C_text_of:=c_text_of (P:=l.prog) (w:=w) (base:=base) h_text_of C_part_of
  have C_named_places:=c_named_places (P:=l.prog) (w:=w) (base:=base) h_named_places C_places_known C_text_of
  have C_fits_of:=c_fits_of (P:=l.prog) (w:=w) (base:=base) h_fits_of C_lacking C_named_places C_hits_of_places m_tuple m_sorted
  have C_draws:=c_draws (P:=l.prog) (w:=w) (base:=base) h_draws m_len m_abs
  have C_pick:=c_pick (P:=l.prog) (w:=w) (base:=base) h_pick m_len
  have C_names:=c_names (P:=l.prog) (w:=w) (base:=base) h_names C_pick m_int m_range
  have C_moments:=c_moments (P:=l.prog) (w:=w) (base:=base) h_moments C_pick m_range m_int m_sum m_tuple
  have C_text:=c_text (P:=l.prog) (w:=w) (base:=base) h_text C_pick m_range m_len
  have C_links:=c_links (P:=l.prog) (w:=w) (base:=base) h_links C_pick C_moments m_min m_len m_range m_enumerate m_int m_tuple m_sorted
  have C_book:=c_book (P:=l.prog) (w:=w) (base:=base) h_book C_pick C_names C_text C_moments C_links m_int m_sum m_range m_tuple m_sorted
  have C_llacking:=c_llacking (P:=l.prog) (w:=w) (base:=base) h_llacking m_list
  have C_known:=c_known (P:=l.prog) (w:=w) (base:=base) h_known C_pick m_range m_tuple
  exact ok_law F25 C_draws C_book C_known C_pick C_llacking C_fits_of m_len m_tuple m_sorted
theorem walk {l:PySem.W.OpenLaw} {q:Program} {loose:List Str} {XP:(Str→Option Value)→Heap→Prop} {YP:World→Heap→Prop} {d:DefRec} {K:Params→PySem.W.Frag} (hn:l.most=some 63) (hdf:d.params.defaults=[])
    (hY:∀ (w:World) (h:Heap),YP w h→(K w.params).In h)
    (F:∀ (w:World) (mg:Str→Option Value) (fa:Addr) (h:Heap),(K w.params).In h→h.Ns mainGlobals mg→mg d.name=some (.ref fa) →
      ∃ fd:FuncData,(∀ (s:Shared) (u:Value),BindsTo s fd ⟨[u],[]⟩ [("_law_script",u)])∧∀ base:Heap,(K w.params).In base→base.Ns mainGlobals mg→FnOk l.prog w (K w.params) mg base CX0 8 fa fd ["_law_script"] (spLaw (K w.params))) :
    PySem.W.WalkO q loose XP YP l.row.toRowW d [] (fun f vs=>PySem.call f vs) :=
  L2.walk_of (n:=63) (k:=8) (x:="_law_script") (CX:=fun _=>CX0) (sp:=fun w=>spLaw (K w.params)) hn (by decide) hdf ⟨rfl,by decide,by decide⟩ hY F (fun _ _ a ns hl _ hS=>⟨a,ns,rfl,hS,hl,fun _=>rfl⟩) fun _ _ _ _ _ z=>z
end Mine
def PySem.W.Fast.tw3010754712979361505:Unit:=()
def PySem.W.Fast.tw13250993059227541404:Unit:=()
def PySem.W.Fast.tw14628835956085103276:Unit:=()
def PySem.W.Fast.tw15382630264576066750:Unit:=()
def PySem.W.Fast.tw11320071505780908122:Unit:=()
def PySem.W.Fast.tw9050556267489805797:Unit:=()
def PySem.W.Fast.tw13194976292107954107:Unit:=()
def PySem.W.Fast.tw1930452421441635360:Unit:=()
def PySem.W.Fast.tw13843887447026349809:Unit:=()
def PySem.W.Fast.tw12450912221168054274:Unit:=()
def PySem.W.Fast.tw2585303426616653696:Unit:=()
def PySem.W.Fast.tw11676728702771371463:Unit:=()
def PySem.W.Fast.tw10038012232357258199:Unit:=()
def PySem.W.Fast.tw8535084807267245719:Unit:=()
def PySem.W.Fast.tw494128361858622615:Unit:=()
def PySem.W.Fast.tw280210038132848849:Unit:=()
def PySem.W.Fast.tw7513695556381127490:Unit:=()
def PySem.W.Fast.tw7001331705023342221:Unit:=()
def PySem.W.Fast.tw11607042111086626648:Unit:=()
def PySem.W.Fast.tw14278503592505414398:Unit:=()
def PySem.W.Fast.tw16200655584579535960:Unit:=()
def PySem.W.Fast.tw16426796412477407162:Unit:=()
def PySem.W.Fast.tw13592246526223166597:Unit:=()
def PySem.W.Fast.tw18390041020793035013:Unit:=()
def PySem.W.Fast.tw14551132132773764299:Unit:=()
def PySem.W.Fast.tw743549097271874136:Unit:=()
open PySem PySem.W PyProof.Rows
set_option maxRecDepth 100000 in
set_option maxHeartbeats 0 in
theorem PySem.Challenge.cw_twainkeep_k64_fits_holds : PySem.Challenge.rw_twainkeep_k64_fits.Holds := by
  w_on; o_law; k_head; (case hw=>w_witness2)
  k_fill
  refine Mine.walk (l:=PySem.Challenge.rw_twainkeep_k64_fits) rfl rfl (fun w h Y=>PySem.W.kIn_of Y) ?F
  case F =>
    intro w mg fa h KX G hmg
    refine' Mine.all_mk KX G hmg ?a1 ?l1 ?c1 ?k1 ?a2 ?l2 ?c2 ?k2 ?a3 ?l3 ?c3 ?k3 ?a4 ?l4 ?c4 ?k4 ?a5 ?l5 ?c5 ?k5 ?a6 ?l6 ?c6 ?k6 ?a7 ?l7 ?c7 ?k7 ?a8 ?l8 ?c8 ?k8 ?a9 ?l9 ?c9 ?k9 ?a10 ?l10 ?c10 ?k10 ?a11 ?l11 ?c11 ?k11 ?a12 ?l12 ?c12 ?k12 ?a13 ?l13 ?c13 ?k13 ?a14 ?l14 ?c14 ?k14 ?a15 ?l15 ?c15 ?k15 ?a16 ?l16 ?c16 ?k16 ?a17 ?l17 ?c17 ?k17 ?a18 ?l18 ?c18 ?k18 ?a19 ?l19 ?c19 ?k19 ?a20 ?l20 ?c20 ?k20 ?a21 ?l21 ?c21 ?k21 ?a22 ?l22 ?c22 ?k22 ?a23 ?l23 ?c23 ?k23 ?a24 ?l24 ?c24 ?k24 ?a25 ?l25 ?c25 ?k25 ?p_NoPart ?x_NoPart ?z_len ?z_int ?z_range ?z_tuple ?z_dict ?z_list ?z_sorted ?z_min ?z_sum ?z_abs ?z_set ?z_enumerate
    (case a1=>k_is)
    (case l1=>k_is)
    (case c1=>k_is)
    (case k1=>k_is)
    (case a2=>k_is)
    (case l2=>k_is)
    (case c2=>k_is)
    (case k2=>k_is)
    (case a3=>k_is)
    (case l3=>k_is)
    (case c3=>k_is)
    (case k3=>k_is)
    (case a4=>k_is)
    (case l4=>k_is)
    (case c4=>k_is)
    (case k4=>k_is)
    (case a5=>k_is)
    (case l5=>k_is)
    (case c5=>k_is)
    (case k5=>k_is)
    (case a6=>k_is)
    (case l6=>k_is)
    (case c6=>k_is)
    (case k6=>k_is)
    (case a7=>k_is)
    (case l7=>k_is)
    (case c7=>k_is)
    (case k7=>k_is)
    (case a8=>k_is)
    (case l8=>k_is)
    (case c8=>k_is)
    (case k8=>k_is)
    (case a9=>k_is)
    (case l9=>k_is)
    (case c9=>k_is)
    (case k9=>k_is)
    (case a10=>k_is)
    (case l10=>k_is)
    (case c10=>k_is)
    (case k10=>k_is)
    (case a11=>k_is)
    (case l11=>k_is)
    (case c11=>k_is)
    (case k11=>k_is)
    (case a12=>k_is)
    (case l12=>k_is)
    (case c12=>k_is)
    (case k12=>k_is)
    (case a13=>k_is)
    (case l13=>k_is)
    (case c13=>k_is)
    (case k13=>k_is)
    (case a14=>k_is)
    (case l14=>k_is)
    (case c14=>k_is)
    (case k14=>k_is)
    (case a15=>k_is)
    (case l15=>k_is)
    (case c15=>k_is)
    (case k15=>k_is)
    (case a16=>k_is)
    (case l16=>k_is)
    (case c16=>k_is)
    (case k16=>k_is)
    (case a17=>k_is)
    (case l17=>k_is)
    (case c17=>k_is)
    (case k17=>k_is)
    (case a18=>k_is)
    (case l18=>k_is)
    (case c18=>k_is)
    (case k18=>k_is)
    (case a19=>k_is)
    (case l19=>k_is)
    (case c19=>k_is)
    (case k19=>k_is)
    (case a20=>k_is)
    (case l20=>k_is)
    (case c20=>k_is)
    (case k20=>k_is)
    (case a21=>k_is)
    (case l21=>k_is)
    (case c21=>k_is)
    (case k21=>k_is)
    (case a22=>k_is)
    (case l22=>k_is)
    (case c22=>k_is)
    (case k22=>k_is)
    (case a23=>k_is)
    (case l23=>k_is)
    (case c23=>k_is)
    (case k23=>k_is)
    (case a24=>k_is)
    (case l24=>k_is)
    (case c24=>k_is)
    (case k24=>k_is)
    (case a25=>k_is)
    (case l25=>k_is)
    (case c25=>k_is)
    (case k25=>k_is)
    (case p_NoPart=>k_is)
    (case x_NoPart=>first | k_exc | k_is)
    (case z_len=>k_is)
    (case z_int=>k_is)
    (case z_range=>k_is)
    (case z_tuple=>k_is)
    (case z_dict=>k_is)
    (case z_list=>k_is)
    (case z_sorted=>k_is)
    (case z_min=>k_is)
    (case z_sum=>k_is)
    (case z_abs=>k_is)
    (case z_set=>k_is)
    (case z_enumerate=>k_is)
