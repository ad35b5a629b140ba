import PyProof.Rows.All
import Wide.All
import OpenK.AllK
import Wide.FinOn
import Lean
import PyProof.EqAt
import PyProof.EqKinds
import PyProof.TupleCall
import PyProof.ZipIter
import PyProof.TupleIter
import PyProof.WalksMore
import KE.KWords
import PyProof.MinMaxWalk
import PyProof.SeqI3
import PyProof.MaxThree
import PyProof.AttrMissHeap
import PyProof.DictList
import PyProof.DictIter
import KE.KDictOf
import KE.KDictList
import PyProof.Rows.CallKwBuiltin
import PyProof.Rows.Range3
import PyProof.Rows.StrNews2
import PyProof.StrLawsIdx
import PyProof.StrBlockI
import KE.KRevSl
import PyProof.AutoListH
import PyProof.DictWalks
import PyProof.Draws
import PyProof.EnumMake
import PyProof.NeKinds
import PyProof.Rows.SetFrom
import KE.KSortTup
import PyProof.StrBlock2
import PyProof.DictItems
import KE.KPairComp
import PyProof.Rows.SumAny
import PyProof.ListStr
import PyProof.DictValues
import PyProof.ListRange
import PyProof.TupleOfSeq
import PySem.Challenge.RW_twainkeep_k61_links_of_a_way
set_option Elab.async false
set_option linter.all false
set_option maxRecDepth 100000
namespace L2
open PySem PySem.Spec PyProof.Rows
abbrev Key:=Sum Int Str
def keyIs:Key→Value→Bool
  | .inl k,v=>Value.isInt k v
  | .inr x,v=>Value.isStrOf x v
def keyH (w:World):Key→Int
  | .inl k=>hashInt k
  | .inr x=>hashStr w x
theorem keyIs_shape:∀ {k:Key} {v:Value},keyIs k v=true→(∃ i t,k=Sum.inl i∧v=Value.int i t)∨(∃ x t,k=Sum.inr x∧v=Value.str x t)
  | .inl i,v,h=>by
    obtain ⟨t,e⟩:=Value.isInt_shape (k:=i) (v:=v) h
    exact .inl ⟨i,t,rfl,e⟩
  | .inr x,v,h=>by
    obtain ⟨t,e⟩:=Value.isStrOf_shape (x:=x) (v:=v) h
    exact .inr ⟨x,t,rfl,e⟩
theorem key_ll (a b:Int):decide ((Sum.inl a:Key)=Sum.inl b)=(a == b):=by
  by_cases e:a=b
  · subst e; simp
  · have h:¬ (Sum.inl a:Key)=Sum.inl b:=fun q=>e (Sum.inl.inj q)
    rw [decide_eq_false h]
    exact (beq_eq_false_iff_ne.mpr e).symm
theorem key_rr (a b:Str):decide ((Sum.inr a:Key)=Sum.inr b)=decide (a=b):=by
  by_cases e:a=b
  · subst e; simp
  · have h:¬ (Sum.inr a:Key)=Sum.inr b:=fun q=>e (Sum.inr.inj q)
    rw [decide_eq_false h,decide_eq_false e]
theorem key_lr (a:Int) (b:Str):decide ((Sum.inl a:Key)=Sum.inr b)=false:=decide_eq_false (fun q=>nomatch q)
theorem key_rl (a:Str) (b:Int):decide ((Sum.inr a:Key)=Sum.inl b)=false:=decide_eq_false (fun q=>nomatch q)
def mixKind (prog:Program) (w:World):PySem.KeyKind prog w Key where
  is:=keyIs
  hash:=keyH w
  inj:=fun v a b ha hb=>by
    rcases keyIs_shape ha with ⟨i,t,rfl,rfl⟩ | ⟨x,t,rfl,rfl⟩
    · rcases keyIs_shape hb with ⟨j,u,rfl,e⟩ | ⟨y,u,rfl,e⟩
      · injection e with e1 _; rw [e1]
      · exact nomatch e
    · rcases keyIs_shape hb with ⟨j,u,rfl,e⟩ | ⟨y,u,rfl,e⟩
      · exact nomatch e
      · injection e with e1 _; rw [e1]
  byValue:=fun k v h=>by
    rcases keyIs_shape h with ⟨i,t,rfl,rfl⟩ | ⟨x,t,rfl,rfl⟩ <;> rfl
  pyHash:=fun hv h=>by
    rcases keyIs_shape hv with ⟨i,t,rfl,rfl⟩ | ⟨x,t,rfl,rfl⟩
    · exact wpAny_pyHash_int h
    · exact wpAny_pyHash_str h
  eqBool:=fun hu hv h=>by
    rcases keyIs_shape hu with ⟨i,t,rfl,rfl⟩ | ⟨x,t,rfl,rfl⟩
    · rcases keyIs_shape hv with ⟨j,u,rfl,rfl⟩ | ⟨y,u,rfl,rfl⟩
      · rw [key_ll] at h; exact wpAny_eqBool_int h
      · rw [key_lr] at h; exact SeqAt.EqAt.int_str i t y u _ _ _ _ h
    · rcases keyIs_shape hv with ⟨j,u,rfl,rfl⟩ | ⟨y,u,rfl,rfl⟩
      · rw [key_rl] at h; exact SeqAt.EqAt.str_int x t j u _ _ _ _ h
      · rw [key_rr] at h; exact wpAny_eqBool_str h
  «strs»:=fun k x t v h=>by
    rcases keyIs_shape h with ⟨i,u,rfl,e⟩ | ⟨y,u,rfl,e⟩
    · exact nomatch e
    · injection e with e1 _
      subst e1
      cases v <;> rfl
end L2
namespace L2
open PySem PySem.Spec PyProof.Rows
inductive V where
  | non | bl (b:Bool) | int (i:Int) | str (x:Str) | byt (b:Array UInt8) | flt (b:UInt64) | ref (a:Addr) | ty (n:String)
  deriving DecidableEq
def RelV:V→Value→Prop
  | .non,u=>u=Value.none
  | .bl b,u=>u=Value.bool b
  | .int i,u=>∃ t,u=Value.int i t
  | .str x,u=>∃ t,u=Value.str x t
  | .byt b,u=>∃ t,u=Value.bytes b t
  | .flt b,u=>∃ t,u=Value.float b t
  | .ref a,u=>u=Value.ref a
  | .ty n,u=>u=Value.type n
abbrev Vals:List V→List Value→Prop:=Paired RelV
theorem Vals.length {xs:List V} {us:List Value} (r:Vals xs us):xs.length=us.length:=Paired.length r
theorem Vals.get:∀ {xs:List V} {us:List Value} {i:Nat} {x:V},Vals xs us→xs[i]?=some x→∃ u,us[i]?=some u∧RelV x u
  | _,_,_,_,.nil,e=>by simp at e
  | _,_,0,_,.cons r _,e=>by simp at e; subst e; exact ⟨_,rfl,r⟩
  | _,_,i+1,x,.cons _ t,e=>by
    obtain ⟨u,h1,h2⟩:=Vals.get (i:=i) (x:=x) t (by simpa using e)
    exact ⟨u,by simpa using h1,h2⟩
theorem Vals.set {x:V} {u:Value} (r:RelV x u):∀ {xs:List V} {us:List Value} (i:Nat),Vals xs us→Vals (xs.set i x) (us.set i u)
  | _,_,_,.nil=>.nil
  | _,_,0,.cons _ t=>.cons r t
  | _,_,i+1,.cons q t=>.cons q (Vals.set r i t)
theorem Vals.append:∀ {xs ys:List V} {us ws:List Value},Vals xs us→Vals ys ws→Vals (xs++ys) (us++ws)
  | _,_,_,_,.nil,s=>s
  | _,_,_,_,.cons r t,s=>.cons r (Vals.append t s)
theorem Vals.take:∀ {xs:List V} {us:List Value} (n:Nat),Vals xs us→Vals (xs.take n) (us.take n)
  | _,_,0,_=>.nil
  | _,_,_+1,.nil=>.nil
  | _,_,n+1,.cons r t=>.cons r (Vals.take n t)
theorem Vals.drop:∀ {xs:List V} {us:List Value} (n:Nat),Vals xs us→Vals (xs.drop n) (us.drop n)
  | _,_,0,r=>r
  | _,_,_+1,.nil=>.nil
  | _,_,n+1,.cons _ t=>Vals.drop n t
def RelO:Option V→Option Value→Prop
  | some v,some u=>RelV v u
  | none,none=>True
  | _,_=>False
def KV {κ:Type}:List (κ × V)→List (κ × Value)→Prop:=Paired fun (p:κ × V) (q:κ × Value)=>p.1=q.1∧RelV p.2 q.2
def kV:Key→V
  | .inl i=>.int i
  | .inr x=>.str x
inductive HO where
  | lst (xs:List V)
  | tup (xs:List V)
  | dK (kvs:List (Key × V)) | dT (kvs:List (List Key × V))
  | set (S:Int→Bool) (n:Nat)
  | ins (C dx:Addr) (fs:List (Str × V))
  | own (x:Addr)
  | xd (fs:List (Str × V))
  | met (f x:Addr)
  | rng (lo hi:Int)
  | frz (o:Obj) (u:HO)
  | tbl (ps:Array Value)
  | ext (φ:Heap→Prop)
abbrev Hp:=Addr→Option HO
def upd (H:Hp) (a:Addr) (o:HO):Hp:=fun b=>if b=a then some o else H b
theorem upd_same {H:Hp} {a:Addr} {o:HO}:upd H a o a=some o:=by unfold upd; rw [if_pos rfl]
theorem upd_ne {H:Hp} {a b:Addr} {o:HO} (h:b≠a):upd H a o b=H b:=by unfold upd; rw [if_neg h]
theorem ne_of_none {H:Hp} {a b:Addr} {o:HO} (h:H a=some o) (h':H b=none):a≠b:=by
  intro e; subst e; rw [h] at h'; cases h'
section
variable (P:Program) (w:World)
def ObjOk (H:Hp) (h:Heap) (a:Addr):HO→Prop
  | .lst xs=>xs.length≤sizeLine∧∃ (its:List Value) (n:Nat),Vals xs its∧h.get? a=some { cls:=.type "list",data:=.seq its.toArray n }
  | .tup xs=>xs.length≤sizeLine∧∃ its:List Value,Vals xs its∧IsTup h a its.toArray
  | .dK kvs=>kvs.length≤sizeLine∧(a == sysModules)=false∧∃ vs,KV kvs vs∧h.DictOf (mixKind P w) a vs
  | .dT kvs=>kvs.length≤sizeLine∧(a == sysModules)=false∧∃ xs:List (List Key × Addr × Value),
      Paired (fun (p:List Key × V) (q:List Key × Addr × Value)=>p.1=q.1∧H q.2.1=some (.tup (p.1.map kV))∧RelV p.2 q.2.2) kvs xs ∧
      ∃ o es ep,h.get? a=some o∧o.ExactDict∧o.data=.dict es ep∧es.toList=xs.map (entryOfKey (tupleKind (mixKind P w)))∧(xs.map (·.1)).Nodup
  | .set S n=>h.SetOf (intKind P w) a S n
  | .ins C dx fs=>H dx=some (.own a)∧fs.length≤1000∧dx≠a∧h.get? a=some (PySem.W.instObj C dx) ∧
      ∃ mA,h.Ns1 dx mA∧(∀ f,RelO (fs.lookup f) (mA f))∧PySem.Within mA (fs.map (·.1))
  | .own _=>∃ o,h.get? a=some o
  | .xd fs=>∃ mA,h.Ns1 a mA∧∀ f,RelO (fs.lookup f) (mA f)
  | .rng lo hi=>∃ t u v,h.get? a=some { cls:=.type "range",data:=.fields #[.int lo t,.int hi u,.int 1 v] }
  | .frz o u=>h.get? a=some o∧ObjOk H h a u
  | .tbl ps=>h.get? a=some { cls:=.none,data:=.fields ps }
  | .met f x=>h.get? a=some (PySem.W.methodObj (.ref f) (.ref x))
  | .ext φ=>φ h∧(∃ o,h.get? a=some o)∧∀ h1 h2:Heap,φ h1→(∀ o,h1.get? a=some o→h2.get? a=some o)→φ h2
def HOk (H:Hp) (h:Heap):Prop:=∀ a o,H a=some o→ObjOk P w H h a o
end
section
variable {P:Program} {w:World} {H H':Hp} {h h':Heap} {a:Addr} {o:HO}
theorem ObjOk.lt (x:ObjOk P w H h a o):a < h.objs.size:=by
  cases o with
  | lst xs=>obtain ⟨_,_,_,_,e⟩:=x; exact Heap.lt_size e
  | tup xs=>obtain ⟨_,_,_,p⟩:=x; exact p.lt
  | dK kvs=>obtain ⟨_,_,_,_,o,_,_,e,_⟩:=x; exact Heap.lt_size e
  | dT kvs=>obtain ⟨_,_,_,_,o,_,_,e,_⟩:=x; exact Heap.lt_size e
  | set S n=>obtain ⟨o,_,_,_,e,_⟩:=x; exact Heap.lt_size e
  | ins C dx fs=>obtain ⟨_,_,_,e,_⟩:=x; exact Heap.lt_size e
  | own y=>obtain ⟨_,e⟩:=x; exact Heap.lt_size e
  | xd fs=>obtain ⟨_,⟨_,_,_,e,_⟩,_⟩:=x; exact Heap.lt_size e
  | rng lo hi=>obtain ⟨_,_,_,e⟩:=x; exact Heap.lt_size e
  | frz ob u=>obtain ⟨e,_⟩:=x; exact Heap.lt_size e
  | tbl ps=>exact Heap.lt_size (show h.get? a=some _ from x)
  | met f y=>exact Heap.lt_size (show h.get? a=some _ from x)
  | ext φ=>obtain ⟨_,⟨_,e⟩,_⟩:=x; exact Heap.lt_size e
theorem Paired.mapP {α β:Type} {F G:α→β→Prop}:∀ {l₁:List α} {l₂:List β},Paired F l₁ l₂→(∀ a b,F a b→G a b)→Paired G l₁ l₂
  | _,_,.nil,_=>.nil
  | _,_,.cons r t,f=>.cons (f _ _ r) (Paired.mapP t f)
theorem ObjOk.stay (x:ObjOk P w H h a o) (k:∀ b u,(b=a∨H b=some (.own a))→h.get? b=some u→h'.get? b=some u)
    (ho:∀ b,H b=some (.own a)→H' b=some (.own a)) (ht:∀ b xs,H b=some (.tup xs)→H' b=some (.tup xs)):ObjOk P w H' h' a o:=by
  induction o with
  | lst xs=>obtain ⟨z,its,n,r,e⟩:=x; exact ⟨z,its,n,r,k _ _ (.inl rfl) e⟩
  | tup xs=>obtain ⟨z,its,r,ob,e,c⟩:=x; exact ⟨z,its,r,ob,k _ _ (.inl rfl) e,c⟩
  | dK kvs=>obtain ⟨z,y,vs,r,ob,es,ep,e,c⟩:=x; exact ⟨z,y,vs,r,ob,es,ep,k _ _ (.inl rfl) e,c⟩
  | dT kvs =>
    obtain ⟨z,y,xs,r,ob,es,ep,e,c⟩:=x
    exact ⟨z,y,xs,Paired.mapP r fun p q z=>⟨z.1,ht _ _ z.2.1,z.2.2⟩,ob,es,ep,k _ _ (.inl rfl) e,c⟩
  | set S n=>obtain ⟨ob,es,ep,t,e,c⟩:=x; exact ⟨ob,es,ep,t,k _ _ (.inl rfl) e,c⟩
  | ins C dx fs =>
    obtain ⟨d,z,ne,e,mA,⟨od,es,ep,e2,c⟩,r⟩:=x
    exact ⟨ho _ d,z,ne,k _ _ (.inl rfl) e,mA,⟨od,es,ep,k _ _ (.inr d) e2,c⟩,r⟩
  | own y=>obtain ⟨ob,e⟩:=x; exact ⟨ob,k _ _ (.inl rfl) e⟩
  | xd fs=>obtain ⟨mA,⟨od,es,ep,e,c⟩,r⟩:=x; exact ⟨mA,⟨od,es,ep,k _ _ (.inl rfl) e,c⟩,r⟩
  | rng lo hi=>obtain ⟨t,u,v,e⟩:=x; exact ⟨t,u,v,k _ _ (.inl rfl) e⟩
  | frz ob u ih=>obtain ⟨e,q⟩:=x; exact ⟨k _ _ (.inl rfl) e,ih q⟩
  | tbl ps =>
    have e:h.get? a=some { cls:=.none,data:=.fields ps }:=x
    show h'.get? a=some { cls:=.none,data:=.fields ps }
    exact k a _ (.inl rfl) e
  | met f y =>
    have e:h.get? a=some (PySem.W.methodObj (.ref f) (.ref y)):=x
    show h'.get? a=some (PySem.W.methodObj (.ref f) (.ref y))
    exact k a _ (.inl rfl) e
  | ext φ=>obtain ⟨p,⟨o,e⟩,st⟩:=x; exact ⟨st _ _ p fun o q=>k _ _ (.inl rfl) q,⟨o,k _ _ (.inl rfl) e⟩,st⟩
theorem HOk.lt (x:HOk P w H h) (e:H a=some o):a < h.objs.size:=(x a o e).lt
theorem HOk.fresh (x:HOk P w H h) (e:h.objs.size≤a):H a=none:=by
  cases q:H a with
  | none=>rfl
  | some u=>exact absurd (Nat.lt_of_lt_of_le (x.lt q) e) (Nat.lt_irrefl _)
theorem HOk.kept (x:HOk P w H h) (k:∀ b u,h.get? b=some u→h'.get? b=some u):HOk P w H h':=fun a o e =>
  (x a o e).stay (fun b u _ q=>k b u q) (fun _ q=>q) fun _ _ q=>q
theorem HOk.laid (x:HOk P w H h) (k:∀ b u,h.get? b=some u→h'.get? b=some u) (hp:h.objs.size≤a) (new:ObjOk P w (upd H a o) h' a o):HOk P w (upd H a o) h':=fun b u e=>by
  have hn:=x.fresh hp
  by_cases hb:b=a
  · subst hb; rw [upd_same] at e; cases e; exact new
  · rw [upd_ne hb] at e
    exact (x b u e).stay (fun c v _ q=>k c v q) (fun c q=>by rw [upd_ne (ne_of_none q hn)]; exact q) fun c xs q=>by rw [upd_ne (ne_of_none q hn)]; exact q
end
def Rd (H:Hp) (a:Addr) (u:HO):Prop:=H a=some u∨∃ o,H a=some (.frz o u)
theorem Rd.of {H:Hp} {a:Addr} {u:HO} (h:H a=some u):Rd H a u:=.inl h
theorem Rd.ok {P:Program} {w:World} {H:Hp} {h:Heap} {a:Addr} {u:HO} (r:Rd H a u) (x:HOk P w H h):ObjOk P w H h a u:=by
  rcases r with r | ⟨o,r⟩
  · exact x a u r
  · obtain ⟨_,q⟩:=x a _ r
    exact q
def Mut:Option HO→Prop
  | some (.lst _)=>True
  | some (.dK _)=>True
  | some (.dT _)=>True
  | some (.set _ _)=>True
  | some (.ins _ _ _)=>True
  | some (.ext _)=>True
  | _=>False
section
variable {P:Program} {w:World} {H:Hp} {h h':Heap} {x e:Addr} {o':HO}
theorem HOk.write (ok:HOk P w H h) (mu:Mut (H x)) (he:e=x∨H e=some (.own x)) (k:∀ b u,b≠e→h.get? b=some u→h'.get? b=some u) (heo:∃ u,h'.get? e=some u)
    (new:ObjOk P w (upd H x o') h' x o'):HOk P w (upd H x o') h':=fun b u q=>by
  have nown:∀ c y,H c=some (.own y)→c≠x:=fun c y r z=>by subst z; rw [r] at mu; exact mu
  have ntup:∀ c xs,H c=some (.tup xs)→c≠x:=fun c xs r z=>by subst z; rw [r] at mu; exact mu
  by_cases hb:b=x
  · subst hb; rw [upd_same] at q; cases q; exact new
  · rw [upd_ne hb] at q
    by_cases hbe:b=e
    · have q':H b=some (.own x):=by
        rcases he with z | z
        · exact absurd (hbe.trans z) hb
        · rw [hbe]; exact z
      rw [q] at q'; cases q'
      obtain ⟨v,hv⟩:=heo
      exact ⟨v,by rw [hbe]; exact hv⟩
    · refine (ok b u q).stay (fun c v hc r=>k c v ?_ r) (fun c r=>by rw [upd_ne (nown c b r)]; exact r) fun c xs r=>by rw [upd_ne (ntup c xs r)]; exact r
      rcases hc with rfl | hc
      · exact hbe
      · rintro rfl
        rcases he with z | z
        · exact nown c b hc z
        · rw [hc] at z; cases z; exact hb rfl
end
structure Un (fs ex:List Addr) (H H':Hp) (h h':Heap):Prop where
  keep:∀ b o,h.get? b=some o→H b=none→b ∉ fs→b ∉ ex→h'.get? b=some o
  slot:∀ b o,h.get? b=some o→H b=none→b∈fs→b ∉ ex→∃ sl,h'.get? b=some { o with slots:=sl }
  free:∀ b o,h.get? b=some o→H b=none→b ∉ ex→H' b=none
  there:∀ b o,h.get? b=some o→b ∉ ex→∃ o',h'.get? b=some o'
  tups:∀ b xs,H b=some (.tup xs)→H' b=some (.tup xs)
  frzs:∀ b o u,H b=some (.frz o u)→H' b=some (.frz o u)
  tbls:∀ b ps,H b=some (.tbl ps)→∃ more,H' b=some (.tbl (ps++more))
section
variable {fs fs' ex ex':List Addr} {H H1 H2:Hp} {h h1 h2 h':Heap} {a x e:Addr} {o:HO}
theorem Un.any (u:Un fs ex H H1 h h1) {b:Addr} {ob:Obj} (q:h.get? b=some ob) (n:H b=none) (hx:b ∉ ex):∃ sl,h1.get? b=some { ob with slots:=sl }:=by
  by_cases hb:b∈fs
  · exact u.slot b ob q n hb hx
  · exact ⟨ob.slots,u.keep b ob q n hb hx⟩
theorem Un.trans (a:Un fs ex H H1 h h1) (b:Un fs ex H1 H2 h1 h2):Un fs ex H H2 h h2 where
  keep:=fun c ob q n hc hx=>b.keep c ob (a.keep c ob q n hc hx) (a.free c ob q n hx) hc hx
  slot:=fun c ob q n hc hx=>by
    obtain ⟨sl,e1⟩:=a.slot c ob q n hc hx
    obtain ⟨sl',e2⟩:=b.slot c _ e1 (a.free c ob q n hx) hc hx
    exact ⟨sl',e2⟩
  free:=fun c ob q n hx=>by
    obtain ⟨o',e1⟩:=a.there c ob q hx
    exact b.free c o' e1 (a.free c ob q n hx) hx
  there:=fun c ob q hx=>by
    obtain ⟨o',e1⟩:=a.there c ob q hx
    exact b.there c o' e1 hx
  tups:=fun c xs q=>b.tups c xs (a.tups c xs q)
  frzs:=fun c ob xs q=>b.frzs c ob xs (a.frzs c ob xs q)
  tbls:=fun c ps q=>by
    obtain ⟨m1,e1⟩:=a.tbls c ps q
    obtain ⟨m2,e2⟩:=b.tbls c _ e1
    exact ⟨m1++m2,by rw [e2,Array.append_assoc]⟩
theorem Un.kept (k:∀ b u,h.get? b=some u→h'.get? b=some u):Un fs ex H H h h' :=
  ⟨fun b ob q _ _ _=>k b ob q,fun b ob q _ _ _=>⟨ob.slots,k b ob q⟩,fun _ _ _ n _=>n,fun b ob q _=>⟨ob,k b ob q⟩,fun _ _ q=>q,fun _ _ _ q=>q,fun _ ps q=>⟨#[],by rw [q]; simp⟩⟩
theorem Un.refl:Un fs ex H H h h:=Un.kept fun _ _ q=>q
theorem Un.laid (k:∀ b u,h.get? b=some u→h'.get? b=some u) (hp:h.objs.size≤a) (hn:H a=none):Un fs ex H (upd H a o) h h' where
  keep:=fun b u q _ _ _=>k b u q
  slot:=fun b u q _ _ _=>⟨u.slots,k b u q⟩
  free:=fun b u q n _=>by rw [upd_ne (Nat.ne_of_lt (Nat.lt_of_lt_of_le (Heap.lt_size q) hp))]; exact n
  there:=fun b u q _=>⟨u,k b u q⟩
  tups:=fun b xs q=>by rw [upd_ne (ne_of_none q hn)]; exact q
  frzs:=fun b u xs q=>by rw [upd_ne (ne_of_none q hn)]; exact q
  tbls:=fun b ps q=>⟨#[],by rw [upd_ne (ne_of_none q hn),q]; simp⟩
theorem Un.write (mu:Mut (H x)) (he:e=x∨H e=some (.own x)) (k:∀ b u,b≠e→h.get? b=some u→h'.get? b=some u) (heo:∃ u,h'.get? e=some u):Un fs ex H (upd H x o) h h':=by
  have hx:∀ b,H b=none→b≠x:=fun b n z=>by subst z; rw [n] at mu; exact mu
  have hb:∀ b,H b=none→b≠e:=fun b n z=>by
    subst z
    rcases he with r | r
    · exact hx b n r
    · rw [n] at r; cases r
  have hm:∀ b u,H b=some u→¬ Mut (some u)→b≠x:=fun b u q nm z=>by subst z; rw [q] at mu; exact nm mu
  refine ⟨fun b u q n _ _=>k b u (hb b n) q,fun b u q n _ _=>⟨u.slots,k b u (hb b n) q⟩,fun b u q n _=>by rw [upd_ne (hx b n)]; exact n,fun b u q _=>?_,
    fun b xs q=>by rw [upd_ne (hm b _ q fun z=>z)]; exact q,fun b u xs q=>by rw [upd_ne (hm b _ q fun z=>z)]; exact q,fun b ps q=>⟨#[],by rw [upd_ne (hm b _ q fun z=>z),q]; simp⟩⟩
  by_cases hbe:b=e
  · subst hbe; exact heo
  · exact ⟨u,k b u hbe q⟩
theorem Un.mono (u:Un fs ex H H1 h h1) (hs:∀ b∈fs,b∈fs') (hx:∀ b∈ex,b∈ex'):Un fs' ex' H H1 h h1 :=
  ⟨fun b ob q n hb he=>u.keep b ob q n (fun z=>hb (hs b z)) fun z=>he (hx b z),fun _ _ q n _ he=>u.any q n fun z=>he (hx _ z),fun b ob q n he=>u.free b ob q n fun z=>he (hx b z),fun b ob q he=>u.there b ob q fun z=>he (hx b z),u.tups,u.frzs,u.tbls⟩
end
def trk (h:Heap) (H:Hp):List Addr:=(List.range h.objs.size).filter fun a=>(H a).isSome
def hidT (h:Heap) (H:Hp):Heap:=PySem.W.hideAll h (trk h H)
theorem hidT_size (h:Heap) (H:Hp):(hidT h H).objs.size=h.objs.size:=PySem.W.hideAll_size _ _
theorem hidT_get {h:Heap} {H:Hp} {b:Addr} {o:Obj} (e:h.get? b=some o) (n:H b=none):(hidT h H).get? b=some o :=
  PySem.W.hideAll_get _ e fun hm=>by
    have q:(H b).isSome=true:=(List.mem_filter.mp hm).2
    rw [n] at q; simp at q
theorem of_hidT {h:Heap} {H:Hp} {b:Addr} {o:Obj} (e:(hidT h H).get? b=some o):h.get? b=some o∧H b=none:=by
  have e':h.get? b=some o:=PySem.W.of_hideAll (trk h H) e
  refine ⟨e',?_⟩
  cases q:H b with
  | none=>rfl
  | some x =>
    have hm:b∈trk h H:=List.mem_filter.mpr ⟨List.mem_range.mpr (Heap.lt_size e'),by simp [q]⟩
    have z:(hidT h H).get? b=none:=PySem.W.hideAll_none (trk h H) hm
    rw [z] at e; cases e
def allNews (g h:Heap) (L:Addr):List (Addr × Obj):=(List.range h.objs.size).filterMap fun a=>if a=L∨(g.get? a).isSome=true then none else (h.get? a).map fun o=>(a,o)
def rest (g h:Heap) (L d:Addr):List (Addr × Obj):=(allNews g h L).filter fun p=>decide (p.1≠d)
end L2
namespace L2
open PySem PySem.Spec PyProof.Rows
structure Mod (K:PySem.W.Frag) (mg:Str→Option Value) (base:Heap):Prop where
  kin:K.In base
  glob:base.Ns mainGlobals mg
  blt:∃ mb,base.Ns builtinsNs mb∧∀ x:Str,x ≠ "__name__"→mb x=bootBuiltins x
  nolimit:base.NoLimit
structure Cx where
  prog:Program
  w:World
  K:PySem.W.Frag
  mg:Str→Option Value
  base:Heap
  A:Around
  N:List Str
  s₀:Shared
  H₀:Hp
  env:Env
  outer:List Env
  stack:List Env
  ex:List Addr
  fn:Str→Bool
  calm:Bool
  pn:List (Addr × Obj)
  xe:Value→Shared→Prop
def frs (l:List Env):List Addr:=l.filterMap (·.frame)
abbrev Cx.fs (X:Cx):List Addr:=frs X.outer
def Vis (sc:Scope) (x:Str):Prop:=sc.names.lookup x=some .local∨sc.names.lookup x=some .cell∨sc.names.lookup x=some .free
def Loc (sc:Scope) (x:Str):Prop:=sc.names.lookup x=some .local∨sc.names.lookup x=some .cell
def Look (env:Env) (h:Heap) (m:Str→Option Value) (x:Str) (u:Value):Prop :=
  (env.kindOf x=some .local∧m x=some u)∨((env.kindOf x=some .cell∨env.kindOf x=some .free)∧∃ c,env.cells.lookup x=some c∧h.IsCell c (some u))
structure Cx.Ok (X:Cx):Prop where
  mod:Mod X.K X.mg X.base
  kind:X.env.scope.kind=.function
  glob:X.env.globals=mainGlobals
  blt:X.env.builtins=builtinsNs
  above:X.s₀.heap.objs.size≤X.env.locals
  inj:∀ x y c,X.env.cells.lookup x=some c→X.env.cells.lookup y=some c→x=y
  has:∀ x,(X.env.kindOf x=some .cell∨X.env.kindOf x=some .free)→∃ c,X.env.cells.lookup x=some c
  cab:∀ x c,X.fn x=true→X.env.cells.lookup x=some c→X.s₀.heap.objs.size≤c
  hd:X.calm=true→X.A.handled=none
  frames:X.A.frames=some X.stack
  stk:X.stack=X.outer∨(X.stack=X.env :: X.outer∧X.env.frame=some X.env.locals)
  exf:∀ b∈X.ex,b≠X.env.locals∧∀ x c,X.env.cells.lookup x=some c→c≠b
  bs:∀ b o,X.base.get? b=some o→X.s₀.heap.get? b=some o∧X.H₀ b=none
  bsz:X.base.objs.size≤X.s₀.heap.objs.size
  noex:∀ b o,X.base.get? b=some o→b ∉ X.ex
  exfs:∀ b∈X.ex,b ∉ X.fs
  funs:X.s₀.heap.FunFrames X.base X.outer
  frf:∀ b∈X.fs,X.H₀ b=none
structure Inv (X:Cx) (pins:List (Addr × Obj)) (σ:List (Option V)) (H:Hp) (s:Shared):Prop where
  ok:X.Ok
  os:s.os=X.s₀.os
  bare:AllBare s.gens
  base:Un X.fs X.ex X.H₀ H X.s₀.heap s.heap
  loc:∃ m,s.heap.Ns X.env.locals m∧∀ (i:Nat) (x:Str) (v:V),X.N[i]?=some x→σ[i]?=some (some v)→Vis X.env.scope x→∃ u,RelV v u∧Look X.env s.heap m x u
  cell:∀ x c,X.env.cells.lookup x=some c→∃ v,s.heap.IsCell c v
  free:H X.env.locals=none
  freeC:∀ x c,X.env.cells.lookup x=some c→H c=none
  pin:∀ p∈X.pn++pins,s.heap.get? p.1=some p.2∧H p.1=none∧p.1≠X.env.locals∧p.1 ∉ X.fs∧∀ v,p.2.data≠.cell v
  hok:HOk X.prog X.w H s.heap
  len:σ.length=X.N.length
section
variable {X:Cx} {pins:List (Addr × Obj)} {σ:List (Option V)} {H H':Hp} {s:Shared} {h':Heap}
theorem Cx.Ok.nofr (ok:X.Ok) {b:Addr} {o:Obj} (e:X.base.get? b=some o):b ∉ X.fs:=fun hb=>by
  have:=(ok.funs.mem hb).1
  rw [e] at this; cases this
theorem Inv.bs (I:Inv X pins σ H s):∀ b o,X.base.get? b=some o→s.heap.get? b=some o∧H b=none:=fun b o e =>
  ⟨I.base.keep b o (I.ok.bs b o e).1 (I.ok.bs b o e).2 (I.ok.nofr e) (I.ok.noex b o e),I.base.free b o (I.ok.bs b o e).1 (I.ok.bs b o e).2 (I.ok.noex b o e)⟩
theorem Inv.bk (I:Inv X pins σ H s):∀ b o,X.base.get? b=some o→s.heap.get? b=some o:=fun b o e=>(I.bs b o e).1
theorem Inv.mod (I:Inv X pins σ H s):Mod X.K X.mg X.base:=I.ok.mod
theorem Inv.kIn (I:Inv X pins σ H s):X.K.In s.heap:=I.ok.mod.kin.keeps I.bk
theorem Inv.nolimit (I:Inv X pins σ H s):s.heap.NoLimit:=I.ok.mod.nolimit.keeps I.bk
theorem Inv.fr (I:Inv X pins σ H s):∃ m,Fr X.base X.env.locals s.heap m :=
  let ⟨m,hn,_⟩:=I.loc
  ⟨m,hn,I.bk,Nat.le_trans I.ok.bsz I.ok.above⟩
theorem Inv.lt (I:Inv X pins σ H s):X.env.locals < s.heap.objs.size:=let ⟨_,hn,_⟩:=I.loc; hn.lt
theorem Inv.sz (I:Inv X pins σ H s):X.s₀.heap.objs.size≤s.heap.objs.size:=Nat.le_trans I.ok.above (Nat.le_of_lt I.lt)
theorem Inv.nofs (I:Inv X pins σ H s) {a:Addr} (h:s.heap.objs.size≤a):a ∉ X.fs:=fun hb=>by
  obtain ⟨_,o,ho,_⟩:=I.ok.funs.mem hb
  exact absurd (Nat.lt_of_lt_of_le (Heap.lt_size ho) (Nat.le_trans I.sz h)) (Nat.lt_irrefl _)
theorem Inv.cne (I:Inv X pins σ H s):∀ x c,X.env.cells.lookup x=some c→c≠X.env.locals:=fun x c e z=>by
  obtain ⟨v,o,ho,hd⟩:=I.cell x c e
  obtain ⟨m,⟨o',es,ep,ho',hd',_⟩,_⟩:=I.loc
  rw [z,ho'] at ho; cases ho; rw [hd'] at hd; cases hd
theorem Inv.funs (I:Inv X pins σ H s):s.heap.FunFrames X.base X.outer:=by
  have all:∀ (l:List Env),(∀ b∈frs l,b∈X.fs)→X.s₀.heap.FunFrames X.base l→s.heap.FunFrames X.base l:=by
    intro l
    induction l with
    | nil=>intro _ _; trivial
    | cons env r ih =>
      intro hs hl
      obtain ⟨hk,⟨L,o,hf,hn,ho,hd⟩,hr⟩:=hl
      have hL:L∈X.fs:=hs L (by unfold frs; rw [List.filterMap_cons,hf]; exact List.mem_cons_self)
      obtain ⟨sl,e⟩:=I.base.slot L o ho (I.ok.frf L hL) hL fun z=>I.ok.exfs L z hL
      exact ⟨hk,⟨L,_,hf,hn,e,hd⟩,ih (fun b hb=>hs b (by unfold frs; rw [List.filterMap_cons,hf]; exact List.mem_cons_of_mem _ hb)) hr⟩
  exact all X.outer (fun _ hb=>hb) I.ok.funs
theorem Inv.stack (I:Inv X pins σ H s):s.heap.FunFrames X.base X.stack:=by
  rcases I.ok.stk with e | ⟨e,hf⟩
  · rw [e]; exact I.funs
  · rw [e]
    obtain ⟨m,hn,_⟩:=I.loc
    refine .cons (by rw [I.ok.kind]; decide) hf hn ?_ I.funs
    exact Heap.get?_none_of_le (Nat.le_trans I.ok.bsz I.ok.above)
theorem Inv.stkSub (I:Inv X pins σ H s):∀ b∈frs X.stack,b∈X.env.locals :: X.fs:=fun b hb=>by
  rcases I.ok.stk with e | ⟨e,hf⟩
  · rw [e] at hb; exact List.mem_cons_of_mem _ hb
  · rw [e] at hb
    unfold frs at hb
    rw [List.filterMap_cons,hf] at hb
    exact hb
theorem Inv.stkFree (I:Inv X pins σ H s):∀ b∈frs X.stack,H b=none:=fun b hb=>by
  rcases List.mem_cons.mp (I.stkSub b hb) with e | hb
  · rw [e]; exact I.free
  · obtain ⟨_,o,ho,_⟩:=I.ok.funs.mem hb
    exact I.base.free b o ho (I.ok.frf b hb) fun z=>I.ok.exfs b z hb
theorem Inv.step {g':Array GenState} {t':Nat} {d':Drawn} {ch:List Addr} (I:Inv X pins σ H s)
    (hch:∀ b∈ch,(b∈X.ex∨X.s₀.heap.objs.size≤b)∧b≠X.env.locals∧(∀ x c,X.env.cells.lookup x=some c→c≠b)∧∀ p∈X.pn++pins,p.1≠b)
    (keep:∀ b o,b≠X.env.locals→b ∉ X.fs→b ∉ ch→s.heap.get? b=some o→H b=none→h'.get? b=some o)
    (slot:∀ b o,b≠X.env.locals→b∈X.fs→b ∉ ch→s.heap.get? b=some o→H b=none→∃ sl,h'.get? b=some { o with slots:=sl }) (free:∀ b o,b ∉ ch→s.heap.get? b=some o→H b=none→H' b=none)
    (there:∀ b o,b ∉ ch→s.heap.get? b=some o→∃ o',h'.get? b=some o')
    (tups:∀ b xs,H b=some (.tup xs)→H' b=some (.tup xs)) (frzs:∀ b o u,H b=some (.frz o u)→H' b=some (.frz o u)) (tbls:∀ b ps,H b=some (.tbl ps)→∃ more,H' b=some (.tbl (ps++more)))
    (ns:∀ m,s.heap.Ns X.env.locals m→h'.Ns X.env.locals m) (hok:HOk X.prog X.w H' h') (hg:AllBare g') :
    Inv X pins σ H' { s with heap:=h',gens:=g',drawn:=d',toks:=t' }:=by
  have neL:∀ b o,X.s₀.heap.get? b=some o→b≠X.env.locals:=fun b o e=>Nat.ne_of_lt (Nat.lt_of_lt_of_le (Heap.lt_size e) I.ok.above)
  have neC:∀ b o,X.s₀.heap.get? b=some o→b ∉ X.ex→b ∉ ch:=fun b o e hx hb=>by
    rcases (hch b hb).1 with z | z
    · exact hx z
    · exact absurd (Nat.lt_of_lt_of_le (Heap.lt_size e) z) (Nat.lt_irrefl _)
  have cellK:∀ x c,X.env.cells.lookup x=some c→∀ v,s.heap.IsCell c v→h'.IsCell c v:=fun x c e v ⟨o,ho,hd⟩=>by
    have nch:c ∉ ch:=fun z=>(hch c z).2.2.1 x c e rfl
    by_cases hc:c∈X.fs
    · obtain ⟨sl,q⟩:=slot c o (I.cne x c e) hc nch ho (I.freeC x c e)
      exact ⟨_,q,hd⟩
    · exact ⟨o,keep c o (I.cne x c e) hc nch ho (I.freeC x c e),hd⟩
  refine ⟨I.ok,I.os,hg,⟨fun b o e n hb hx=>?_,fun b o e n hb hx=>?_,fun b o e n hx=>?_,fun b o e hx=>?_,fun b xs e=>tups b xs (I.base.tups b xs e),fun b o xs e=>frzs b o xs (I.base.frzs b o xs e),fun b ps e=>?_⟩,?_,fun x c e=>?_,?_,fun x c e=>?_,fun p hp=>?_,hok,I.len⟩
  · exact keep b o (neL b o e) hb (neC b o e hx) (I.base.keep b o e n hb hx) (I.base.free b o e n hx)
  · obtain ⟨sl,e1⟩:=I.base.slot b o e n hb hx
    obtain ⟨sl',e2⟩:=slot b _ (neL b o e) hb (neC b o e hx) e1 (I.base.free b o e n hx)
    exact ⟨sl',e2⟩
  · obtain ⟨o',e1⟩:=I.base.there b o e hx
    exact free b o' (neC b o e hx) e1 (I.base.free b o e n hx)
  · obtain ⟨o',e1⟩:=I.base.there b o e hx
    exact there b o' (neC b o e hx) e1
  · obtain ⟨m1,e1⟩:=I.base.tbls b ps e
    obtain ⟨m2,e2⟩:=tbls b _ e1
    exact ⟨m1++m2,by rw [e2,Array.append_assoc]⟩
  · obtain ⟨m,hn,hl⟩:=I.loc
    refine ⟨m,ns m hn,fun i x v e1 e2 e3=>?_⟩
    obtain ⟨u,r,l⟩:=hl i x v e1 e2 e3
    refine ⟨u,r,?_⟩
    rcases l with l | ⟨k,c,e,z⟩
    · exact .inl l
    · exact .inr ⟨k,c,e,cellK x c e _ z⟩
  · obtain ⟨v,z⟩:=I.cell x c e
    exact ⟨v,cellK x c e v z⟩
  · obtain ⟨m,⟨o,_,_,ho,_⟩,_⟩:=I.loc
    exact free _ o (fun z=>(hch _ z).2.1 rfl) ho I.free
  · obtain ⟨v,o,ho,hd⟩:=I.cell x c e
    exact free c o (fun z=>(hch c z).2.2.1 x c e rfl) ho (I.freeC x c e)
  · obtain ⟨e,n,ne,nf,d⟩:=I.pin p hp
    have nch:p.1 ∉ ch:=fun z=>(hch p.1 z).2.2.2 p hp rfl
    exact ⟨keep p.1 p.2 ne nf nch e n,free p.1 p.2 nch e n,ne,nf,d⟩
theorem Inv.un {t':Nat} (I:Inv X pins σ H s) (u:Un X.fs [] H H' s.heap h') (hok:HOk X.prog X.w H' h'):Inv X pins σ H' { s with heap:=h',toks:=t' }:=by
  obtain ⟨m,⟨o,es,ep,ho,r⟩,_⟩:=id I.loc
  obtain ⟨sl,hL⟩:=u.any ho I.free (by simp)
  exact I.step (g':=s.gens) (d':=s.drawn) (ch:=[]) (fun _ z=>nomatch z) (fun b o _ hb _ e n=>u.keep b o e n hb (by simp)) (fun b o _ hb _ e n=>u.slot b o e n hb (by simp)) (fun b o _ e n=>u.free b o e n (by simp)) (fun b o _ e=>u.there b o e (by simp)) u.tups u.frzs u.tbls (fun m' hm=>by
    obtain ⟨o',es',ep',ho',r'⟩:=hm
    rw [ho] at ho'; cases ho'
    exact ⟨_,es',ep',hL,r'⟩) hok I.bare
theorem Inv.call {g':Array GenState} {t':Nat} {d':Drawn} {ch:List Addr} (I:Inv X pins σ H s) (u:Un (frs X.stack) ch H H' s.heap h') (hok:HOk X.prog X.w H' h') (hg:AllBare g')
    (hch:∀ b∈ch,(b∈X.ex∨X.s₀.heap.objs.size≤b)∧b≠X.env.locals∧(∀ x c,X.env.cells.lookup x=some c→c≠b)∧∀ p∈X.pn++pins,p.1≠b) :
    Inv X pins σ H' { s with heap:=h',gens:=g',drawn:=d',toks:=t' }:=by
  obtain ⟨m,⟨o,es,ep,ho,r⟩,_⟩:=id I.loc
  obtain ⟨sl,hL⟩:=u.any ho I.free fun z=>(hch _ z).2.1 rfl
  exact I.step (ch:=ch) hch (fun b o hL hb hc e n=>u.keep b o e n (fun z=>(List.mem_cons.mp (I.stkSub b z)).elim hL hb) hc) (fun b o _ _ hc e n=>u.any e n hc) (fun b o hc e n=>u.free b o e n hc) (fun b o hc e=>u.there b o e hc) u.tups u.frzs u.tbls (fun m' hm=>by
    obtain ⟨o',es',ep',ho',r'⟩:=hm
    rw [ho] at ho'; cases ho'
    exact ⟨_,es',ep',hL,r'⟩) hok hg
theorem Inv.turned {t':Nat} {it:Addr} (I:Inv X pins σ H s) (k:∀ b o,b≠it→s.heap.get? b=some o→h'.get? b=some o) (hn:H it=none) (hL:it≠X.env.locals)
    (h1:it∈X.ex∨X.s₀.heap.objs.size≤it) (h2:∀ x c,X.env.cells.lookup x=some c→c≠it) (h3:∀ p∈X.pn++pins,p.1≠it):Inv X pins σ H { s with heap:=h',toks:=t' }:=by
  have nit:∀ b u,H b=some u→b≠it:=fun b u e z=>by rw [z,hn] at e; cases e
  refine I.step (g':=s.gens) (d':=s.drawn) (ch:=[it]) (fun b hb=>?_) (fun b o _ _ hc e _=>k b o (fun z=>hc (by simp [z])) e) (fun b o _ _ hc e _=>⟨o.slots,k b o (fun z=>hc (by simp [z])) e⟩) (fun _ _ _ _ n=>n)
    (fun b o hc e=>⟨o,k b o (fun z=>hc (by simp [z])) e⟩) (fun _ _ e=>e) (fun _ _ _ e=>e) (fun b ps e=>⟨#[],by rw [e]; simp⟩) (fun m hm=>?_) (fun b u e=>?_) I.bare
  · have e:b=it:=by simpa using hb
    subst e
    exact ⟨h1,hL,h2,h3⟩
  · obtain ⟨o,es,ep,ho,r⟩:=hm
    exact ⟨o,es,ep,k _ o (Ne.symm hL) ho,r⟩
  · refine (I.hok b u e).stay (fun c v hc q=>k c v ?_ q) (fun _ q=>q) fun _ _ q=>q
    rcases hc with z | z
    · rw [z]; exact nit b u e
    · exact nit c _ z
theorem Inv.tok (I:Inv X pins σ H s) (t:Nat):Inv X pins σ H { s with toks:=t }:=I.un (h':=s.heap) (t':=t) Un.refl I.hok
theorem Inv.kept {t':Nat} (I:Inv X pins σ H s) (k:∀ b u,s.heap.get? b=some u→h'.get? b=some u):Inv X pins σ H { s with heap:=h',toks:=t' }:=I.un (Un.kept k) (I.hok.kept k)
theorem Inv.laid {a:Addr} {o:HO} {t':Nat} (I:Inv X pins σ H s) (k:∀ b u,s.heap.get? b=some u→h'.get? b=some u) (hp:s.heap.objs.size≤a) (new:ObjOk X.prog X.w (upd H a o) h' a o) :
    Inv X pins σ (upd H a o) { s with heap:=h',toks:=t' }:=I.un (Un.laid k hp (I.hok.fresh hp)) (I.hok.laid k hp new)
theorem Inv.write {x e:Addr} {o:HO} {t':Nat} (I:Inv X pins σ H s) (mu:Mut (H x)) (he:e=x∨H e=some (.own x)) (k:∀ b u,b≠e→s.heap.get? b=some u→h'.get? b=some u) (heo:∃ u,h'.get? e=some u)
    (new:ObjOk X.prog X.w (upd H x o) h' x o):Inv X pins σ (upd H x o) { s with heap:=h',toks:=t' }:=I.un (Un.write mu he k heo) (I.hok.write mu he k heo new)
theorem Inv.pins_of {pins':List (Addr × Obj)} (I:Inv X pins σ H s) (h:∀ p∈pins',s.heap.get? p.1=some p.2∧H p.1=none∧p.1≠X.env.locals∧p.1 ∉ X.fs∧∀ v,p.2.data≠.cell v):Inv X pins' σ H s :=
  ⟨I.ok,I.os,I.bare,I.base,I.loc,I.cell,I.free,I.freeC,fun p hp=>(List.mem_append.mp hp).elim (fun z=>I.pin p (List.mem_append_left _ z)) (h p),I.hok,I.len⟩
theorem nodup_ix {N:List Str} (hN:N.Nodup) {i j:Nat} {x:Str} (a:N[i]?=some x) (b:N[j]?=some x):i=j:=by
  obtain ⟨h1,e1⟩:=List.getElem?_eq_some_iff.mp a
  obtain ⟨h2,e2⟩:=List.getElem?_eq_some_iff.mp b
  exact (List.getElem_inj hN).mp (e1.trans e2.symm)
theorem store_ok2 {M:Model} {A:Around} {E:Value→Shared→Prop} {i:Nat} {x:Str} {v:V} {u:Value} {Q:Unit→Shared→Prop} (I:Inv X pins σ H s) (hN:X.N.Nodup) (hi:X.N[i]?=some x) (hx:Loc X.env.scope x) (r:RelV v u)
    (h:∀ s',Inv X pins (σ.set i (some v)) H s'→(∃ a,Heap.SameBut a s.heap s'.heap∧(a=X.env.locals∨X.env.cells.lookup x=some a))→Q () s') (hf:X.fn x=true∨X.env.scope.names.lookup x=some .local:=by first | exact .inl rfl | exact .inr rfl | assumption):wpAny M A (storeName X.env x u) Q E s:=by
  obtain ⟨m,hn,hl⟩:=id I.loc
  have hcls:(X.env.scope.kind == .class || (X.env.scope.kind == .module && X.env.locals != X.env.globals))=false:=by rw [I.ok.kind]; rfl
  have hiσ:i < σ.length:=by rw [I.len]; exact (List.getElem?_eq_some_iff.mp hi).1
  have cne:=I.cne
  have tracked:∀ {a:Addr} {h':Heap},(∃ o,s.heap.get? a=some o∧H a=none)→Heap.SameBut a s.heap h'→HOk X.prog X.w H h':=fun {a h'} ha hs b ob e=>by
    obtain ⟨_,_,hfree⟩:=ha
    refine (I.hok b ob e).stay (fun c w' hc q=>(hs.2 c ?_).trans q) (fun _ q=>q) fun _ _ q=>q
    rintro rfl
    rcases hc with rfl | hc
    · rw [hfree] at e; cases e
    · rw [hfree] at hc; cases hc
  rcases hx with hk | hk
  · refine wpAny_storeName_local hk hn (fun h' hn' hs=>?_) hcls
    obtain ⟨oL,_,_,hoL,_⟩:=id hn
    refine h _ ⟨I.ok,I.os,I.bare,⟨fun b o e n hb hx=>?_,fun b o e n hb hx=>?_,I.base.free,fun b o e hx=>?_,I.base.tups,I.base.frzs,I.base.tbls⟩,⟨_,hn',fun j y v' e1 e2 e3=>?_⟩,fun y c e=>?_,I.free,I.freeC,fun p hp=>?_,tracked ⟨oL,hoL,I.free⟩ hs,by simpa using I.len⟩ ⟨_,hs,.inl rfl⟩
    · exact (hs.2 b (Nat.ne_of_lt (Nat.lt_of_lt_of_le (Heap.lt_size e) I.ok.above))).trans (I.base.keep b o e n hb hx)
    · obtain ⟨sl,e1⟩:=I.base.slot b o e n hb hx
      exact ⟨sl,(hs.2 b (Nat.ne_of_lt (Nat.lt_of_lt_of_le (Heap.lt_size e) I.ok.above))).trans e1⟩
    · obtain ⟨o',e1⟩:=I.base.there b o e hx
      exact ⟨o',(hs.2 b (Nat.ne_of_lt (Nat.lt_of_lt_of_le (Heap.lt_size e) I.ok.above))).trans e1⟩
    · by_cases hj:j=i
      · subst hj
        rw [hi] at e1; cases e1
        rw [List.getElem?_set_self hiσ] at e2
        cases e2
        exact ⟨u,r,.inl ⟨hk,by simp⟩⟩
      · rw [List.getElem?_set_ne (Ne.symm hj)] at e2
        obtain ⟨u',r',q⟩:=hl j y v' e1 e2 e3
        refine ⟨u',r',?_⟩
        rcases q with ⟨k,e⟩ | ⟨k,c,e,z⟩
        · refine .inl ⟨k,?_⟩
          have:y≠x:=fun e=>hj (nodup_ix hN e1 (e ▸ hi))
          simp [this,e]
        · exact .inr ⟨k,c,e,z.sameBut hs (cne y c e)⟩
    · obtain ⟨w',z⟩:=I.cell y c e
      exact ⟨w',z.sameBut hs (cne y c e)⟩
    · obtain ⟨e,n,ne,nf,d⟩:=I.pin p hp
      exact ⟨(hs.2 p.1 ne).trans e,n,ne,nf,d⟩
  · have hfn:X.fn x=true:=by
      rcases hf with z | z
      · exact z
      · rw [z] at hk; cases hk
    obtain ⟨c,hc⟩:=I.ok.has x (.inl hk)
    obtain ⟨w',z⟩:=I.cell x c hc
    refine wpAny_storeName_cell I.ok.kind hk hc z (fun h' hc' hs=>?_)
    obtain ⟨oc,hoc,hocd⟩:=id z
    refine h { s with heap:=h' } ⟨I.ok,I.os,I.bare,⟨fun b o e n hb hx=>?_,fun b o e n hb hx=>?_,I.base.free,fun b o e hx=>?_,I.base.tups,I.base.frzs,I.base.tbls⟩,⟨m,hn.sameBut hs (Ne.symm (cne x c hc)),fun j y v' e1 e2 e3=>?_⟩,fun y c' e=>?_,I.free,I.freeC,fun p hp=>?_,tracked ⟨oc,hoc,I.freeC x c hc⟩ hs,by simpa using I.len⟩ ⟨c,hs,.inr hc⟩
    · exact (hs.2 b (Nat.ne_of_lt (Nat.lt_of_lt_of_le (Heap.lt_size e) (I.ok.cab x c hfn hc)))).trans (I.base.keep b o e n hb hx)
    · obtain ⟨sl,e1⟩:=I.base.slot b o e n hb hx
      exact ⟨sl,(hs.2 b (Nat.ne_of_lt (Nat.lt_of_lt_of_le (Heap.lt_size e) (I.ok.cab x c hfn hc)))).trans e1⟩
    · obtain ⟨o',e1⟩:=I.base.there b o e hx
      exact ⟨o',(hs.2 b (Nat.ne_of_lt (Nat.lt_of_lt_of_le (Heap.lt_size e) (I.ok.cab x c hfn hc)))).trans e1⟩
    · by_cases hj:j=i
      · subst hj
        rw [hi] at e1; cases e1
        rw [List.getElem?_set_self hiσ] at e2
        cases e2
        exact ⟨u,r,.inr ⟨.inl hk,c,hc,hc'⟩⟩
      · rw [List.getElem?_set_ne (Ne.symm hj)] at e2
        obtain ⟨u',r',q⟩:=hl j y v' e1 e2 e3
        refine ⟨u',r',?_⟩
        rcases q with q | ⟨k,c',e,z'⟩
        · exact .inl q
        · refine .inr ⟨k,c',e,z'.sameBut hs ?_⟩
          rintro rfl
          exact hj (nodup_ix hN e1 (I.ok.inj _ _ _ e hc ▸ hi))
    · by_cases hcc:c'=c
      · subst hcc; exact ⟨_,hc'⟩
      · obtain ⟨w2,z2⟩:=I.cell y c' e
        exact ⟨w2,z2.sameBut hs hcc⟩
    · obtain ⟨e,n,ne,nf,d⟩:=I.pin p hp
      refine ⟨(hs.2 p.1 ?_).trans e,n,ne,nf,d⟩
      intro q
      rw [q,hoc] at e
      have q':oc=p.2:=Option.some.inj e
      exact d w' (by rw [← q']; exact hocd)
theorem store_ok {M:Model} {A:Around} {E:Value→Shared→Prop} {i:Nat} {x:Str} {v:V} {u:Value} {Q:Unit→Shared→Prop} (I:Inv X pins σ H s) (hN:X.N.Nodup) (hi:X.N[i]?=some x) (hx:Loc X.env.scope x) (r:RelV v u)
    (h:∀ s',Inv X pins (σ.set i (some v)) H s'→Q () s') (hf:X.fn x=true∨X.env.scope.names.lookup x=some .local:=by first | exact .inl rfl | exact .inr rfl | assumption):wpAny M A (storeName X.env x u) Q E s :=
  store_ok2 I hN hi hx r (fun s' I' _=>h s' I') hf
theorem Inv.call' {s':Shared} {ch:List Addr} (I:Inv X pins σ H s) (ho:s'.os=s.os) (u:Un (frs X.stack) ch H H' s.heap s'.heap) (hok:HOk X.prog X.w H' s'.heap) (hg:AllBare s'.gens)
    (hch:∀ b∈ch,(b∈X.ex∨X.s₀.heap.objs.size≤b)∧b≠X.env.locals∧(∀ x c,X.env.cells.lookup x=some c→c≠b)∧∀ p∈X.pn++pins,p.1≠b):Inv X pins σ H' s':=by
  obtain ⟨h',g',d',t',o'⟩:=s'
  have e:o'=s.os:=ho
  subst e
  exact I.call (g':=g') (t':=t') (d':=d') u hok hg hch
end
abbrev XK:=Value→Option Addr→Hp→Prop
abbrev St:=List (Option V)
abbrev VK:=V→Hp→Prop
abbrev TE:=St→Hp→VK→Prop
abbrev TT:=St→Hp→(Bool→Hp→Prop)→Prop
abbrev TA:=St→Hp→(List V→Hp→Prop)→Prop
structure Ends where
  nx:St→Hp→Prop
  rt:VK
  bk:St→Hp→Prop:=fun _ _=>False
  ct:St→Hp→Prop:=fun _ _=>False
abbrev TS:=Ends→St→Hp→Prop
def EP (X:Cx) (pins:List (Addr × Obj)) (σ:St) (Q:VK) (u:Value) (s':Shared):Prop:=∃ v H',Inv X pins σ H' s'∧RelV v u∧Q v H'
def TP (X:Cx) (pins:List (Addr × Obj)) (σ:St) (Q:Bool→Hp→Prop) (b:Bool) (s':Shared):Prop:=∃ H',Inv X pins σ H' s'∧Q b H'
def AP (X:Cx) (pins:List (Addr × Obj)) (σ:St) (Q:List V→Hp→Prop) (us:List Value) (s':Shared):Prop:=∃ vs H',Inv X pins σ H' s'∧Vals vs us∧Q vs H'
def SP (X:Cx) (pins:List (Addr × Obj)) (D:Ends) (f:Flow) (s':Shared):Prop :=
  match f with
  | .next=>∃ σ' H',Inv X pins σ' H' s'∧D.nx σ' H'
  | .brk=>∃ σ' H',Inv X pins σ' H' s'∧D.bk σ' H'
  | .cont=>∃ σ' H',Inv X pins σ' H' s'∧D.ct σ' H'
  | .ret u=>∃ v σ' H',Inv X pins σ' H' s'∧RelV v u∧D.rt v H'
def PE (X:Cx) (e:Expr) (t:TE):Prop :=
  ∀ (pins:List (Addr × Obj)) (s:Shared) (σ:St) (H:Hp) (Q:VK),Inv X pins σ H s→t σ H Q→wpAny (model X.prog X.w) X.A (eval e X.env) (EP X pins σ Q) X.xe s
def PT (X:Cx) (e:Expr) (t:TT):Prop :=
  ∀ (pins:List (Addr × Obj)) (s:Shared) (σ:St) (H:Hp) (Q:Bool→Hp→Prop),Inv X pins σ H s→t σ H Q→wpAny (model X.prog X.w) X.A (isTrue e X.env (eval e X.env)) (TP X pins σ Q) X.xe s
def PW (X:Cx) (e:Expr) (t:TT):Prop :=
  ∀ (whole:Sem Value) (pins:List (Addr × Obj)) (s:Shared) (σ:St) (H:Hp) (Q:Bool→Hp→Prop),Inv X pins σ H s→t σ H Q→wpAny (model X.prog X.w) X.A (isTrue e X.env whole) (TP X pins σ Q) X.xe s
theorem PW.pt {X:Cx} {e:Expr} {t:TT} (h:PW X e t):PT X e t:=h _
def PA (X:Cx) (es:List Expr) (t:TA):Prop :=
  ∀ (pos:Pos) (pins:List (Addr × Obj)) (s:Shared) (σ:St) (H:Hp) (Q:List V→Hp→Prop),Inv X pins σ H s→t σ H Q→wpAny (model X.prog X.w) X.A (spliced (backTo pos (starEach es X.env))) (AP X pins σ Q) X.xe s
def PS (X:Cx) (st:Stmt) (t:TS):Prop :=
  ∀ (pins:List (Addr × Obj)) (s:Shared) (σ:St) (H:Hp) (D:Ends),Inv X pins σ H s→t D σ H→wpAny (model X.prog X.w) X.A (exec st X.env) (SP X pins D) X.xe s
def PSs (X:Cx) (st:List Stmt) (t:TS):Prop :=
  ∀ (pins:List (Addr × Obj)) (s:Shared) (σ:St) (H:Hp) (D:Ends),Inv X pins σ H s→t D σ H→wpAny (model X.prog X.w) X.A (execs st X.env) (SP X pins D) X.xe s
theorem thn {α:Type} {t:Sem α} {Q Q':α→Shared→Prop} {M:Model} {A:Around} {E:Value→Shared→Prop} {s:Shared} (h:wpAny M A t Q E s) (hQ:∀ a s,Q a s→Q' a s):wpAny M A t Q' E s:=wpAny_mono h hQ fun _ _ x=>x
end L2
namespace L2
open PySem PySem.Spec PyProof.Rows
section
variable {X:Cx}
def tVar (i:Nat):TE:=fun σ H Q=>∃ v,σ[i]?=some (some v)∧Q v H
def tC (v:V):TE:=fun _ H Q=>Q v H
theorem pe_var {i:Nat} {x:Str} {pos:Pos} (hN:X.N[i]?=some x) (hv:Vis X.env.scope x) (hd:(x == ("__debug__" : Str))=false:=by decide) (hcd:(x == ("__classdict__" : Str))=false:=by decide):PE X (.Name x pos) (tVar i):=by
  intro pins s σ H Q I h
  obtain ⟨v,e,h⟩:=h
  obtain ⟨m,hn,hl⟩:=I.loc
  obtain ⟨u,r,l⟩:=hl i x v hN e hv
  have fin:EP X pins σ Q u s:=⟨v,H,I,r,h⟩
  rcases l with ⟨hk,hm⟩ | ⟨hk,c,hc,hcell⟩
  · exact wpAny_Name (wpAny_loadName_local I.ok.kind hk hn hm fin) hd
  · rcases hk with hk | hk
    · exact wpAny_Name (wpAny_loadName_cell I.ok.kind hk hc hcell fin) hd
    · exact wpAny_Name (wpAny_loadName_free I.ok.kind hk hc hcell fin hcd) hd
theorem pe_int {i j pos}:PE X (.Constant (.int i) j pos) (tC (.int i)):=fun _ _ _ H _ I h=>wpAny_Constant_int ⟨.int i,H,I.tok _,⟨_,rfl⟩,h⟩
theorem pe_bl {b j pos}:PE X (.Constant (.bool b) j pos) (tC (.bl b)):=fun _ _ _ H _ I h=>Constant_bool ⟨.bl b,H,I,rfl,h⟩
theorem pe_str {x j pos}:PE X (.Constant (.str x) j pos) (tC (.str x)):=fun _ _ _ H _ I h=>Calls.Constant_str ⟨.str x,H,I.tok _,⟨_,rfl⟩,h⟩
def Gl (X:Cx) (x:Str):Prop:=X.env.kindOf x=some .globalImplicit
theorem ld_glob {E:Value→Shared→Prop} {pins:List (Addr × Obj)} {s:Shared} {σ:St} {H:Hp} {x:Str} {u:Value} {pos:Pos} {Q:Value→Shared→Prop} (I:Inv X pins σ H s) (hg:Gl X x) (hm:X.mg x=some u) (h:Q u s)
    (hd:(x == ("__debug__" : Str))=false:=by decide):wpAny (model X.prog X.w) X.A (eval (.Name x pos) X.env) Q E s :=
  Calls.Name_function_global I.ok.kind hg (Calls.loadGlobal_global (by rw [I.ok.glob]; exact I.mod.glob.keeps I.bk) hm h) hd
theorem ld_blt {E:Value→Shared→Prop} {pins:List (Addr × Obj)} {s:Shared} {σ:St} {H:Hp} {x:Str} {u:Value} {pos:Pos} {Q:Value→Shared→Prop} (I:Inv X pins σ H s) (hg:Gl X x) (hm:X.mg x=none) (hv:bootBuiltins x=some u) (h:Q u s)
    (hn:x ≠ "__name__":=by decide) (hd:(x == ("__debug__" : Str))=false:=by decide):wpAny (model X.prog X.w) X.A (eval (.Name x pos) X.env) Q E s:=by
  obtain ⟨mb,h1,h2⟩:=I.mod.blt
  exact Calls.Name_function_global I.ok.kind hg (Calls.loadGlobal_builtin (by rw [I.ok.glob]; exact I.mod.glob.keeps I.bk) hm (by rw [I.ok.blt]; exact h1.keeps I.bk) ((h2 x hn).trans hv) h) hd
theorem pe_bltn {x:Str} {v:V} {u:Value} {pos:Pos} (hg:Gl X x) (hm:X.mg x=none) (hv:bootBuiltins x=some u) (r:RelV v u) (hn:x ≠ "__name__":=by decide) (hd:(x == ("__debug__" : Str))=false:=by decide):PE X (.Name x pos) (tC v) :=
  fun _ _ _ H _ I h=>ld_blt I hg hm hv ⟨v,H,I,r,h⟩ hn hd
variable {a b:Expr} {ta tb:TE} {pos:Pos}
def tB (t:TE):TT:=fun σ H Q=>t σ H fun x H1=>∃ c,x=.bl c∧Q c H1
theorem pt_val {e:Expr} {t:TE} (h:PE X e t) (he:∀ whole,isTrue e X.env whole=(do let v ← whole; standAt e.pos; holding [v] (truthy v)):=by intro _; rfl):PT X e (tB t):=by
  intro pins s σ H Q I hw
  refine isTrue_plain (thn (h pins s σ H _ I hw) fun v s1 ⟨x,H1,I1,r1,q1⟩=>?_) (he _)
  obtain ⟨d,rfl,q⟩:=q1
  cases r1
  exact wpAny_truthy_bool ⟨H1,I1,q⟩
variable {tA tB':TT} {rest:List Expr}
def tAnd (t u:TT):TT:=fun σ H Q=>t σ H fun c H1=>if c=true then u σ H1 Q else Q false H1
def tOr (t u:TT):TT:=fun σ H Q=>t σ H fun c H1=>if c=true then Q true H1 else u σ H1 Q
def tNot (t:TT):TT:=fun σ H Q=>t σ H fun c H1=>Q (!c) H1
theorem pw_and1 (ha:PT X a tA):PW X (.BoolOp .And [a] pos) tA:=by
  intro wh pins s σ H Q I h
  refine isTrue_and (thn (ha pins s σ H Q I h) fun c s1 e=>?_)
  cases c with
  | true=>exact isTrue_and_nil e
  | false=>exact e
theorem pw_or1 (ha:PT X a tA):PW X (.BoolOp .Or [a] pos) tA:=by
  intro wh pins s σ H Q I h
  refine isTrue_or (thn (ha pins s σ H Q I h) fun c s1 e=>?_)
  cases c with
  | false=>exact isTrue_or_nil e
  | true=>exact e
theorem pw_and (ha:PT X a tA) (hb:PW X (.BoolOp .And (b :: rest) pos) tB'):PW X (.BoolOp .And (a :: b :: rest) pos) (tAnd tA tB'):=by
  intro wh pins s σ H Q I h
  refine isTrue_and (thn (ha pins s σ H _ I h) fun c s1 ⟨H1,I1,q1⟩=>?_)
  cases c with
  | true=>exact hb wh pins s1 σ H1 Q I1 q1
  | false=>exact ⟨H1,I1,q1⟩
theorem pw_or (ha:PT X a tA) (hb:PW X (.BoolOp .Or (b :: rest) pos) tB'):PW X (.BoolOp .Or (a :: b :: rest) pos) (tOr tA tB'):=by
  intro wh pins s σ H Q I h
  refine isTrue_or (thn (ha pins s σ H _ I h) fun c s1 ⟨H1,I1,q1⟩=>?_)
  cases c with
  | true=>exact ⟨H1,I1,q1⟩
  | false=>exact hb wh pins s1 σ H1 Q I1 q1
theorem pt_not (ha:PT X a tA):PT X (.UnaryOp .Not a pos) (tNot tA):=by
  intro pins s σ H Q I h
  exact isTrue_not (ha pins s σ H (fun c H1=>Q (!c) H1) I h)
end
end L2
namespace L2
open PySem PySem.Spec PyProof.Rows
def SqL (K:PySem.W.Frag) (H:Hp) (a:Addr) (xs:List V):Prop :=
  Rd H a (.lst xs) ∨
    ∃ (o:Obj) (its:Array Value) (n:Nat),K.lookup a=some o∧o.cls=.type "list"∧o.dict=none∧o.data=.seq its n∧its.size≤sizeLine∧Vals xs its.toList
def SqT (K:PySem.W.Frag) (H:Hp) (a:Addr) (xs:List V):Prop :=
  Rd H a (.tup xs) ∨
    ∃ (o:Obj) (its:Array Value) (n:Nat),K.lookup a=some o∧o.cls=.type "tuple"∧o.data=.seq its n∧its.size≤sizeLine∧Vals xs its.toList
def absV:Value→Option V
  | .none=>some .non
  | .bool b=>some (.bl b)
  | .int i _=>some (.int i)
  | .str x _=>some (.str x)
  | .bytes b _=>some (.byt b)
  | .float b _=>some (.flt b)
  | .ref a=>some (.ref a)
  | .type n=>some (.ty n)
  | _=>none
theorem RelV.abs {x:V} {u:Value} (r:RelV x u):absV u=some x:=by
  cases x with
  | non=>cases r; rfl
  | bl _=>cases r; rfl
  | int _=>obtain ⟨t,rfl⟩:=r; rfl
  | str _=>obtain ⟨t,rfl⟩:=r; rfl
  | byt _=>obtain ⟨t,rfl⟩:=r; rfl
  | flt _=>obtain ⟨t,rfl⟩:=r; rfl
  | ref _=>cases r; rfl
  | ty _=>cases r; rfl
theorem RelV.inj {x y:V} {u:Value} (r:RelV x u) (q:RelV y u):x=y:=Option.some.inj (r.abs.symm.trans q.abs)
theorem Vals.inj:∀ {xs ys:List V} {us:List Value},Vals xs us→Vals ys us→xs=ys
  | _,_,_,.nil,.nil=>rfl
  | _,_,_,.cons r t,.cons r' t'=>by rw [r.inj r',Vals.inj t t']
section
variable {X:Cx} {pins:List (Addr × Obj)} {σ:St} {H:Hp} {s:Shared} {a:Addr} {xs ys:List V}
theorem SqL.of {K:PySem.W.Frag} (h:H a=some (.lst xs)):SqL K H a xs:=.inl (.inl h)
theorem SqT.of {K:PySem.W.Frag} (h:H a=some (.tup xs)):SqT K H a xs:=.inl (.inl h)
theorem Inv.list (I:Inv X pins σ H s) (h:SqL X.K H a xs):∃ its:List Value,Vals xs its∧PlainL s.heap a its.toArray∧xs.length≤sizeLine:=by
  rcases h with h | ⟨o,its,n,hk,hc,hd,hs,hz,r⟩
  · obtain ⟨z,its,n,r,e⟩:=h.ok I.hok
    exact ⟨its,r,⟨_,n,e,rfl,rfl,rfl⟩,z⟩
  · refine ⟨its.toList,r,⟨o,n,I.kIn a o hk,hc,hd,by simpa using hs⟩,?_⟩
    have e:=r.length
    simp only [Array.length_toList] at e
    omega
theorem Inv.tuple (I:Inv X pins σ H s) (h:SqT X.K H a xs):∃ its:List Value,Vals xs its∧IsTup s.heap a its.toArray∧xs.length≤sizeLine:=by
  rcases h with h | ⟨o,its,n,hk,hc,hs,hz,r⟩
  · obtain ⟨z,its,r,p⟩:=h.ok I.hok
    exact ⟨its,r,p,z⟩
  · refine ⟨its.toList,r,⟨o,I.kIn a o hk,hc,n,by simpa using hs⟩,?_⟩
    have e:=r.length
    simp only [Array.length_toList] at e
    omega
theorem Inv.list_inj (I:Inv X pins σ H s) (h:SqL X.K H a xs) (h':SqL X.K H a ys):xs=ys:=by
  obtain ⟨its,r,⟨o,n,e,_,_,d⟩,_⟩:=I.list h
  obtain ⟨its',r',⟨o',n',e',_,_,d'⟩,_⟩:=I.list h'
  rw [e] at e'; cases e'
  rw [d] at d'
  injection d' with d1 _
  have:its=its':=by simpa using congrArg Array.toList d1
  subst this
  exact r.inj r'
theorem Inv.tuple_inj (I:Inv X pins σ H s) (h:SqT X.K H a xs) (h':SqT X.K H a ys):xs=ys:=by
  obtain ⟨its,r,⟨o,e,_,n,d⟩,_⟩:=I.tuple h
  obtain ⟨its',r',⟨o',e',_,n',d'⟩,_⟩:=I.tuple h'
  rw [e] at e'; cases e'
  rw [d] at d'
  injection d' with d1 _
  have:its=its':=by simpa using congrArg Array.toList d1
  subst this
  exact r.inj r'
end
abbrev Cx.wish (X:Cx) (E:Value→Shared→Prop):Cx:={ X with xe:=E }
abbrev Cx.nox (X:Cx):Cx:=X.wish fun _ _=>False
theorem Cx.Ok.wish {X:Cx} (ok:X.Ok) (E:Value→Shared→Prop):(X.wish E).Ok :=
  ⟨ok.mod,ok.kind,ok.glob,ok.blt,ok.above,ok.inj,ok.has,ok.cab,ok.hd,ok.frames,ok.stk,ok.exf,ok.bs,ok.bsz,ok.noex,ok.exfs,ok.funs,ok.frf⟩
theorem Cx.Ok.unwish {X:Cx} {E:Value→Shared→Prop} (ok:(X.wish E).Ok):X.Ok :=
  ⟨ok.mod,ok.kind,ok.glob,ok.blt,ok.above,ok.inj,ok.has,ok.cab,ok.hd,ok.frames,ok.stk,ok.exf,ok.bs,ok.bsz,ok.noex,ok.exfs,ok.funs,ok.frf⟩
section
variable {X:Cx} {pins:List (Addr × Obj)} {σ:St} {H:Hp} {s:Shared} {E:Value→Shared→Prop}
theorem Inv.wish (I:Inv X pins σ H s) (E:Value→Shared→Prop):Inv (X.wish E) pins σ H s:=⟨I.ok.wish E,I.os,I.bare,I.base,I.loc,I.cell,I.free,I.freeC,I.pin,I.hok,I.len⟩
theorem Inv.unwish (I:Inv (X.wish E) pins σ H s):Inv X pins σ H s:=⟨I.ok.unwish,I.os,I.bare,I.base,I.loc,I.cell,I.free,I.freeC,I.pin,I.hok,I.len⟩
theorem SP.unwish {D:Ends} {f:Flow} {s':Shared} (h:SP (X.wish E) pins D f s'):SP X pins D f s':=by
  cases f with
  | next=>obtain ⟨σ',H',I,q⟩:=h; exact ⟨σ',H',I.unwish,q⟩
  | brk=>obtain ⟨σ',H',I,q⟩:=h; exact ⟨σ',H',I.unwish,q⟩
  | cont=>obtain ⟨σ',H',I,q⟩:=h; exact ⟨σ',H',I.unwish,q⟩
  | ret u=>obtain ⟨v,σ',H',I,r,q⟩:=h; exact ⟨v,σ',H',I.unwish,r,q⟩
theorem PE.nox {e:Expr} {t:TE} (h:PE X.nox e t):PE X e t:=fun pins s σ H Q I hw =>
  wpAny_mono (h pins s σ H Q (I.wish _) hw) (fun _ _ ⟨v,H',I',r,q⟩=>⟨v,H',I'.unwish,r,q⟩) fun _ _ z=>False.elim z
theorem PT.nox {e:Expr} {t:TT} (h:PT X.nox e t):PT X e t:=fun pins s σ H Q I hw =>
  wpAny_mono (h pins s σ H Q (I.wish _) hw) (fun _ _ ⟨H',I',q⟩=>⟨H',I'.unwish,q⟩) fun _ _ z=>False.elim z
theorem PSs.nox {st:List Stmt} {t:TS} (h:PSs X.nox st t):PSs X st t:=fun pins s σ H D I hw =>
  wpAny_mono (h pins s σ H D (I.wish _) hw) (fun _ _ q=>q.unwish) fun _ _ z=>False.elim z
end
section
variable {X:Cx} {st:Stmt} {rest:List Stmt} {t u:TS} {e:Expr} {te:TE} {pos:Pos}
def tNext:TS:=fun D σ H=>D.nx σ H
def tSeq (t u:TS):TS:=fun D σ H=>t { D with nx:=u D } σ H
theorem pss_nil:PSs X [] tNext:=fun _ _ σ H _ I h=>wpAny_execs_nil ⟨σ,H,I,h⟩
theorem pss_cons (h1:PS X st t) (h2:PSs X rest u):PSs X (st :: rest) (tSeq t u):=by
  intro pins s σ H D I h
  refine wpAny_execs_cons (thn (h1 pins s σ H { D with nx:=u D } I h) fun f s1 q=>?_)
  cases f with
  | next =>
    obtain ⟨σ',H',I',q⟩:=q
    exact h2 pins s1 σ' H' D I' q
  | ret v=>exact q
  | brk=>exact q
  | cont=>exact q
theorem pss_one (h1:PS X st t):PSs X [st] t:=by
  intro pins s σ H D I h
  refine wpAny_execs_cons (thn (h1 pins s σ H D I h) fun f s1 q=>?_)
  cases f with
  | next=>exact wpAny_execs_nil q
  | ret v=>exact q
  | brk=>exact q
  | cont=>exact q
theorem Inv.quiet {pins:List (Addr × Obj)} {σ:St} {H:Hp} {s:Shared} (I:Inv X pins σ H s):interactive X.env=false:=by simp [interactive,I.ok.kind]
def tDrop (te:TE):TS:=fun D σ H=>te σ H fun _ H1=>D.nx σ H1
theorem ps_expr (he:PE X e te) (hs:swapsWith e none pos.line X.env=pure false:=by rfl):PS X (.Expr e pos) (tDrop te):=by
  intro pins s σ H D I h
  exact wpAny_Expr_any (thn (he pins s σ H _ I h) fun v s1 ⟨x,H1,I1,r1,q1⟩=>⟨σ,H1,I1,q1⟩) I.quiet hs
def tRet (te:TE):TS:=fun D σ H=>te σ H D.rt
theorem ps_ret (he:PE X e te):PS X (.Return (some e) pos) (tRet te):=by
  intro pins s σ H D I h
  exact wpAny_Return_some (thn (he pins s σ H _ I h) fun v s1 ⟨x,H1,I1,r1,q1⟩=>⟨x,σ,H1,I1,r1,q1⟩)
def tIfS (c:TT) (t u:TS):TS:=fun D σ H=>c σ H fun b H1=>if b=true then t D σ H1 else u D σ H1
theorem ps_if {c:Expr} {a b:List Stmt} {tc:TT} (hc:PT X c tc) (ha:PSs X a t) (hb:PSs X b u):PS X (.If c a b pos) (tIfS tc t u):=by
  intro pins s σ H D I h
  refine wpAny_If (thn (hc pins s σ H _ I h) fun d s1 ⟨H1,I1,q1⟩=>?_)
  cases d with
  | true=>exact ha pins s1 σ H1 D I1 q1
  | false=>exact hb pins s1 σ H1 D I1 q1
end
abbrev TG:=V→St→Hp→(St→Hp→Prop)→Prop
abbrev TGs:=List V→St→Hp→(St→Hp→Prop)→Prop
def PG (X:Cx) (target:Expr) (t:TG):Prop :=
  ∀ (pins:List (Addr × Obj)) (s:Shared) (σ:St) (H:Hp) (v:V) (u:Value) (Q:St→Hp→Prop),Inv X pins σ H s→RelV v u→t v σ H Q →
    wpAny (model X.prog X.w) X.A (assign target X.env u) (fun _ s'=>∃ σ' H',Inv X pins σ' H' s'∧Q σ' H') X.xe s
def PGs (X:Cx) (ts:List Expr) (t:TGs):Prop :=
  ∀ (pins:List (Addr × Obj)) (s:Shared) (σ:St) (H:Hp) (vs:List V) (us:List Value) (Q:St→Hp→Prop),Inv X pins σ H s→Vals vs us→t vs σ H Q →
    wpAny (model X.prog X.w) X.A (assignInOrder ((assignEach ts X.env).map (·.2)) us) (fun _ s'=>∃ σ' H',Inv X pins σ' H' s'∧Q σ' H') X.xe s
abbrev TSet:=V→V→V→Hp→(Hp→Prop)→Prop
def PSet (X:Cx) (t:TSet):Prop :=
  ∀ (pins:List (Addr × Obj)) (s:Shared) (σ:St) (H:Hp) (o i v:V) (ov iv u:Value) (Q:Hp→Prop),Inv X pins σ H s→RelV o ov→RelV i iv→RelV v u→t o i v H Q →
    wpAny (model X.prog X.w) X.A (setItem ov iv u) (fun _ s'=>∃ H',Inv X pins σ H' s'∧Q H') X.xe s
section
variable {X:Cx} {pos:Pos}
def gName (i:Nat):TG:=fun v σ H Q=>Q (σ.set i (some v)) H
theorem pg_name {i:Nat} {x:Str} (hN:X.N.Nodup) (hi:X.N[i]?=some x) (hx:Loc X.env.scope x) (hf:X.fn x=true∨X.env.scope.names.lookup x=some .local:=by first | exact .inl rfl | exact .inr rfl | assumption):PG X (.Name x pos) (gName i):=by
  intro pins s σ H v u Q I r h
  exact wpAny_assign_Name (store_ok I hN hi hx r (fun s' I'=>⟨_,H,I',h⟩) hf)
def gNil:TGs:=fun vs σ H Q=>vs=[]∧Q σ H
def gCons (t:TG) (u:TGs):TGs:=fun vs σ H Q=>∃ v r,vs=v :: r∧t v σ H fun σ' H'=>u r σ' H' Q
theorem pgs_nil:PGs X [] gNil:=by
  intro pins s σ H vs us Q I r h
  obtain ⟨e,h⟩:=h
  subst e
  cases r
  exact assignInOrder_nil ⟨σ,H,I,h⟩
theorem pgs_cons {e:Expr} {es:List Expr} {t:TG} {u:TGs} (h1:PG X e t) (h2:PGs X es u)
    (hs:(assignEach (e :: es) X.env).map (·.2)=assign e X.env :: (assignEach es X.env).map (·.2):=by rfl):PGs X (e :: es) (gCons t u):=by
  intro pins s σ H vs us Q I r h
  obtain ⟨v,vr,e1,h⟩:=h
  subst e1
  cases r with
  | cons r rr =>
    rw [hs]
    refine assignInOrder_cons (thn (h1 pins s σ H _ _ _ I r h) fun _ s1 ⟨σ1,H1,I1,q1⟩=>?_)
    exact h2 pins s1 σ1 H1 _ _ Q I1 rr q1
def gTup (K:PySem.W.Frag) (n:Nat) (t:TGs):TG:=fun v σ H Q=>∃ a xs,v=.ref a∧SqT K H a xs∧xs.length=n∧t xs σ H Q
theorem pg_tup {es:List Expr} {k:Nat} {t:TGs} {n:Nat} (hc:X.calm=true) (h:PGs X es t)
    (hn:(assignEach es X.env).length=n:=by rfl) (hst:(assignEach es X.env).findIdx? (·.1)=none:=by rfl):PG X (.Tuple es k pos) (gTup X.K n t):=by
  intro pins s σ H v u Q I r hw
  obtain ⟨a,xs,e1,hq,hl,hw⟩:=hw
  subst e1
  cases r
  obtain ⟨its,rv,ht,hz⟩:=I.tuple hq
  refine assign_Tuple_tuple (I.ok.hd hc) ht (by simp [hn,← hl,rv.length]) hst fun h' hx=>?_
  have I1:Inv X pins σ H { s with heap:=h' }:=I.kept (t':=s.toks) fun b o e=>hx b o (Nat.ne_of_lt (Heap.lt_size e)) e
  exact h pins _ σ H xs _ Q I1 (by simpa using rv) hw
def gSub (to ti:TE) (t:TSet):TG:=fun v σ H Q=>to σ H fun o H1=>ti σ H1 fun i H2=>t o i v H2 fun H3=>Q σ H3
theorem pg_sub {o i:Expr} {to ti:TE} {t:TSet} (ho:PE X o to) (hi:PE X i ti) (hs:PSet X t)
    (ha:∀ v,assign (.Subscript o i pos) X.env v=(do
      let ov ← holding [v] (eval o X.env)
      let iv ← holding [v,ov] (eval i X.env)
      standAt pos
      holding [v,ov,iv] (setItem ov iv v)
      release [v,ov,iv] []):=by intro _; rfl):PG X (.Subscript o i pos) (gSub to ti t):=by
  intro pins s σ H v u Q I r h
  rw [ha]
  refine wpAny_bind (wpAny_holding (thn (ho pins s σ H _ I h) fun ov s1 ⟨x,H1,I1,r1,q1⟩=>?_))
  refine wpAny_bind (wpAny_holding (thn (hi pins s1 σ H1 _ I1 q1) fun iv s2 ⟨y,H2,I2,r2,q2⟩=>?_))
  refine wpAny_bind (wpAny_standAt (wpAny_bind (wpAny_holding (thn (hs pins s2 σ H2 x y v ov iv u _ I2 r1 r2 r q2) fun _ s3 ⟨H3,I3,q3⟩=>?_))))
  exact wpAny_release ⟨σ,H3,I3,q3⟩
def tAsg (te:TE) (g:TG):TS:=fun D σ H=>te σ H fun x H1=>g x σ H1 D.nx
theorem ps_asg {tg e:Expr} {te:TE} {g:TG} (he:PE X e te) (hg:PG X tg g) (hs:swapsWithSole [tg] e pos.line X.env=pure false:=by rfl) (hw:swappedStores [tg] e X.env=pure none:=by rfl)
    (h1:(assignEach [tg] X.env).map (·.2)=[assign tg X.env]:=by rfl):PS X (.Assign [tg] e pos) (tAsg te g):=by
  intro pins s σ H D I h
  refine wpAny_Assign_stores (thn (he pins s σ H _ I h) fun v s1 ⟨x,H1,I1,r1,q1⟩=>?_) hs hw
  rw [h1]
  exact thn (hg pins s1 σ H1 x v _ I1 r1 q1) fun _ s2 q=>q
theorem ps_set {i:Nat} {x:Str} {e:Expr} {te:TE} {pos':Pos} (hN:X.N.Nodup) (hi:X.N[i]?=some x) (hx:Loc X.env.scope x) (he:PE X e te) (hs:swapsWith e (some (.Name x pos')) pos.line X.env=pure false:=by rfl) (hf:X.fn x=true∨X.env.scope.names.lookup x=some .local:=by first | exact .inl rfl | exact .inr rfl | assumption) :
    PS X (.Assign [.Name x pos'] e pos) (tAsg te (gName i)):=by
  intro pins s σ H D I h
  refine wpAny_Assign_Name (thn (he pins s σ H _ I h) fun v s1 ⟨y,H1,I1,r1,q1⟩=>?_) hs
  exact store_ok I1 hN hi hx r1 (fun s2 I2=>⟨_,H1,I2,q1⟩) hf
def tPar (i j:Nat) (ta:TA):TS:=fun D σ H=>ta σ H fun vs H1=>∃ v w,vs=[v,w]∧D.nx ((σ.set i (some v)).set j (some w)) H1
theorem ps_par {i j:Nat} {x y:Str} {a b:Expr} {ta:TA} {px py pt:Pos} {kt k2 pt2} (hc:X.calm=true) (hN:X.N.Nodup) (hi:X.N[i]?=some x) (hj:X.N[j]?=some y) (hij:i≠j)
    (hx:X.env.scope.names.lookup x=some .local) (hy:X.env.scope.names.lookup y=some .local) (ha:PA X [a,b] ta)
    (hw:swappedStores [.Tuple [.Name x px,.Name y py] kt pt] (.Tuple [a,b] k2 pt2) X.env=pure (some [x,y]))
    (hs:swapsWithSole [.Tuple [.Name x px,.Name y py] kt pt] (.Tuple [a,b] k2 pt2) pos.line X.env=pure false:=by rfl) :
    PS X (.Assign [.Tuple [.Name x px,.Name y py] kt pt] (.Tuple [a,b] k2 pt2) pos) (tPar i j ta):=by
  intro pins s σ H D I h
  rw [exec_Assign_arm]
  refine wpAny_bind (wpAny_standAt ?_)
  rw [hs]
  refine wpAny_bind (wpAny_pure ?_)
  rw [if_neg (by decide)]
  refine wpAny_bind (Tuple_ (thn (ha _ pins s σ H _ I h) fun us s1 ⟨vs,H1,I1,r1,q1⟩=>?_))
  obtain ⟨v,w,e1,q1⟩:=q1
  subst e1
  obtain ⟨u1,u2,rfl,rv,rw'⟩:∃ u1 u2,us=[u1,u2]∧RelV v u1∧RelV w u2:=by
    cases r1 with
    | cons p q =>
      cases q with
      | cons p' q' =>
        cases q'
        exact ⟨_,_,rfl,p,p'⟩
  refine wpAny_newObj_type ?_ (by show 2≤sizeLine; decide)
  have I2:Inv X pins σ H1 { s1 with heap:=s1.heap.push { cls:=.type "tuple",data:=.seq [u1,u2].toArray } }:=I1.kept (t':=s1.toks) fun b o e=>Heap.get?_push_of_some _ e
  rw [hw]
  refine wpAny_bind (wpAny_pure ?_)
  show wpAny (model X.prog X.w) X.A (do rule "assign.swapped-stores"; let items ← unpackItems (.ref s1.heap.objs.size) 2 none; assignInOrder [fun v=>bindName X.env y v,fun v=>bindName X.env x v] items.reverse; pure Flow.next) _ _ _
  refine wpAny_bind (wpAny_rule (wpAny_bind (unpackItems_tuple (items:=#[u1,u2]) (I.ok.hd hc) (IsTup.new s1.heap _) fun h' hx'=>?_)))
  have I3:=I2.kept (h':=h') (t':=s1.toks) fun b o e=>hx' b o (Nat.ne_of_lt (Heap.lt_size e)) e
  show wpAny _ _ (assignInOrder [fun v=>bindName X.env y v,fun v=>bindName X.env x v] [u2,u1] >>= fun _=>pure Flow.next) _ _ _
  refine wpAny_bind (assignInOrder_cons (wpAny_bindName (store_ok I3 hN hj (.inl hy) rw' (fun s2 I4=>?_) (.inr hy))))
  refine assignInOrder_cons (wpAny_bindName (store_ok I4 hN hi (.inl hx) rv (fun s3 I5=>assignInOrder_nil (wpAny_pure ?_)) (.inr hx)))
  rw [List.set_comm _ _ (Ne.symm hij)] at I5
  exact ⟨_,H1,I5,q1⟩
end
section
variable {X:Cx} {pos:Pos}
def tWhile (c:TT) (tb:TS):TS:=fun D σ H=>∃ W:Nat→St→Hp→Prop,(∃ m,W m σ H)∧∀ m σ H,W m σ H →
  c σ H fun b H1=>if b=true then ∃ N:St→Hp→Prop,(∀ σ' H',N σ' H'→∃ m',m' < m∧W m' σ' H')∧tb { D with nx:=N,ct:=N,bk:=D.nx } σ H1 else D.nx σ H1
theorem ps_while {c:Expr} {body:List Stmt} {tc:TT} {tb:TS} (hp:PassesOwn (model X.prog X.w) X.A X.env X.xe) (hc:PT X c tc) (hb:PSs X body tb):PS X (.While c body [] pos) (tWhile tc tb):=by
  intro pins s σ H D I h
  obtain ⟨W,⟨m0,w0⟩,turn⟩:=h
  refine wpAny_While (codeAny_whileLoop (fun n s'=>∃ σ' H',Inv X pins σ' H' s'∧W n σ' H') ?_ m0 ⟨σ,H,I,w0⟩)
  rintro n s1 ⟨σ1,H1,I1,w1⟩
  refine wpAny_passesOwn hp (thn (hc pins s1 σ1 H1 _ I1 (turn n σ1 H1 w1)) fun b s2 ⟨H2,I2,q2⟩=>?_)
  cases b with
  | true =>
    obtain ⟨N,hN,q2⟩:=q2
    rw [if_pos rfl]
    refine wpAny_passesOwn hp (thn (hb pins s2 σ1 H2 _ I2 q2) fun f s3 q3=>?_)
    cases f with
    | next =>
      obtain ⟨σ3,H3,I3,n3⟩:=q3
      obtain ⟨m',hm,w3⟩:=hN σ3 H3 n3
      exact ⟨m',hm,σ3,H3,I3,w3⟩
    | cont =>
      obtain ⟨σ3,H3,I3,n3⟩:=q3
      obtain ⟨m',hm,w3⟩:=hN σ3 H3 n3
      exact ⟨m',hm,σ3,H3,I3,w3⟩
    | brk=>exact q3
    | ret v=>exact q3
  | false =>
    rw [if_neg Bool.false_ne_true]
    exact wpAny_execs_nil ⟨σ1,H2,I2,q2⟩
end
structure It where
  go:Nat→Hp→Prop
  yld:Nat→Hp→V→Hp→Prop
  stop:Nat→Hp→Prop
def FpOk (X:Cx) (pins:List (Addr × Obj)) (H:Hp) (b:Addr):Prop :=
  H b=none∧b≠X.env.locals∧b ∉ X.fs∧(b∈X.ex∨X.s₀.heap.objs.size≤b)∧(∀ x c,X.env.cells.lookup x=some c→c≠b)∧∀ p∈X.pn++pins,p.1≠b
theorem Inv.fpOk {X:Cx} {pins:List (Addr × Obj)} {σ:St} {H H':Hp} {s:Shared} {b:Addr} (I:Inv X pins σ H s) (hb:s.heap.objs.size≤b) (hn:H' b=none):FpOk X pins H' b:=by
  refine ⟨hn,Nat.ne_of_gt (Nat.lt_of_lt_of_le I.lt hb),I.nofs hb,.inr (Nat.le_trans I.sz hb),fun x c e z=>?_,fun p hp z=>?_⟩
  · obtain ⟨v,q⟩:=I.cell x c e
    exact absurd (Nat.lt_of_lt_of_le q.lt (by rw [z]; exact hb)) (Nat.lt_irrefl _)
  · exact absurd (Nat.lt_of_lt_of_le (Heap.lt_size (I.pin p hp).1) (by rw [z]; exact hb)) (Nat.lt_irrefl _)
structure Turn (P:Program) (w:World) (K:PySem.W.Frag) (tg:Expr) (J:It) (fp:List Addr) (it:Addr) (tn:Nat→Heap→Prop):Prop where
  mem:it∈fp
  obj:∀ i h,tn i h→∀ b∈fp,∃ o,h.get? b=some o∧∀ v,o.data≠.cell v
  keep:∀ i h h',tn i h→(∀ b∈fp,∀ o,h.get? b=some o→h'.get? b=some o)→tn i h'
  item:∀ (X:Cx),X.prog=P→X.w=w→X.K=K→X.calm=true→∀ (i:Nat) (pins:List (Addr × Obj)) (s:Shared) (σ:St) (H:Hp) (E:Value→Shared→Prop),Inv X pins σ H s→(∀ b∈fp,FpOk X pins H b)→tn i s.heap→J.go i H →
    wpAny (model P w) X.A (pyNext (.ref it)) (fun r s1=>∃ u,r=some u ∧
      wpAny (model P w) X.A (letOwnedTupleGo tg (.ref it) u) (fun _ s2=>∃ x H',Inv X pins σ H' s2∧RelV x u∧J.yld i H x H'∧tn (i+1) s2.heap∧∀ b∈fp,H' b=none) E s1) E s
  done:∀ (X:Cx),X.prog=P→X.w=w→X.K=K→X.calm=true→∀ (i:Nat) (pins:List (Addr × Obj)) (s:Shared) (σ:St) (H:Hp) (E:Value→Shared→Prop),Inv X pins σ H s→(∀ b∈fp,FpOk X pins H b)→tn i s.heap→J.stop i H →
    wpAny (model P w) X.A (pyNext (.ref it)) (fun r s1=>r=none∧Inv X pins σ H s1) E s
  self:∀ (A:Around) (i:Nat) (s:Shared) (Q:Value→Shared→Prop) (E:Value→Shared→Prop),tn i s.heap→Q (.ref it) s→wpAny (model P w) A (pyIter (.ref it)) Q E s
abbrev TI:=St→Hp→(It→Hp→Prop)→Prop
def PIE (X:Cx) (pins:List (Addr × Obj)) (σ:St) (tg:Expr) (R:It→Hp→Prop) (itv:Value) (s2:Shared):Prop :=
  ∃ (it:Addr) (fp:List Addr) (tn:Nat→Heap→Prop) (J:It) (H':Hp),itv=.ref it∧Inv X pins σ H' s2∧Turn X.prog X.w X.K tg J fp it tn∧tn 0 s2.heap∧(∀ b∈fp,FpOk X pins H' b)∧R J H'
def PI (X:Cx) (tg iter:Expr) (wi:TI):Prop :=
  ∀ (pins:List (Addr × Obj)) (s:Shared) (σ:St) (H:Hp) (R:It→Hp→Prop),Inv X pins σ H s→wi σ H R →
    wpAny (model X.prog X.w) X.A (eval iter X.env) (fun v s1=>wpAny (model X.prog X.w) X.A (pyIter v) (PIE X pins σ tg R) X.xe s1) X.xe s
theorem go_of {M:Model} {A:Around} {E:Value→Shared→Prop} {s:Shared} {tg:Expr} {it:Addr} {u:Value} {o:Obj} {n:String} {vs:Array Value} {Q:Unit→Shared→Prop} (ho:s.heap.get? it=some o) (hc:o.cls=.type n) (hd:o.data=.fields vs)
    (hn:["enumerate", "zip", "dict_itemiterator", "dict_reverseitemiterator", "odict_iterator", "itertools.zip_longest", "itertools.pairwise"].contains n=false) (hQ:Q () s):wpAny M A (letOwnedTupleGo tg (.ref it) u) Q E s:=by
  unfold letOwnedTupleGo
  cases tg <;> first
    | exact wpAny_pure hQ
    | (cases u <;> first
        | exact wpAny_pure hQ
        | (refine wpAny_bind (wpAny_load ho ?_)
           rw [hc,hd]
           show wpAny M A (if (["enumerate", "zip", "dict_itemiterator", "dict_reverseitemiterator", "odict_iterator", "itertools.zip_longest", "itertools.pairwise"].contains n && vs[0]? == some (rawInt _))=true then _ else _) Q E s
           rw [if_neg (by intro h; rw [hn,Bool.false_and] at h; cases h)]
           exact wpAny_pure hQ))
def Itl (K:PySem.W.Frag) (a:Addr):It :=
  ⟨fun i H=>∃ xs x,SqL K H a xs∧xs[i]?=some x,fun i H x H'=>H'=H∧∀ xs,SqL K H a xs→xs[i]?=some x,fun i H=>∃ xs,SqL K H a xs∧xs.length≤i⟩
def Itt (K:PySem.W.Frag) (a:Addr):It :=
  ⟨fun i H=>∃ xs x,SqT K H a xs∧xs[i]?=some x,fun i H x H'=>H'=H∧∀ xs,SqT K H a xs→xs[i]?=some x,fun i H=>∃ xs,SqT K H a xs∧xs.length≤i⟩
def Itr (lo:Int) (n:Nat):It:=⟨fun i _=>i < n,fun i H x H'=>H'=H∧x=.int (lo+i),fun i _=>n≤i⟩
theorem turn_list {P:Program} {w:World} {K:PySem.W.Frag} {tg:Expr} (a it:Addr):Turn P w K tg (Itl K a) [it] it (fun i h=>h.IsListIter it a i) where
  mem:=by simp
  obj:=fun i h st b hb=>by
    have e:b=it:=by simpa using hb
    subst e
    obtain ⟨o,e,c,d⟩:=st
    exact ⟨o,e,fun v z=>by rw [d] at z; cases z⟩
  keep:=fun i h h' st k=>st.at fun o e=>k it (by simp) o e
  item:=by
    intro X hP hw hK hc i pins s σ H E I hf st hg
    subst hP hw hK
    obtain ⟨xs,x,hq,hx⟩:=hg
    obtain ⟨its,rv,p,hz⟩:=I.list hq
    obtain ⟨u,hu,ru⟩:=rv.get hx
    obtain ⟨f0,f1,f2,f3,f4,f5⟩:=hf it (by simp)
    refine wpAny_pyNext_list_item st p.isList (x:=u) (by simpa using hu) fun h' st' sb=>?_
    have I1:Inv X pins σ H { s with heap:=h' }:=I.turned (t':=s.toks) (fun b o hb e=>(sb.2 b hb).trans e) f0 f1 f3 f4 f5
    obtain ⟨o,e,c,d⟩:=id st'
    exact ⟨u,rfl,go_of (s:={ s with heap:=h' }) e c d (by decide) ⟨x,H,I1,ru,⟨rfl,fun ys hy=>by rw [I.list_inj hy hq]; exact hx⟩,st',fun b hb=>(hf b hb).1⟩⟩
  done:=by
    intro X hP hw hK hc i pins s σ H E I hf st hg
    subst hP hw hK
    obtain ⟨xs,hq,hx⟩:=hg
    obtain ⟨its,rv,p,hz⟩:=I.list hq
    obtain ⟨f0,f1,f2,f3,f4,f5⟩:=hf it (by simp)
    have hl:=rv.length
    exact wpAny_pyNext_list_end (I.ok.hd hc) st p.isList (by simp; omega) fun h' eb=>⟨rfl,I.turned (t':=s.toks) (fun b o hb e=>eb b o hb e) f0 f1 f3 f4 f5⟩
  self:=fun _ _ _ _ _ st h=>wpAny_pyIter_listiter st h
theorem turn_tuple {P:Program} {w:World} {K:PySem.W.Frag} {tg:Expr} (a it:Addr):Turn P w K tg (Itt K a) [it] it (fun i h=>h.IsTupleIter it a i) where
  mem:=by simp
  obj:=fun i h st b hb=>by
    have e:b=it:=by simpa using hb
    subst e
    obtain ⟨o,e,c,d⟩:=st
    exact ⟨o,e,fun v z=>by rw [d] at z; cases z⟩
  keep:=fun i h h' st k=>st.at fun o e=>k it (by simp) o e
  item:=by
    intro X hP hw hK hc i pins s σ H E I hf st hg
    subst hP hw hK
    obtain ⟨xs,x,hq,hx⟩:=hg
    obtain ⟨its,rv,p,hz⟩:=I.tuple hq
    obtain ⟨u,hu,ru⟩:=rv.get hx
    obtain ⟨f0,f1,f2,f3,f4,f5⟩:=hf it (by simp)
    refine wpAny_pyNext_tuple_item st (show s.heap.IsTuple a its.toArray from p) (x:=u) (by simpa using hu) fun h' st' sb=>?_
    have I1:Inv X pins σ H { s with heap:=h' }:=I.turned (t':=s.toks) (fun b o hb e=>(sb.2 b hb).trans e) f0 f1 f3 f4 f5
    obtain ⟨o,e,c,d⟩:=id st'
    exact ⟨u,rfl,go_of (s:={ s with heap:=h' }) e c d (by decide) ⟨x,H,I1,ru,⟨rfl,fun ys hy=>by rw [I.tuple_inj hy hq]; exact hx⟩,st',fun b hb=>(hf b hb).1⟩⟩
  done:=by
    intro X hP hw hK hc i pins s σ H E I hf st hg
    subst hP hw hK
    obtain ⟨xs,hq,hx⟩:=hg
    obtain ⟨its,rv,p,hz⟩:=I.tuple hq
    obtain ⟨f0,f1,f2,f3,f4,f5⟩:=hf it (by simp)
    have hl:=rv.length
    exact wpAny_pyNext_tuple_end (I.ok.hd hc) st (show s.heap.IsTuple a its.toArray from p) (by simp; omega) fun h' eb=>⟨rfl,I.turned (t':=s.toks) (fun b o hb e=>eb b o hb e) f0 f1 f3 f4 f5⟩
  self:=fun _ _ _ _ _ st h=>wpAny_pyIter_tupleiter st h
theorem turn_range {P:Program} {w:World} {K:PySem.W.Frag} {tg:Expr} (it:Addr) (lo:Int) (n:Nat):Turn P w K tg (Itr lo n) [it] it (fun i h=>IsRangeIter h it (lo+(i:Nat) * 1) ((n:Int) - (i:Nat)) 1) where
  mem:=by simp
  obj:=fun i h st b hb=>by
    have e:b=it:=by simpa using hb
    subst e
    exact ⟨_,st,fun v z=>by
      have z':Data.fields _=Data.cell v:=z
      cases z'⟩
  keep:=fun i h h' st k=>k it (by simp) _ st
  item:=by
    intro X hP hw hK hc i pins s σ H E I hf st hg
    subst hP hw hK
    obtain ⟨f0,f1,f2,f3,f4,f5⟩:=hf it (by simp)
    have W:=Walks.range (prog:=X.prog) (w:=X.w) (I.ok.hd hc) it lo 1 n
    refine W.item i s _ _ hg st fun v h' tk hv st' kk=>?_
    obtain ⟨t,rfl⟩:=hv
    have I1:Inv X pins σ H { s with heap:=h',toks:=tk }:=I.turned (fun b o hb e=>kk b o (by simpa using hb) e) f0 f1 f3 f4 f5
    refine ⟨_,rfl,go_of (s:={ s with heap:=h',toks:=tk }) (n:="range_iterator") st' rfl rfl (by decide) ⟨.int (lo+i),H,I1,⟨t,?_⟩,⟨rfl,rfl⟩,st',fun b hb=>(hf b hb).1⟩⟩
    rw [Int.mul_one]
  done:=by
    intro X hP hw hK hc i pins s σ H E I hf st hg
    subst hP hw hK
    obtain ⟨f0,f1,f2,f3,f4,f5⟩:=hf it (by simp)
    exact wpAny_pyNext_range_end (I.ok.hd hc) st (by have:n≤i:=hg; omega) fun h' eb=>⟨rfl,I.turned (t':=s.toks) (fun b o hb e=>eb b o hb e) f0 f1 f3 f4 f5⟩
  self:=fun _ _ _ _ _ st h=>wpAny_pyIter_rangeiter st h
end L2
namespace L2
open PySem PySem.Spec PyProof.Rows
section
variable {X:Cx} {tg:Expr}
def iList (K:PySem.W.Frag) (tl:TE):TI:=fun σ H R=>tl σ H fun x H1=>∃ a,x=.ref a∧(∃ xs,SqL K H1 a xs)∧R (Itl K a) H1
def iTup (K:PySem.W.Frag) (tl:TE):TI:=fun σ H R=>tl σ H fun x H1=>∃ a,x=.ref a∧(∃ xs,SqT K H1 a xs)∧R (Itt K a) H1
theorem pi_list {l:Expr} {tl:TE} (hl:PE X l tl):PI X tg l (iList X.K tl):=by
  intro pins s σ H R I h
  refine thn (hl pins s σ H _ I h) fun v s1 ⟨x,H1,I1,r1,q1⟩=>?_
  obtain ⟨a,e,⟨xs,hq⟩,q⟩:=q1
  subst e
  cases r1
  obtain ⟨its,rv,p,hz⟩:=I1.list hq
  refine wpAny_pyIter_list p.isList ?_
  refine ⟨s1.heap.objs.size,[s1.heap.objs.size],_,_,H1,rfl,I1.kept (t':=s1.toks) fun b o e=>Heap.get?_push_of_some _ e,turn_list a _,⟨_,Heap.get?_push_size _ rfl,rfl,rfl⟩,fun b hb=>?_,q⟩
  have e:b=s1.heap.objs.size:=by simpa using hb
  subst e
  exact I1.fpOk (Nat.le_refl _) (I1.hok.fresh (Nat.le_refl _))
theorem pi_tup {l:Expr} {tl:TE} (hl:PE X l tl):PI X tg l (iTup X.K tl):=by
  intro pins s σ H R I h
  refine thn (hl pins s σ H _ I h) fun v s1 ⟨x,H1,I1,r1,q1⟩=>?_
  obtain ⟨a,e,⟨xs,hq⟩,q⟩:=q1
  subst e
  cases r1
  obtain ⟨its,rv,p,hz⟩:=I1.tuple hq
  refine wpAny_pyIter_tuple (show s1.heap.IsTuple a its.toArray from p) ?_
  refine ⟨s1.heap.objs.size,[s1.heap.objs.size],_,_,H1,rfl,I1.kept (t':=s1.toks) fun b o e=>Heap.get?_push_of_some _ e,turn_tuple a _,⟨_,Heap.get?_push_size _ rfl,rfl,rfl⟩,fun b hb=>?_,q⟩
  have e:b=s1.heap.objs.size:=by simpa using hb
  subst e
  exact I1.fpOk (Nat.le_refl _) (I1.hok.fresh (Nat.le_refl _))
theorem range_it {pins:List (Addr × Obj)} {σ:St} {H:Hp} {s:Shared} {R:It→Hp→Prop} {E:Value→Shared→Prop} {lo hi:Int} {t u v:Tok} {tk:Nat} (I:Inv X pins σ H s) (h1:-(2 ^ 62)≤lo) (h2:lo < 2 ^ 62) (h3:-(2 ^ 62)≤hi) (h4:hi < 2 ^ 62)
    (q:R (Itr lo (hi - lo).toNat) H):wpAny (model X.prog X.w) X.A (pyIter (.ref s.heap.objs.size)) (PIE X pins σ tg R) E { s with heap:=s.heap.push { cls:=.type "range",data:=.fields #[.int lo t,.int hi u,.int 1 v] },toks:=tk }:=by
  refine wpAny_pyIter_range (IsRange.new ..) (small_one h1 h2 h3 h4) ?_
  have I1:Inv X pins σ H { s with heap:=s.heap.push { cls:=.type "range",data:=.fields #[.int lo t,.int hi u,.int 1 v] },toks:=tk }:=I.kept fun b o e=>Heap.get?_push_of_some _ e
  refine ⟨(s.heap.push { cls:=.type "range",data:=.fields #[.int lo t,.int hi u,.int 1 v] }).objs.size,[(s.heap.push { cls:=.type "range",data:=.fields #[.int lo t,.int hi u,.int 1 v] }).objs.size],_,_,H,rfl,
    I1.kept (t':=tk) fun b o e=>Heap.get?_push_of_some _ e,turn_range _ lo (hi - lo).toNat,?_,fun b hb=>?_,q⟩
  · have e1:lo+((0:Nat):Int) * 1=lo:=by simp
    have e2:(((hi - lo).toNat:Nat):Int) - ((0:Nat):Int)=Builtin.Range.rangeSize lo hi 1:=by rw [rangeSize_one]; split <;> omega
    show IsRangeIter _ _ (lo+((0:Nat):Int) * 1) ((((hi - lo).toNat:Nat):Int) - ((0:Nat):Int)) 1
    rw [e1,e2]
    exact Heap.get?_push_size _ rfl
  · have e:b=(s.heap.push { cls:=.type "range",data:=.fields #[.int lo t,.int hi u,.int 1 v] }).objs.size:=by simpa using hb
    subst e
    exact I1.fpOk (Nat.le_refl _) (I1.hok.fresh (Nat.le_refl _))
def iRng1 (ta:TA):TI:=fun σ H R=>ta σ H fun vs H1=>∃ j:Int,vs=[.int j]∧-(2 ^ 62)≤j∧j < 2 ^ 62∧R (Itr 0 j.toNat) H1
theorem pi_range1 {a:Expr} {ta:TA} {p pos:Pos} (hg:Gl X "range") (hm:X.mg "range" = none) (ha:PA X [a] ta) (hs:starEach [a] X.env=[(false,eval a X.env)]:=by rfl):PI X tg (.Call (.Name "range" p) [a] [] pos) (iRng1 ta):=by
  intro pins s σ H R I h
  refine Call_ (ld_blt I hg hm boot_range (PyProof.Rows.callWith_type1 (thn (ha pos pins s σ H _ I h) fun us s1 ⟨vs,H1,I1,r1,q1⟩=>?_) hs rfl))
  obtain ⟨j,e,q1,q2,q⟩:=q1
  subst e
  cases r1 with
  | cons r rr =>
    cases rr
    obtain ⟨t,rfl⟩:=r
    exact call_range_1 (range_it I1 (by omega) (by omega) q1 q2 (by simpa using q))
def tFor (wi:TI) (g:TG) (tb:TS):TS:=fun D σ H=>wi σ H fun J H1=>∃ W:Nat→Nat→St→Hp→Prop,(∃ m,W 0 m σ H1)∧∀ i m σ H,W i m σ H →
  (J.stop i H∧D.nx σ H)∨(J.go i H∧∃ N:St→Hp→Prop,(∀ σ' H',N σ' H'→∃ m',m' < m∧W (i+1) m' σ' H')∧∀ x H',J.yld i H x H'→g x σ H' fun σ2 H2=>tb { D with nx:=N,ct:=N,bk:=D.nx } σ2 H2)
def pinsAt (fp:List Addr) (h:Heap):List (Addr × Obj):=fp.filterMap fun b=>(h.get? b).map fun o=>(b,o)
theorem mem_pinsAt {fp:List Addr} {h:Heap} {b:Addr} {o:Obj} (hb:b∈fp) (e:h.get? b=some o):(b,o)∈pinsAt fp h:=List.mem_filterMap.mpr ⟨b,hb,by rw [e]; rfl⟩
theorem of_pinsAt {fp:List Addr} {h:Heap} {p:Addr × Obj} (hp:p∈pinsAt fp h):p.1∈fp∧h.get? p.1=some p.2:=by
  obtain ⟨b,hb,e⟩:=List.mem_filterMap.mp hp
  cases q:h.get? b with
  | none=>rw [q] at e; cases e
  | some o =>
    rw [q] at e
    have e':(b,o)=p:=Option.some.inj e
    subst e'
    exact ⟨hb,q⟩
theorem Inv.pinned {pins:List (Addr × Obj)} {σ:St} {H:Hp} {s:Shared} {fp:List Addr} (I:Inv X pins σ H s) (hf:∀ b∈fp,FpOk X pins H b) (ho:∀ b∈fp,∃ o,s.heap.get? b=some o∧∀ v,o.data≠.cell v):Inv X (pins++pinsAt fp s.heap) σ H s :=
  I.pins_of fun p hp=>(List.mem_append.mp hp).elim (fun z=>I.pin p (List.mem_append_right _ z)) fun z=>by
    obtain ⟨hb,e⟩:=of_pinsAt z
    obtain ⟨f0,f1,f2,_⟩:=hf p.1 hb
    obtain ⟨o,e',d⟩:=ho p.1 hb
    rw [e] at e'; cases e'
    exact ⟨e,f0,f1,f2,d⟩
theorem Inv.unpinned {pins pl:List (Addr × Obj)} {σ:St} {H:Hp} {s:Shared} (I:Inv X (pins++pl) σ H s):Inv X pins σ H s:=I.pins_of fun p hp=>I.pin p (List.mem_append_right _ (List.mem_append_left _ hp))
theorem ps_for {iter:Expr} {body:List Stmt} {wi:TI} {g:TG} {tb:TS} {pos:Pos} (hp:PassesOwn (model X.prog X.w) X.A X.env X.xe) (hc:X.calm=true) (hi:PI X tg iter wi) (hg:PG X tg g) (hb:PSs X body tb)
    (hs:∀ x,foldedSetIterable iter X.env x=pure x:=by intro _; rfl):PS X (.For tg iter body [] pos) (tFor wi g tb):=by
  intro pins s σ H D I h
  refine wpAny_For (thn (hi pins s σ H _ I h) fun v s1 h1=>thn h1 fun itv s2 h2=>?_) hs
  obtain ⟨it,fp,tn,J,H2,e,I2,T,st2,f2,W,⟨m0,w0⟩,turn⟩:=h2
  subst e
  have stat:∀ {H':Hp},(∀ b∈fp,H' b=none)→∀ b∈fp,FpOk X pins H' b:=fun hn b hb=>⟨hn b hb,(f2 b hb).2⟩
  refine codeAny_forLoop_any (fun n s'=>∃ i σ' H',Inv X pins σ' H' s'∧tn i s'.heap∧(∀ b∈fp,H' b=none)∧W i n σ' H') ?_ m0 ⟨0,σ,H2,I2,st2,fun b hb=>(f2 b hb).1,w0⟩
  rintro n s3 ⟨i,σ3,H3,I3,st3,fr3,w3⟩
  rcases turn i n σ3 H3 w3 with ⟨stop,qn⟩ | ⟨go,N,hN,step⟩
  · refine wpAny_passesOwn hp (thn (T.done X rfl rfl rfl hc i pins s3 σ3 H3 X.xe I3 (stat fr3) st3 stop) fun r s4 ⟨hr,I4⟩=>?_)
    subst hr
    exact wpAny_execs_nil ⟨σ3,H3,I4,qn⟩
  · refine wpAny_passesOwn hp (thn (T.item X rfl rfl rfl hc i pins s3 σ3 H3 X.xe I3 (stat fr3) st3 go) fun r s4 ⟨u,hr,h4⟩=>?_)
    subst hr
    refine wpAny_passesOwn hp (thn h4 fun _ s5 ⟨x,H5,I5,r5,y5,st5,fr5⟩=>?_)
    have I5':=I5.pinned (stat fr5) (T.obj _ _ st5)
    refine wpAny_passesOwn hp (thn (hg _ s5 σ3 H5 x u _ I5' r5 (step x H5 y5)) fun _ s6 ⟨σ6,H6,I6,q6⟩=>?_)
    refine wpAny_passesOwn hp (thn (hb _ s6 σ6 H6 _ I6 q6) fun f s7 q7=>?_)
    have again:∀ {σ7:St} {H7:Hp},Inv X (pins++pinsAt fp s5.heap) σ7 H7 s7→N σ7 H7→∃ m,m < n∧∃ i σ' H',Inv X pins σ' H' s7∧tn i s7.heap∧(∀ b∈fp,H' b=none)∧W i m σ' H':=fun {σ7 H7} I7 n7=>by
      obtain ⟨m',hm,w7⟩:=hN σ7 H7 n7
      refine ⟨m',hm,i+1,σ7,H7,I7.unpinned,T.keep _ _ _ st5 fun b hb o e=>(I7.pin (b,o) (List.mem_append_right _ (List.mem_append_right _ (mem_pinsAt hb e)))).1,fun b hb=>?_,w7⟩
      obtain ⟨o,e,d⟩:=T.obj _ _ st5 b hb
      exact (I7.pin (b,o) (List.mem_append_right _ (List.mem_append_right _ (mem_pinsAt hb e)))).2.1
    cases f with
    | next=>obtain ⟨σ7,H7,I7,n7⟩:=q7; exact again I7 n7
    | cont=>obtain ⟨σ7,H7,I7,n7⟩:=q7; exact again I7 n7
    | brk=>obtain ⟨σ7,H7,I7,q7⟩:=q7; exact ⟨σ7,H7,I7.unpinned,q7⟩
    | ret v=>obtain ⟨x7,σ7,H7,I7,r7,q7⟩:=q7; exact ⟨x7,σ7,H7,I7.unpinned,r7,q7⟩
end
theorem for_list {K:PySem.W.Frag} {a:Addr} {xs:List V} {g:TG} {tb:TS} {D:Ends} {σ:St} {H:Hp} (Pv:Nat→St→Hp→Prop) (h0:Pv 0 σ H) (hl:∀ i σ H,i≤xs.length→Pv i σ H→SqL K H a xs)
    (hs:∀ i x σ H,xs[i]?=some x→Pv i σ H→g x σ H fun σ2 H2=>tb { D with nx:=Pv (i+1),ct:=Pv (i+1),bk:=D.nx } σ2 H2) (hd:∀ σ H,Pv xs.length σ H→D.nx σ H) :
    ∃ W:Nat→Nat→St→Hp→Prop,(∃ m,W 0 m σ H)∧∀ i m σ H,W i m σ H →
      ((Itl K a).stop i H∧D.nx σ H)∨((Itl K a).go i H∧∃ N:St→Hp→Prop,(∀ σ' H',N σ' H'→∃ m',m' < m∧W (i+1) m' σ' H')∧∀ x H',(Itl K a).yld i H x H'→g x σ H' fun σ2 H2=>tb { D with nx:=N,ct:=N,bk:=D.nx } σ2 H2):=by
  refine ⟨fun i m σ H=>m=xs.length - i∧i≤xs.length∧Pv i σ H,⟨xs.length,by simp,Nat.zero_le _,h0⟩,?_⟩
  rintro i m σ H ⟨rfl,hi,p⟩
  have q:=hl i σ H hi p
  by_cases hlt:i < xs.length
  · refine .inr ⟨⟨xs,xs[i],q,by simp [hlt]⟩,Pv (i+1),fun σ' H' p'=>⟨xs.length - (i+1),by omega,rfl,hlt,p'⟩,fun x H' y=>?_⟩
    obtain ⟨e,y⟩:=y
    subst e
    exact hs i x σ _ (y xs q) p
  · have e:i=xs.length:=by omega
    subst e
    exact .inl ⟨⟨xs,q,Nat.le_refl _⟩,hd σ H p⟩
theorem for_tup {K:PySem.W.Frag} {a:Addr} {xs:List V} {g:TG} {tb:TS} {D:Ends} {σ:St} {H:Hp} (Pv:Nat→St→Hp→Prop) (h0:Pv 0 σ H) (hl:∀ i σ H,i≤xs.length→Pv i σ H→SqT K H a xs)
    (hs:∀ i x σ H,xs[i]?=some x→Pv i σ H→g x σ H fun σ2 H2=>tb { D with nx:=Pv (i+1),ct:=Pv (i+1),bk:=D.nx } σ2 H2) (hd:∀ σ H,Pv xs.length σ H→D.nx σ H) :
    ∃ W:Nat→Nat→St→Hp→Prop,(∃ m,W 0 m σ H)∧∀ i m σ H,W i m σ H →
      ((Itt K a).stop i H∧D.nx σ H)∨((Itt K a).go i H∧∃ N:St→Hp→Prop,(∀ σ' H',N σ' H'→∃ m',m' < m∧W (i+1) m' σ' H')∧∀ x H',(Itt K a).yld i H x H'→g x σ H' fun σ2 H2=>tb { D with nx:=N,ct:=N,bk:=D.nx } σ2 H2):=by
  refine ⟨fun i m σ H=>m=xs.length - i∧i≤xs.length∧Pv i σ H,⟨xs.length,by simp,Nat.zero_le _,h0⟩,?_⟩
  rintro i m σ H ⟨rfl,hi,p⟩
  have q:=hl i σ H hi p
  by_cases hlt:i < xs.length
  · refine .inr ⟨⟨xs,xs[i],q,by simp [hlt]⟩,Pv (i+1),fun σ' H' p'=>⟨xs.length - (i+1),by omega,rfl,hlt,p'⟩,fun x H' y=>?_⟩
    obtain ⟨e,y⟩:=y
    subst e
    exact hs i x σ _ (y xs q) p
  · have e:i=xs.length:=by omega
    subst e
    exact .inl ⟨⟨xs,q,Nat.le_refl _⟩,hd σ H p⟩
theorem for_range {lo:Int} {n:Nat} {g:TG} {tb:TS} {D:Ends} {σ:St} {H:Hp} (Pv:Nat→St→Hp→Prop) (h0:Pv 0 σ H)
    (hs:∀ i σ H,i < n→Pv i σ H→g (.int (lo+i)) σ H fun σ2 H2=>tb { D with nx:=Pv (i+1),ct:=Pv (i+1),bk:=D.nx } σ2 H2) (hd:∀ σ H,Pv n σ H→D.nx σ H) :
    ∃ W:Nat→Nat→St→Hp→Prop,(∃ m,W 0 m σ H)∧∀ i m σ H,W i m σ H →
      ((Itr lo n).stop i H∧D.nx σ H)∨((Itr lo n).go i H∧∃ N:St→Hp→Prop,(∀ σ' H',N σ' H'→∃ m',m' < m∧W (i+1) m' σ' H')∧∀ x H',(Itr lo n).yld i H x H'→g x σ H' fun σ2 H2=>tb { D with nx:=N,ct:=N,bk:=D.nx } σ2 H2):=by
  refine ⟨fun i m σ H=>m=n - i∧i≤n∧Pv i σ H,⟨n,by simp,Nat.zero_le _,h0⟩,?_⟩
  rintro i m σ H ⟨rfl,hi,p⟩
  by_cases hlt:i < n
  · refine .inr ⟨hlt,Pv (i+1),fun σ' H' p'=>⟨n - (i+1),by omega,rfl,hlt,p'⟩,fun x H' y=>?_⟩
    obtain ⟨e,y⟩:=y
    subst e y
    exact hs i σ _ hlt p
  · have e:i=n:=by omega
    subst e
    exact .inl ⟨Nat.le_refl _,hd σ H p⟩
end L2
namespace L2
open PySem PySem.Spec PyProof.Rows
abbrev R2:=V→V→Hp→VK→Prop
def OpR (X:Cx) (f:Value→Value→Sem Value) (r:R2):Prop :=
  ∀ (pins:List (Addr × Obj)) (s:Shared) (σ:St) (H:Hp) (x y:V) (v u:Value) (Q:VK),Inv X pins σ H s→RelV x v→RelV y u→r x y H Q →
    wpAny (model X.prog X.w) X.A (f v u) (EP X pins σ Q) X.xe s
def UnR (X:Cx) (f:Value→Sem Value) (r:V→Hp→VK→Prop):Prop :=
  ∀ (pins:List (Addr × Obj)) (s:Shared) (σ:St) (H:Hp) (x:V) (v:Value) (Q:VK),Inv X pins σ H s→RelV x v→r x H Q →
    wpAny (model X.prog X.w) X.A (f v) (EP X pins σ Q) X.xe s
def CallR (X:Cx) (f:Value) (r:List V→Hp→VK→Prop):Prop :=
  ∀ (pins:List (Addr × Obj)) (s:Shared) (σ:St) (H:Hp) (xs:List V) (us:List Value) (Q:VK),Inv X pins σ H s→Vals xs us→r xs H Q →
    wpAny (model X.prog X.w) X.A (call f us) (EP X pins σ Q) X.xe s
def tOp (r:R2) (ta tb:TE):TE:=fun σ H Q=>ta σ H fun x H1=>tb σ H1 fun y H2=>r x y H2 Q
def tUn (r:V→Hp→VK→Prop) (ta:TE):TE:=fun σ H Q=>ta σ H fun x H1=>r x H1 Q
def rI (C:Int→Int→Prop) (g:Int→Int→V):R2:=fun x y H Q=>∃ i j,x=.int i∧y=.int j∧C i j∧Q (g i j) H
def rI0 (g:Int→Int→V):R2:=fun x y H Q=>∃ i j,x=.int i∧y=.int j∧Q (g i j) H
def rU (g:Int→V):V→Hp→VK→Prop:=fun x H Q=>∃ i,x=.int i∧Q (g i) H
section
variable {X:Cx} {a b c:Expr} {ta tb tc:TE} {pos:Pos}
theorem binT (ha:PE X a ta) (hb:PE X b tb) {pins:List (Addr × Obj)} {s:Shared} {σ:St} {H:Hp} {R:V→V→Hp→Prop} (I:Inv X pins σ H s)
    (h:ta σ H fun x H1=>tb σ H1 fun y H2=>R x y H2) {Q:Value→Shared→Prop} {f:Value→Value→Sem Value}
    (hf:∀ v u s2 x y H2,Inv X pins σ H2 s2→RelV x v→RelV y u→R x y H2→wpAny (model X.prog X.w) X.A (f v u) Q X.xe s2) :
    wpAny (model X.prog X.w) X.A (eval a X.env) (fun v s₁=>wpAny (model X.prog X.w) X.A (eval b X.env) (fun u s₂=>wpAny (model X.prog X.w) X.A (f v u) Q X.xe s₂) X.xe s₁) X.xe s:=by
  refine thn (ha pins s σ H _ I h) fun v s1 ⟨x,H1,I1,r1,q1⟩=>?_
  refine thn (hb pins s1 σ H1 _ I1 q1) fun u s2 ⟨y,H2,I2,r2,q2⟩=>?_
  exact hf v u s2 x y H2 I2 r1 r2 q2
theorem pe_op {op:Operator} {r:R2} (ho:OpR X (binaryOp op) r) (ha:PE X a ta) (hb:PE X b tb):PE X (.BinOp a op b pos) (tOp r ta tb):=by
  intro pins s σ H Q I h
  exact wpAny_BinOp (binT ha hb I h fun v u s2 x y H2 I2 rx ry q=>ho pins s2 σ H2 x y v u Q I2 rx ry q)
theorem pe_un {op:UnaryOp} {r:V→Hp→VK→Prop} (ho:UnR X (unaryOp op) r) (ha:PE X a ta):PE X (.UnaryOp op a pos) (tUn r ta):=by
  intro pins s σ H Q I h
  exact UnaryOp_ (thn (ha pins s σ H _ I h) fun v s1 ⟨x,H1,I1,r1,q1⟩=>ho pins s1 σ H1 x v Q I1 r1 q1)
theorem opI {f:Value→Value→Sem Value} {C:Int→Int→Prop} {g:Int→Int→Int}
    (rule:∀ (i j:Int) (t u:Tok) (s:Shared) (Q:Value→Shared→Prop) (E:Value→Shared→Prop),C i j→Q (.int (g i j) s.toks) { s with toks:=s.toks+1 }→wpAny (model X.prog X.w) X.A (f (.int i t) (.int j u)) Q E s) :
    OpR X f (rI C fun i j=>.int (g i j)):=by
  intro pins s σ H x y v u Q I rx ry h
  obtain ⟨i,j,rfl,rfl,hc,q⟩:=h
  obtain ⟨t,rfl⟩:=rx
  obtain ⟨t',rfl⟩:=ry
  exact rule i j t t' s _ _ hc ⟨.int (g i j),H,I.tok _,⟨_,rfl⟩,q⟩
theorem opI0 {f:Value→Value→Sem Value} {g:Int→Int→Int}
    (rule:∀ (i j:Int) (t u:Tok) (s:Shared) (Q:Value→Shared→Prop) (E:Value→Shared→Prop),Q (.int (g i j) s.toks) { s with toks:=s.toks+1 }→wpAny (model X.prog X.w) X.A (f (.int i t) (.int j u)) Q E s) :
    OpR X f (rI0 fun i j=>.int (g i j)):=by
  intro pins s σ H x y v u Q I rx ry h
  obtain ⟨i,j,rfl,rfl,q⟩:=h
  obtain ⟨t,rfl⟩:=rx
  obtain ⟨t',rfl⟩:=ry
  exact rule i j t t' s _ _ ⟨.int (g i j),H,I.tok _,⟨_,rfl⟩,q⟩
theorem opB0 {f:Value→Value→Sem Value} {g:Int→Int→Bool}
    (rule:∀ (i j:Int) (t u:Tok) (s:Shared) (Q:Value→Shared→Prop) (E:Value→Shared→Prop),Q (.bool (g i j)) s→wpAny (model X.prog X.w) X.A (f (.int i t) (.int j u)) Q E s) :
    OpR X f (rI0 fun i j=>.bl (g i j)):=by
  intro pins s σ H x y v u Q I rx ry h
  obtain ⟨i,j,rfl,rfl,q⟩:=h
  obtain ⟨t,rfl⟩:=rx
  obtain ⟨t',rfl⟩:=ry
  exact rule i j t t' s _ _ ⟨.bl (g i j),H,I,rfl,q⟩
def CPow (i j:Int):Prop:=0≤j∧j≤1000000∧i.natAbs < 2 ^ 64
def CMul (i j:Int):Prop:=(-(2 ^ 64) < i∧i < 2 ^ 64)∨(-(2 ^ 64) < j∧j < 2 ^ 64)
theorem CMul.ok {i j:Int} (h:CMul i j):IntMulOk i j:=by
  rcases h with ⟨h1,h2⟩ | ⟨h1,h2⟩
  · exact .of_left (intBits_le_64 h1 h2)
  · exact .of_right (intBits_le_64 h1 h2)
theorem op_add:OpR X (binaryOp .Add) (rI0 fun i j=>.int (i+j)):=opI0 fun _ _ _ _ _ _ _ q=>add_int q
theorem op_mul:OpR X (binaryOp .Mult) (rI CMul fun i j=>.int (i * j)):=opI fun _ _ _ _ _ _ _ hc q=>mul_int q hc.ok
theorem op_mod:OpR X (binaryOp .Mod) (rI (fun _ j=>0 < j) fun i j=>.int (i % j)):=opI fun i j _ _ _ _ _ hc q=>by
  have h1:(0:Int) < j:=hc
  exact mod_int' (by omega) (by rw [Int.fmod_eq_emod_of_nonneg i (by omega)]; exact q)
theorem op_pow:OpR X (binaryOp .Pow) (rI CPow fun i j=>.int (i ^ j.toNat)):=opI fun _ _ _ _ _ _ _ hc q=>pow_int_small hc.1 hc.2.1 hc.2.2 q
theorem unI {f:Value→Sem Value} {g:Int→Int}
    (rule:∀ (i:Int) (t:Tok) (s:Shared) (Q:Value→Shared→Prop) (E:Value→Shared→Prop),Q (.int (g i) s.toks) { s with toks:=s.toks+1 }→wpAny (model X.prog X.w) X.A (f (.int i t)) Q E s) :
    UnR X f (rU fun i=>.int (g i)):=by
  intro pins s σ H x v Q I rx h
  obtain ⟨i,rfl,q⟩:=h
  obtain ⟨t,rfl⟩:=rx
  exact rule i t s _ _ ⟨.int (g i),H,I.tok _,⟨_,rfl⟩,q⟩
theorem un_neg:UnR X (unaryOp .USub) (rU fun i=>.int (-i)):=unI fun _ _ _ _ _ q=>neg_int q
end
def scal:V→V→Bool
  | .non,.non=>true | .non,.int _=>true | .int _,.non=>true | .non,.bl _=>true | .bl _,.non=>true | .non,.str _=>true | .str _,.non=>true
  | .int _,.int _=>true | .bl _,.bl _=>true | .str _,.str _=>true | .byt _,.byt _=>true
  | .int _,.str _=>true | .str _,.int _=>true | .bl _,.str _=>true | .str _,.bl _=>true
  | _,_=>false
def rEq:R2:=fun x y H Q=>scal x y=true∧Q (.bl (decide (x=y))) H
def rNe:R2:=fun x y H Q=>scal x y=true∧Q (.bl (!decide (x=y))) H
theorem dec_int {i j:Int}:decide (V.int i=V.int j)=(i == j):=by
  rw [Bool.eq_iff_iff]
  simp
theorem dec_bl {i j:Bool}:decide (V.bl i=V.bl j)=(i == j):=by
  rw [Bool.eq_iff_iff]
  simp
theorem dec_str {i j:Str}:decide (V.str i=V.str j)=(i == j):=by
  rw [Bool.eq_iff_iff]
  simp
theorem dec_byt {i j:Array UInt8}:decide (V.byt i=V.byt j)=(i.toList == j.toList):=by
  rw [Bool.eq_iff_iff]
  cases i
  cases j
  simp
section
variable {X:Cx} {a b c:Expr} {ta tb tc:TE} {pos:Pos}
theorem fin_bl {pins:List (Addr × Obj)} {σ:St} {H:Hp} {s:Shared} {Q:VK} {k k':Bool} (I:Inv X pins σ H s) (q:Q (.bl k) H) (e:k=k'):EP X pins σ Q (.bool k') s:=by
  subst e
  exact ⟨.bl k,H,I,rfl,q⟩
theorem op_eq:OpR X (compareOp .Eq) rEq:=by
  intro pins s σ H x y v u Q I rx ry h
  obtain ⟨hs,q⟩:=h
  cases x with
  | non =>
    cases rx
    cases y with
    | non=>cases ry; exact PySem.EqNone.eq_none_none (fin_bl I q (by simp))
    | bl j=>cases ry; exact PySem.EqNone.eq_none_bool (fin_bl I q (by simp))
    | int j=>obtain ⟨t',rfl⟩:=ry; exact PySem.EqNone.eq_none_int (fin_bl I q (by simp))
    | str j=>obtain ⟨t',rfl⟩:=ry; exact PySem.EqNone.eq_none_str (fin_bl I q (by simp))
    | _=>exact absurd (show false=true from hs) Bool.false_ne_true
  | bl i =>
    cases rx
    cases y with
    | non=>cases ry; exact PySem.EqNone.eq_bool_none (fin_bl I q (by simp))
    | bl j=>cases ry; exact eq_bool (fin_bl I q dec_bl)
    | str j=>obtain ⟨t',rfl⟩:=ry; exact PySem.EqMixed.eq_bool_str (fin_bl I q (by simp))
    | _=>exact absurd (show false=true from hs) Bool.false_ne_true
  | int i =>
    obtain ⟨t,rfl⟩:=rx
    cases y with
    | non=>cases ry; exact PySem.EqNone.eq_int_none (fin_bl I q (by simp))
    | int j=>obtain ⟨t',rfl⟩:=ry; exact eq_int (fin_bl I q dec_int)
    | str j=>obtain ⟨t',rfl⟩:=ry; exact PySem.EqMixed.eq_int_str (fin_bl I q (by simp))
    | _=>exact absurd (show false=true from hs) Bool.false_ne_true
  | str i =>
    obtain ⟨t,rfl⟩:=rx
    cases y with
    | non=>cases ry; exact PySem.EqNone.eq_str_none (fin_bl I q (by simp))
    | bl j=>cases ry; exact PySem.EqMixed.eq_str_bool (fin_bl I q (by simp))
    | int j=>obtain ⟨t',rfl⟩:=ry; exact PySem.EqMixed.eq_str_int (fin_bl I q (by simp))
    | str j=>obtain ⟨t',rfl⟩:=ry; exact eq_str (fin_bl I q dec_str)
    | _=>exact absurd (show false=true from hs) Bool.false_ne_true
  | byt i =>
    obtain ⟨t,rfl⟩:=rx
    cases y with
    | byt j=>obtain ⟨t',rfl⟩:=ry; exact PySem.W.eq_bytes (fin_bl I q dec_byt)
    | _=>exact absurd (show false=true from hs) Bool.false_ne_true
  | _=>cases y <;> exact absurd (show false=true from hs) Bool.false_ne_true
theorem op_ne:OpR X (compareOp .NotEq) rNe:=by
  intro pins s σ H x y v u Q I rx ry h
  obtain ⟨hs,q⟩:=h
  cases x with
  | non =>
    cases rx
    cases y with
    | non=>cases ry; exact PySem.EqNone.ne_none_none (fin_bl I q (by simp))
    | bl j=>cases ry; exact PySem.EqNone.ne_none_bool (fin_bl I q (by simp))
    | int j=>obtain ⟨t',rfl⟩:=ry; exact PySem.EqNone.ne_none_int (fin_bl I q (by simp))
    | str j=>obtain ⟨t',rfl⟩:=ry; exact PySem.EqNone.ne_none_str (fin_bl I q (by simp))
    | _=>exact absurd (show false=true from hs) Bool.false_ne_true
  | bl i =>
    cases rx
    cases y with
    | non=>cases ry; exact PySem.EqNone.ne_bool_none (fin_bl I q (by simp))
    | bl j=>cases ry; exact ne_bool (fin_bl I q (congrArg not dec_bl))
    | str j=>obtain ⟨t',rfl⟩:=ry; exact PySem.EqMixed.ne_bool_str (fin_bl I q (by simp))
    | _=>exact absurd (show false=true from hs) Bool.false_ne_true
  | int i =>
    obtain ⟨t,rfl⟩:=rx
    cases y with
    | non=>cases ry; exact PySem.EqNone.ne_int_none (fin_bl I q (by simp))
    | int j=>obtain ⟨t',rfl⟩:=ry; exact ne_int (fin_bl I q (congrArg not dec_int))
    | str j=>obtain ⟨t',rfl⟩:=ry; exact PySem.EqMixed.ne_int_str (fin_bl I q (by simp))
    | _=>exact absurd (show false=true from hs) Bool.false_ne_true
  | str i =>
    obtain ⟨t,rfl⟩:=rx
    cases y with
    | non=>cases ry; exact PySem.EqNone.ne_str_none (fin_bl I q (by simp))
    | bl j=>cases ry; exact PySem.EqMixed.ne_str_bool (fin_bl I q (by simp))
    | int j=>obtain ⟨t',rfl⟩:=ry; exact PySem.EqMixed.ne_str_int (fin_bl I q (by simp))
    | str j=>obtain ⟨t',rfl⟩:=ry; exact ne_str (fin_bl I q (congrArg not dec_str))
    | _=>exact absurd (show false=true from hs) Bool.false_ne_true
  | byt i =>
    obtain ⟨t,rfl⟩:=rx
    cases y with
    | byt j=>obtain ⟨t',rfl⟩:=ry; exact PySem.W.ne_bytes (fin_bl I q (congrArg not dec_byt))
    | _=>exact absurd (show false=true from hs) Bool.false_ne_true
  | _=>cases y <;> exact absurd (show false=true from hs) Bool.false_ne_true
theorem op_le:OpR X (compareOp .LtE) (rI0 fun i j=>.bl (decide (i≤j))):=opB0 fun _ _ _ _ _ _ _ q=>le_int q
theorem op_gt:OpR X (compareOp .Gt) (rI0 fun i j=>.bl (decide (j < i))):=opB0 fun _ _ _ _ _ _ _ q=>gt_int q
theorem op_ge:OpR X (compareOp .GtE) (rI0 fun i j=>.bl (decide (j≤i))):=opB0 fun _ _ _ _ _ _ _ q=>ge_int q
theorem OpR.or {f:Value→Value→Sem Value} {r r':R2} (h:OpR X f r) (h':OpR X f r'):OpR X f (fun x y H Q=>r x y H Q∨r' x y H Q):=by
  intro pins s σ H x y v u Q I rx ry q
  rcases q with q | q
  · exact h pins s σ H x y v u Q I rx ry q
  · exact h' pins s σ H x y v u Q I rx ry q
theorem nomark (b:Expr) {op:CmpOp} (h:op≠.In:=by decide) (h2:op≠.NotIn:=by decide):behindInMarks op b=false:=by
  have e1:(op == CmpOp.In)=false:=by cases op <;> first | rfl | exact absurd rfl h
  have e2:(op == CmpOp.NotIn)=false:=by cases op <;> first | rfl | exact absurd rfl h2
  cases b <;> simp [behindInMarks,e1,e2]
theorem pe_cmpR {op:CmpOp} {r:R2} (ho:OpR X (compareOp op) r) (ha:PE X a ta) (hb:PE X b tb) (hm:behindInMarks op b=false):PE X (.Compare a [op] [b] pos) (tOp r ta tb):=by
  intro pins s σ H Q I h
  exact wpAny_Compare1 (binT ha hb I h fun v u s2 x y H2 I2 rx ry q=>ho pins s2 σ H2 x y v u Q I2 rx ry q) hm
def tTest (t:TE):TT:=fun σ H Q=>t σ H fun x H'=>∃ k,x=.bl k∧Q k H'
theorem pt_cmpR {op:CmpOp} {r:R2} (ho:OpR X (compareOp op) r) (ha:PE X a ta) (hb:PE X b tb) (hm:behindInMarks op b=false):PT X (.Compare a [op] [b] pos) (tTest (tOp r ta tb)):=by
  intro pins s σ H Q I h
  refine wpAny_isTrue_Compare1 (thn (ha pins s σ H _ I h) fun v s1 ⟨x,H1,I1,r1,q1⟩=>thn (hb pins s1 σ H1 _ I1 q1) fun u s2 ⟨y,H2,I2,r2,q2⟩ =>
    thn (ho pins s2 σ H2 x y v u _ I2 r1 r2 q2) fun c s3 ⟨z,H3,I3,r3,k,e,q3⟩=>?_) hm
  subst e
  cases r3
  exact wpAny_truthy_bool ⟨H3,I3,q3⟩
theorem line63:(sizeLine:Nat) < 2 ^ 63:=by rw [sizeLine_eq]; decide
theorem op_add_str:OpR X (binaryOp .Add) (fun x y H Q=>∃ i j,x=.str i∧y=.str j∧i.length+j.length≤sizeLine∧Q (.str (i++j)) H):=by
  intro pins s σ H x y v u Q I rx ry h
  obtain ⟨i,j,rfl,rfl,hz,q⟩:=h
  obtain ⟨t,rfl⟩:=rx
  obtain ⟨t',rfl⟩:=ry
  exact add_str (fun t' tk=>⟨.str (i++j),H,I.tok _,⟨_,rfl⟩,q⟩) hz
theorem vals1 {x:V} {us:List Value} (r:Vals [x] us):∃ u,us=[u]∧RelV x u:=by
  cases r with
  | cons r1 r2=>cases r2; exact ⟨_,rfl,r1⟩
theorem vals2 {x y:V} {us:List Value} (r:Vals [x,y] us):∃ u w',us=[u,w']∧RelV x u∧RelV y w':=by
  cases r with
  | cons r1 r2 =>
    cases r2 with
    | cons r3 r4=>cases r4; exact ⟨_,_,rfl,r1,r3⟩
theorem call_abs:CallR X (.builtin "abs") (fun xs H Q=>∃ i,xs=[.int i]∧Q (.int (if i < 0 then -i else i)) H):=by
  intro pins s σ H xs us Q I r h
  obtain ⟨i,rfl,q⟩:=h
  obtain ⟨u,rfl,t,rfl⟩:=vals1 r
  exact call_abs_int fun u tk=>⟨.int (if i < 0 then -i else i),H,I.tok _,⟨_,rfl⟩,q⟩
theorem call_min2 (hc:X.calm=true):CallR X (.builtin "min") (fun xs H Q=>∃ i j,xs=[.int i,.int j]∧Q (.int (if j < i then j else i)) H):=by
  intro pins s σ H xs us Q I r h
  obtain ⟨i,j,rfl,q⟩:=h
  obtain ⟨u,w',rfl,⟨t,rfl⟩,⟨t',rfl⟩⟩:=vals2 r
  refine min_two_ints (I.ok.hd hc) fun h' tk k=>⟨_,H,I.kept k,?_,q⟩
  by_cases hj:j < i
  · rw [if_pos hj,if_pos hj]; exact ⟨_,rfl⟩
  · rw [if_neg hj,if_neg hj]; exact ⟨_,rfl⟩
theorem call_int1:CallR X (.type "int") (fun xs H Q=>(∃ i,xs=[.int i]∧Q (.int i) H)∨∃ k,xs=[.bl k]∧Q (.int (if k then 1 else 0)) H):=by
  intro pins s σ H xs us Q I r h
  rcases h with ⟨i,rfl,q⟩ | ⟨k,rfl,q⟩
  · obtain ⟨u,rfl,t,rfl⟩:=vals1 r
    exact call_int_int ⟨.int i,H,I,⟨_,rfl⟩,q⟩
  · obtain ⟨u,rfl,r1⟩:=vals1 r
    cases r1
    exact call_int_bool ⟨.int (if k then 1 else 0),H,I.tok _,⟨_,rfl⟩,q⟩
end
end L2
namespace L2
open PySem PySem.Spec PyProof.Rows
structure ObjM (h:Heap) (x dx C:Addr) (mA:Str→Option Value):Prop where
  obj:h.get? x=some (PySem.W.instObj C dx)
  ns:h.Ns1 dx mA
  ne:dx≠x
theorem lookIn_ns {h:Heap} {dx:Addr} {mA:Str→Option Value} (n:h.Ns1 dx mA):∃ od,h.get? dx=some od∧∀ name,PySem.W.lookIn name od=some (mA name):=by
  obtain ⟨o,es,ep,ho,hd,hk,_,hm⟩:=n
  refine ⟨o,ho,fun name=>?_⟩
  have e:=hm name
  unfold nsFind findBy at e
  rw [← Array.find?_toList] at e
  unfold PySem.W.lookIn
  rw [hd]
  dsimp only
  split
  · rename_i y q
    rw [q] at e
    exact congrArg some e
  · rename_i q
    rw [q] at e
    have a:es.toList.any (·.refKey)=false:=by
      rw [List.any_eq_false]
      intro y hy
      obtain ⟨z,t,hkey⟩:=hk y (Array.mem_toList_iff.mp hy)
      simp [DictEntry.refKey,hkey]
    have a':¬ es.toList.any (·.refKey)=true:=by rw [a]; exact Bool.false_ne_true
    rw [if_neg a']
    exact congrArg some e
theorem ObjM.look {h:Heap} {x dx C:Addr} {mA:Str→Option Value} (I:ObjM h x dx C mA):∃ od,PySem.W.InstAt h x (PySem.W.instObj C dx) C (some od)∧∀ name,PySem.W.lookIn name od=some (mA name) :=
  let ⟨od,ho,hl⟩:=lookIn_ns I.ns
  ⟨od,⟨I.obj,rfl,rfl,ho⟩,hl⟩
section
variable {prog:Program} {w:World} {A:Around} {E:Value→Shared→Prop} {s:Shared} {K:PySem.W.Frag} {x dx C f:Addr} {mA:Str→Option Value} {name:Str} {v:Value}
end
section
variable {P:Program} {w:World} {H H':Hp} {h h':Heap} {a C dx:Addr} {fs fs':List (Str × V)}
theorem ins_get (hok:HOk P w H h) (e:H a=some (.ins C dx fs)):∃ mA,ObjM h a dx C mA∧(∀ f,RelO (fs.lookup f) (mA f))∧PySem.Within mA (fs.map (·.1))∧fs.length≤1000∧H dx=some (.own a):=by
  obtain ⟨d,z,ne,ob,mA,n,r,q⟩:=(show ObjOk P w H h a (.ins C dx fs) from hok a _ e)
  exact ⟨mA,⟨ob,n,ne⟩,r,q,z,d⟩
end
structure Cls (K:PySem.W.Frag) (C:Addr):Prop where
  pg:PySem.W.plainGet K C Str.empty=true
  hd:PySem.W.hasDictIn K C=true
  po:PySem.W.plainOver K C=true
  sa:PySem.W.findIn K (.ref C) "__setattr__" = some (some (.builtin "object.__setattr__"))
theorem Cls.get {K:PySem.W.Frag} {C:Addr} (c:Cls K C) (f:Str):PySem.W.plainGet K C f=true:=c.pg
structure Con (K:PySem.W.Frag) (C:Addr) (f:Str) (v:V) (u:Value):Prop where
  at_:PySem.W.findIn K (.ref C) f=some (some u)
  rel:RelV v u
  get:PySem.W.specialIn K u "__get__" = some none
  cp:PySem.W.copiedNames.contains f=false
structure Meth (K:PySem.W.Frag) (C:Addr) (m:Str) (f:Addr):Prop where
  at_:PySem.W.findIn K (.ref C) m=some (some (.ref f))
  fn:PySem.W.isFn K (.ref f)=true
  kp:PySem.W.keepIn K (.ref f)=true
section
variable {X:Cx} {pins:List (Addr × Obj)} {σ:St} {H:Hp} {s:Shared} {a C dx:Addr} {fs:List (Str × V)} {f:Str} {v:V} {A:Around} {E:Value→Shared→Prop}
theorem Inv.made (I:Inv X pins σ H s):Inv X pins σ (upd (upd H s.heap.objs.size (.own (s.heap.objs.size+1))) (s.heap.objs.size+1) (.ins C s.heap.objs.size []))
    { s with heap:=(s.heap.push PySem.W.emptyDict).push (PySem.W.instObj C s.heap.objs.size) }:=by
  have e1:(s.heap.push PySem.W.emptyDict).get? s.heap.objs.size=some PySem.W.emptyDict:=Heap.get?_push_size s.heap rfl
  have e2:((s.heap.push PySem.W.emptyDict).push (PySem.W.instObj C s.heap.objs.size)).get? (s.heap.objs.size+1)=some (PySem.W.instObj C s.heap.objs.size):=by
    have:=Heap.get?_push_size (s.heap.push PySem.W.emptyDict) (o:=PySem.W.instObj C s.heap.objs.size) rfl
    rwa [Heap.size_push] at this
  have e3:(s.heap.push PySem.W.emptyDict).Ns s.heap.objs.size (fun _=>none):=⟨PySem.W.emptyDict,#[],_,e1,rfl,(fun e he=>absurd he (by simp)),fun _=>rfl⟩
  have I1:=I.laid (a:=s.heap.objs.size) (o:=.own (s.heap.objs.size+1)) (h':=s.heap.push PySem.W.emptyDict) (t':=s.toks) (fun b u q=>Heap.get?_push_of_some _ q) (Nat.le_refl _) ⟨_,e1⟩
  refine I1.laid (a:=s.heap.objs.size+1) (o:=.ins C s.heap.objs.size []) (t':=s.toks) (fun b u q=>Heap.get?_push_of_some _ q) (Nat.le_of_eq (Heap.size_push _ _)) ?_
  have ne:s.heap.objs.size≠s.heap.objs.size+1:=Nat.ne_of_lt (Nat.lt_succ_self _)
  refine ⟨by rw [upd_ne ne,upd_same],Nat.zero_le _,ne,e2,fun _=>none,(Heap.Ns1.of_empty e3).at fun o q=>Heap.get?_push_of_some _ q,fun _=>True.intro,fun y hy=>absurd rfl hy⟩
end
section
variable {X:Cx} {o e value:Expr} {f:Str} {pos pos' tpos:Pos} {ta tv:TE}
end
section
variable {X:Cx} {pins:List (Addr × Obj)} {σ:St} {H:Hp} {s:Shared} {A:Around} {E:Value→Shared→Prop} {Q:Value→Shared→Prop} {c:Value} {b:Bool}
inductive TyOf (K:PySem.W.Frag) (H:Hp):V→Value→Prop where
  | non:TyOf K H .non (.type "NoneType")
  | bl (x:Bool):TyOf K H (.bl x) (.type "bool")
  | int (i:Int):TyOf K H (.int i) (.type "int")
  | str (x:Str):TyOf K H (.str x) (.type "str")
  | flt (x:UInt64):TyOf K H (.flt x) (.type "float")
  | lst {a:Addr} {xs:List V} (e:H a=some (.lst xs)):TyOf K H (.ref a) (.type "list")
  | frz {a:Addr} {o:Obj} {xs:List V} (e:H a=some (.frz o (.lst xs))):TyOf K H (.ref a) (.type "list")
  | tup {a:Addr} {xs:List V} (e:H a=some (.tup xs)):TyOf K H (.ref a) (.type "tuple")
  | dK {a:Addr} {kvs:List (Key × V)} (e:H a=some (.dK kvs)):TyOf K H (.ref a) (.type "dict")
  | dT {a:Addr} {kvs:List (List Key × V)} (e:H a=some (.dT kvs)):TyOf K H (.ref a) (.type "dict")
  | ins {a C dx:Addr} {fs:List (Str × V)} (e:H a=some (.ins C dx fs)) (cl:Cls K C) (ha:PySem.W.findIn K (.ref C) "__class__" = some (some (.builtin "object.__class__")))
      (hn:PySem.W.specialIn K (.builtin "object.__class__") "__get__" = some (some (.builtin "getset_descriptor.__get__"))) (htk:PySem.W.takesIn K (.builtin "object.__class__")=some true)
      (hm:PySem.W.mroIn K C (.type "object")=some true):TyOf K H (.ref a) (.ref C)
theorem isinst_ok {x:V} {u t:Value} (I:Inv X pins σ H s) (rx:RelV x u) (ty:TyOf X.K H x t) (e:PySem.W.kitOne X.K t c=some b) (h:∀ tk,Q (.bool b) { s with toks:=tk }) :
    wpAny (model X.prog X.w) A (call (.builtin "isinstance") [u,c]) Q E s:=by
  cases ty with
  | non=>cases (show u=Value.none from rx); exact PySem.W.kia_one PySem.W.kitx_none I.kIn True.intro e (fun z=>nomatch z) h
  | bl y=>cases (show u=Value.bool y from rx); exact PySem.W.kia_one PySem.W.kitx_bool I.kIn True.intro e (fun z=>nomatch z) h
  | int i=>obtain ⟨t,q⟩:=(show ∃ t,u=Value.int i t from rx); cases q; exact PySem.W.kia_one PySem.W.kitx_int I.kIn True.intro e (fun z=>nomatch z) h
  | str y=>obtain ⟨t,q⟩:=(show ∃ t,u=Value.str y t from rx); cases q; exact PySem.W.kia_one PySem.W.kitx_str I.kIn True.intro e (fun z=>nomatch z) h
  | flt y=>obtain ⟨t,q⟩:=(show ∃ t,u=Value.float y t from rx); cases q; exact PySem.W.kia_one PySem.W.kitx_float I.kIn True.intro e (fun z=>nomatch z) h
  | @lst a xs ea =>
    cases (show u=Value.ref a from rx)
    obtain ⟨_,_,n,_,h1⟩:=(show ObjOk X.prog X.w H s.heap a (.lst xs) from I.hok a _ ea)
    exact PySem.W.kia_one PySem.W.kitx_list I.kIn ⟨_,h1,rfl⟩ e (fun z=>nomatch z) h
  | @frz a ob xs ea =>
    cases (show u=Value.ref a from rx)
    obtain ⟨_,_,_,n,_,h1⟩:=(show ObjOk X.prog X.w H s.heap a (.frz ob (.lst xs)) from I.hok a _ ea)
    exact PySem.W.kia_one PySem.W.kitx_list I.kIn ⟨_,h1,rfl⟩ e (fun z=>nomatch z) h
  | @tup a xs ea =>
    cases (show u=Value.ref a from rx)
    obtain ⟨_,_,_,p⟩:=(show ObjOk X.prog X.w H s.heap a (.tup xs) from I.hok a _ ea)
    obtain ⟨o,h1,h2,_⟩:=p
    exact PySem.W.kia_one PySem.W.kitx_tuple I.kIn ⟨o,h1,h2⟩ e (fun z=>nomatch z) h
  | @dK a kvs ea =>
    cases (show u=Value.ref a from rx)
    obtain ⟨_,_,vs,_,p⟩:=(show ObjOk X.prog X.w H s.heap a (.dK kvs) from I.hok a _ ea)
    obtain ⟨o,es,ep,h1,h2,_⟩:=p
    exact PySem.W.kia_one PySem.W.kitx_dict I.kIn ⟨o,h1,h2.1⟩ e (fun z=>nomatch z) h
  | @dT a kvs ea =>
    cases (show u=Value.ref a from rx)
    obtain ⟨_,_,xs,_,o,es,ep,h1,h2,_⟩:=(show ObjOk X.prog X.w H s.heap a (.dT kvs) from I.hok a _ ea)
    exact PySem.W.kia_one PySem.W.kitx_dict I.kIn ⟨o,h1,h2.1⟩ e (fun z=>nomatch z) h
  | @ins a C dx fs ea cl ha hn htk hm =>
    cases (show u=Value.ref a from rx)
    obtain ⟨mA,O,_⟩:=ins_get I.hok ea
    obtain ⟨od,J,_⟩:=O.look
    exact PySem.W.kia_one (PySem.W.kitx_own (cl.get _) cl.hd ha hn htk hm) I.kIn J e (fun z=>nomatch z) h
end
end L2
namespace L2
open PySem PySem.Spec PyProof.Rows
structure Room (k:Nat) (A:Around):Prop where
  hd:A.handled=none
  dp:A.depth+3 * k+5 < recursionLimit
  un:A.units+16 * k+200 < cLine
theorem Room.mono {j k:Nat} {A:Around} (r:Room k A) (h:j≤k):Room j A:=⟨r.hd,by have:=r.dp; omega,by have:=r.un; omega⟩
theorem Room.deeper {k:Nat} {A:Around} (r:Room (k+1) A) (env:Env):Room k (A.deeper env) :=
  ⟨r.hd,by have:=r.dp; show A.depth+1+3 * k+5 < _; omega,by have:=r.un; show A.units+3+16 * k+200 < _; omega⟩
theorem Room.in1 {k:Nat} {A:Around} (r:Room (k+1) A):Room k A.in1 :=
  ⟨r.hd,by have:=r.dp; show A.depth+3 * k+5 < _; omega,by have:=r.un; show A.units+1+16 * k+200 < _; omega⟩
theorem Room.depth {k:Nat} {A:Around} (r:Room k A):A.depth < recursionLimit:=by have:=r.dp; omega
theorem Room.units {k:Nat} {A:Around} (r:Room k A):A.units+64 < cLine:=by have:=r.un; omega
theorem Room.units0 {k:Nat} {A:Around} (r:Room k A):A.units < cLine:=by have:=r.un; omega
def tNil:TA:=fun _ H Q=>Q [] H
def tCons (ta:TE) (tr:TA):TA:=fun σ H Q=>ta σ H fun x H1=>tr σ H1 fun xs H2=>Q (x :: xs) H2
section
variable {X:Cx} {e:Expr} {es:List Expr} {te:TE} {t:TA} {pos:Pos}
theorem pa_nil:PA X [] tNil:=fun _ _ _ _ H Q I h=>Calls.spliced_nil ⟨[],H,I,.nil,h⟩
theorem pa_cons (ha:PE X e te) (hr:PA X es t) (hs:starEach (e :: es) X.env=(false,eval e X.env) :: starEach es X.env:=by rfl):PA X (e :: es) (tCons te t):=by
  intro pos pins s σ H Q I h
  rw [hs]
  show wpAny _ _ (spliced ((false,eval e X.env) :: backTo pos (starEach es X.env))) _ _ s
  refine Calls.spliced_cons (thn (ha pins s σ H _ I h) fun u s1 ⟨x,H1,I1,r1,q1⟩=>?_)
  exact thn (hr pos pins s1 σ H1 _ I1 q1) fun us s2 ⟨xs,H2,I2,r2,q2⟩=>⟨x :: xs,H2,I2,.cons r1 r2,q2⟩
def tTup (t:TA):TE:=fun σ H Q=>t σ H fun xs H1=>xs.length≤sizeLine∧∀ p,H1 p=none→Q (.ref p) (upd H1 p (.tup xs))
def tLst (t:TA):TE:=fun σ H Q=>t σ H fun xs H1=>xs.length≤sizeLine∧∀ p,H1 p=none→Q (.ref p) (upd H1 p (.lst xs))
theorem pe_tup {x1} (h:PA X es t):PE X (.Tuple es x1 pos) (tTup t):=by
  intro pins s σ H Q I hq
  refine wpAny_Tuple_spliced (thn (h pos pins s σ H _ I hq) fun us s1 ⟨xs,H1,I1,r,z,q⟩=>⟨by rw [← r.length]; exact z,?_⟩)
  have hf:H1 s1.heap.objs.size=none:=I1.hok.fresh (Nat.le_refl _)
  refine ⟨.ref s1.heap.objs.size,upd H1 s1.heap.objs.size (.tup xs),I1.laid (t':=s1.toks) (fun b u e=>Heap.get?_push_of_some _ e) (Nat.le_refl _) ?_,rfl,q _ hf⟩
  exact ⟨z,us,r,⟨_,Heap.get?_push_size _ rfl,rfl,_,rfl⟩⟩
theorem pe_lst (h:PA X es t):PE X (.List es pos) (tLst t):=by
  intro pins s σ H Q I hq
  refine wpAny_List_spliced (thn (h pos pins s σ H _ I hq) fun us s1 ⟨xs,H1,I1,r,z,q⟩=>⟨by rw [← r.length]; exact z,?_⟩)
  have hf:H1 s1.heap.objs.size=none:=I1.hok.fresh (Nat.le_refl _)
  refine ⟨.ref s1.heap.objs.size,upd H1 s1.heap.objs.size (.lst xs),I1.laid (t':=s1.toks) (fun b u e=>Heap.get?_push_of_some _ e) (Nat.le_refl _) ?_,rfl,q _ hf⟩
  exact ⟨z,us,0,r,Heap.get?_push_size _ rfl⟩
end
abbrev Sp:=List V→Hp→VK→XK→Prop
abbrev CXT:=List Env→Hp→Shared→XK→Value→Shared→Prop
structure Env0 (P:Program) (w:World) (K:PySem.W.Frag) (mg:Str→Option Value) (base:Heap) (A:Around) (outer:List Env) (s:Shared) (H:Hp):Prop where
  frames:A.frames=some outer
  mod:Mod K mg base
  bs:∀ b o,base.get? b=some o→s.heap.get? b=some o∧H b=none
  bsz:base.objs.size≤s.heap.objs.size
  funs:s.heap.FunFrames base outer
  frf:∀ b∈frs outer,H b=none
  hok:HOk P w H s.heap
  bare:AllBare s.gens
def CE (outer:List Env) (P:Program) (w:World) (H:Hp) (s:Shared) (Q:VK) (u:Value) (s':Shared):Prop :=
  ∃ v H',s'.os=s.os∧AllBare s'.gens∧Un (frs outer) [] H H' s.heap s'.heap∧HOk P w H' s'.heap∧RelV v u∧Q v H'
def CR (CX:CXT) (outer:List Env) (P:Program) (w:World) (H:Hp) (s:Shared) (Q:VK) (E:XK) (r:Result) (s':Shared):Prop :=
  match r with
  | .ok (.ret u)=>CE outer P w H s Q u s'
  | .ok _=>False
  | .error e=>CX outer H s E e s'
structure FnOk (P:Program) (w:World) (K:PySem.W.Frag) (mg:Str→Option Value) (base:Heap) (CX:CXT) (k:Nat) (f:Addr) (fd:FuncData) (ps:List Str) (sp:Sp):Prop where
  len:∀ vs H Q E,sp vs H Q E→vs.length=ps.length
  run:∀ (A:Around) (outer:List Env) (s:Shared) (H:Hp) (args:Args) (us:List Value) (vs:List V) (Q:VK) (E:XK),Room k A→Env0 P w K mg base A outer s H→BindsTo s fd args (ps.zip us)→Vals vs us→sp vs H Q E →
    codeAny (model P w) A (.call (.ref f) args) (CR CX outer P w H s Q E) s
theorem FnOk.mono {P:Program} {w:World} {K:PySem.W.Frag} {mg:Str→Option Value} {base:Heap} {CX:CXT} {j k:Nat} {f:Addr} {fd:FuncData} {ps:List Str} {sp:Sp} (F:FnOk P w K mg base CX j f fd ps sp) (h:j≤k) :
    FnOk P w K mg base CX k f fd ps sp:=⟨F.len,fun A outer s H args us vs Q E hr=>F.run A outer s H args us vs Q E (hr.mono h)⟩
theorem Env0.in1 {P:Program} {w:World} {K:PySem.W.Frag} {mg:Str→Option Value} {base:Heap} {A:Around} {outer:List Env} {s:Shared} {H:Hp} (e:Env0 P w K mg base A outer s H) :
    Env0 P w K mg base A.in1 outer s H:=⟨e.frames,e.mod,e.bs,e.bsz,e.funs,e.frf,e.hok,e.bare⟩
section
variable {X:Cx} {pins:List (Addr × Obj)} {σ:St} {H:Hp} {s s':Shared}
theorem Inv.env0 (I:Inv X pins σ H s):Env0 X.prog X.w X.K X.mg X.base X.A X.stack s H :=
  ⟨I.ok.frames,I.ok.mod,I.bs,Nat.le_trans I.ok.bsz I.sz,I.stack,I.stkFree,I.hok,I.bare⟩
theorem Inv.after {Q:VK} {u:Value} (I:Inv X pins σ H s) (h:CE X.stack X.prog X.w H s Q u s'):EP X pins σ Q u s':=by
  obtain ⟨v,H',os,bare,un,hok,r,q⟩:=h
  obtain ⟨hh,g,d,t,os'⟩:=s'
  obtain rfl:os'=s.os:=os
  exact ⟨v,H',I.call (h':=hh) (g':=g) (d':=d) (t':=t) (ch:=[]) un hok bare (fun b z=>absurd z (by simp)),r,q⟩
end
def tCall (sp:Sp) (dvs:List V) (E:XK) (t:TA):TE:=fun σ H Q=>t σ H fun vs H1=>sp (vs++dvs) H1 Q E
def Binds (K:PySem.W.Frag) (fd:FuncData) (ps:List Str) (ds:List Value):Prop :=
  ∀ (s:Shared) (us:List Value),K.In s.heap→(us++ds).length=ps.length→BindsTo s fd ⟨us,[]⟩ (ps.zip (us++ds))
theorem Binds.all {K:PySem.W.Frag} {fd:FuncData} {ps:List Str} (h:∀ us:List Value,us.length=ps.length→bindArgs fd ⟨us,[]⟩=pure (ps.zip us)):Binds K fd ps []:=fun s us _ hl=>by
  rw [List.append_nil] at hl ⊢
  exact .of_eq (h us hl)
def Passes (CX:CXT) (X:Cx) (E:XK):Prop:=∀ (pins:List (Addr × Obj)) (σ:St) (H:Hp) (s:Shared) (e:Value) (s':Shared),Inv X pins σ H s→CX X.stack H s E e s'→X.xe e s'
section
variable {X:Cx} {CX:CXT} {k:Nat} {f C:Addr} {fd:FuncData} {ps:List Str} {sp:Sp} {dvs:List V} {ds:List Value} {E:XK} {x m:Str} {p pos apos:Pos} {e o:Expr} {es:List Expr} {ta:TE} {t:TA}
theorem run_fn {pins:List (Addr × Obj)} {σ:St} {H:Hp} {s:Shared} {Q:VK} {us:List Value} {vs:List V} (F:FnOk X.prog X.w X.K X.mg X.base CX k f fd ps sp) (hr:Room k X.A) (hb:Binds X.K fd ps ds) (hd:Vals dvs ds) (hx:Passes CX X E)
    (I:Inv X pins σ H s) (r:Vals vs us) (h:sp (vs++dvs) H Q E):wpAny (model X.prog X.w) X.A (call (.ref f) us) (EP X pins σ Q) X.xe s:=by
  have r2:Vals (vs++dvs) (us++ds):=r.append hd
  have hl:(us++ds).length=ps.length:=by rw [← r2.length]; exact F.len _ _ _ _ h
  refine wpAny_call (codeAny_mono (F.run X.A X.stack s H ⟨us,[]⟩ (us++ds) (vs++dvs) Q E hr I.env0 (hb s us I.kIn hl) r2 h) fun r s' hq=>?_)
  cases r with
  | error e=>exact hx pins σ H s e s' I hq
  | ok fl =>
    cases fl with
    | ret u=>exact I.after hq
    | next=>exact False.elim hq
    | brk=>exact False.elim hq
    | cont=>exact False.elim hq
theorem pe_call (F:FnOk X.prog X.w X.K X.mg X.base CX k f fd ps sp) (hr:Room k X.A) (hg:Gl X x) (hm:X.mg x=some (.ref f)) (hk:PySem.W.keepIn X.K (.ref f)=true) (hb:Binds X.K fd ps ds) (hd:Vals dvs ds) (hx:Passes CX X E)
    (ha:PA X (e :: es) t) (hdb:(x == ("__debug__" : Str))=false:=by decide) (he:starEach (e :: es) X.env=(false,eval e X.env) :: starEach es X.env:=by rfl) (hpl:(backTo pos (starEach es X.env)).any (·.1)=false:=by rfl) :
    PE X (.Call (.Name x p) (e :: es) [] pos) (tCall sp dvs E t):=by
  intro pins s σ H Q I h
  refine wpAny_Call_Name_kw (ld_glob I hg hm ?_ hdb)
  refine PySem.W.callWith_K (h₀:=X.base) I.ok.mod.kin hk (thn (ha pos pins s σ H _ I h) fun us s1 ⟨vs,H1,I1,r,q⟩=>⟨I1.kIn,?_⟩) he hpl
  exact run_fn F hr hb hd hx I1 r q
structure Mk (K:PySem.W.Frag) (C f:Addr):Prop where
  makes:PySem.W.makesIn K C=true
  init:PySem.W.findIn K (.ref C) "__init__" = some (some (.ref f))
  fn:PySem.W.isFn K (.ref f)=true
  kp:PySem.W.keepIn K (.ref C)=true
end
section
variable {X:Cx} {CX:CXT} {k:Nat} {f C:Addr} {fd:FuncData} {ps ks:List Str} {sp:Sp} {E:XK} {x m:Str} {p pos apos kpos:Pos} {e o:Expr} {es:List Expr} {kws:List Keyword} {te ta:TE} {t tk:TA} {nm:Option Str}
structure KBinds (K:PySem.W.Frag) (fd:FuncData) (ps ks:List Str) (g:List Value→List Value→List Value) (gV:List V→List V→List V):Prop where
  to:∀ (s:Shared) (us ws:List Value),K.In s.heap→(g us ws).length=ps.length→BindsTo s fd ⟨us,ks.zip ws⟩ (ps.zip (g us ws))
  rel:∀ {vs:List V} {us:List Value} {zs:List V} {ws:List Value},Vals vs us→Vals zs ws→Vals (gV vs zs) (g us ws)
variable {g:List Value→List Value→List Value} {gV:List V→List V→List V}
end
structure FnScope (N P:List Str) (sc:Scope):Prop where
  kind:sc.kind=.function
  co:sc.isCoroutine=false
  gen:sc.isGenerator=false
  nd:N.Nodup
  pre:N.take P.length=P
  par:∀ x∈P,sc.names.lookup x=some .local∨sc.names.lookup x=some .cell
  nofree:∀ y∈sc.names,y.2≠.free
theorem bindL_out {kindOf:Str→Option NameKind} {x:Str}:∀ {binds:List (Str × Value)} {m:Str→Option Value},(∀ v,(x,v) ∉ binds)→bindL kindOf binds m x=m x
  | [],_,_=>rfl
  | (n,v) :: r,m,h=>by
    unfold bindL
    rw [bindL_out fun w hw=>h w (List.mem_cons_of_mem _ hw)]
    split
    · have:x≠n:=by rintro rfl; exact h v List.mem_cons_self
      simp [this]
    · rfl
theorem bindC_out {kindOf:Str→Option NameKind} {x:Str}:∀ {binds:List (Str × Value)} {m:Str→Option Value},(∀ v,(x,v) ∉ binds)→bindC kindOf binds m x=m x
  | [],_,_=>rfl
  | (n,v) :: r,m,h=>by
    unfold bindC
    rw [bindC_out fun w hw=>h w (List.mem_cons_of_mem _ hw)]
    split
    · rfl
    · have:x≠n:=by rintro rfl; exact h v List.mem_cons_self
      simp [this]
theorem bindL_get {kindOf:Str→Option NameKind} {x:Str} {v:Value}:∀ {P:List Str} {vs:List Value} {i:Nat} {m:Str→Option Value},P.Nodup→P[i]?=some x→vs[i]?=some v→kindOf x=some .local →
    bindL kindOf (P.zip vs) m x=some v
  | [],_,_,_,_,h,_,_=>by simp at h
  | _ :: _,[],_,_,_,_,h,_=>by simp at h
  | p :: P,w :: vs,0,m,nd,h1,h2,hk=>by
    simp at h1 h2; subst h1; subst h2
    show bindL kindOf ((p,w) :: P.zip vs) m p=_
    unfold bindL
    rw [bindL_out fun v hv=>(List.nodup_cons.mp nd).1 (List.of_mem_zip hv).1,if_pos hk]
    simp
  | p :: P,w :: vs,i+1,m,nd,h1,h2,hk=>by
    show bindL kindOf ((p,w) :: P.zip vs) m x=_
    unfold bindL
    exact bindL_get (i:=i) (List.nodup_cons.mp nd).2 (by simpa using h1) (by simpa using h2) hk
theorem bindC_get {kindOf:Str→Option NameKind} {x:Str} {v:Value}:∀ {P:List Str} {vs:List Value} {i:Nat} {m:Str→Option Value},P.Nodup→P[i]?=some x→vs[i]?=some v→kindOf x≠some .local →
    bindC kindOf (P.zip vs) m x=some v
  | [],_,_,_,_,h,_,_=>by simp at h
  | _ :: _,[],_,_,_,_,h,_=>by simp at h
  | p :: P,w :: vs,0,m,nd,h1,h2,hk=>by
    simp at h1 h2; subst h1; subst h2
    show bindC kindOf ((p,w) :: P.zip vs) m p=_
    unfold bindC
    rw [bindC_out fun v hv=>(List.nodup_cons.mp nd).1 (List.of_mem_zip hv).1,if_neg hk]
    simp
  | p :: P,w :: vs,i+1,m,nd,h1,h2,hk=>by
    show bindC kindOf ((p,w) :: P.zip vs) m x=_
    unfold bindC
    exact bindC_get (i:=i) (List.nodup_cons.mp nd).2 (by simpa using h1) (by simpa using h2) hk
def start (N:List Str) (vs:List V):St:=vs.map some++List.replicate (N.length - vs.length) none
def cxOf (CX:CXT) (P:Program) (w:World) (K:PySem.W.Frag) (mg:Str→Option Value) (base:Heap) (N:List Str) (qual:Str) (scope:Scope) (f:Addr) (cd:Value) (A:Around) (outer:List Env) (s:Shared) (H:Hp) (E:XK):Cx where
  prog:=P
  w:=w
  K:=K
  mg:=mg
  base:=base
  A:=A.deeper (envOfC qual scope s.heap.objs.size f cd)
  N:=N
  s₀:=s
  H₀:=H
  env:=envOfC qual scope s.heap.objs.size f cd
  outer:=outer
  stack:=envOfC qual scope s.heap.objs.size f cd :: outer
  ex:=[]
  calm:=true
  fn:=fun _=>true
  pn:=[]
  xe:=fun e s'=>wpAny (model P w) (A.deeper (envOfC qual scope s.heap.objs.size f cd)) (leaving (envOfC qual scope s.heap.objs.size f cd) e) (fun _ s''=>CX outer H s E e s'') (fun e' s''=>CX outer H s E e' s'') s'
theorem cell_has {sc:Scope} {n:Nat} {x:Str} (h:sc.names.lookup x=some .cell):∃ c,(cellsFrom n sc.names []).lookup x=some c:=by
  have q:=PySem.W.cellsFrom_some sc.names n [] (.inl h)
  exact Option.isSome_iff_exists.mp q
theorem inv_start {CX:CXT} {P:Program} {w:World} {K:PySem.W.Frag} {mg:Str→Option Value} {base:Heap} {N ps:List Str} {qual:Str} {scope:Scope} {f:Addr} {cd:Value} {A:Around} {outer:List Env} {s s1:Shared} {H:Hp} {E:XK} {us:List Value} {vs:List V}
    (S:FnScope N ps scope) (hd:A.handled=none) (e0:Env0 P w K mg base A outer s H) (hl:vs.length=ps.length) (r:Vals vs us)
    (x:InCallC s s.heap.objs.size (bindL (envOfC qual scope s.heap.objs.size f cd).kindOf (ps.zip us) fun _=>none) (cellsFrom (s.heap.objs.size+1) scope.names []) (bindC (envOfC qual scope s.heap.objs.size f cd).kindOf (ps.zip us) fun _=>none) s1) :
    Inv (cxOf CX P w K mg base N qual scope f cd A outer s H E) [] (start N vs) H s1:=by
  have hpl:ps.length≤N.length:=by have:=congrArg List.length S.pre; rw [List.length_take] at this; omega
  obtain ⟨h1,tk,rfl,hk⟩:=x.done
  have noA:∀ b:Addr,b ∉ (cxOf CX P w K mg base N qual scope f cd A outer s H E).ex:=fun b z=>absurd (show b∈([]:List Addr) from z) (by simp)
  refine ⟨⟨e0.mod,S.kind,rfl,rfl,Nat.le_refl _,fun y z c h1 h2=>?_,fun y hy=>?_,fun y c _ h=>?_,fun _=>hd,Around.frames_deeper e0.frames,.inr ⟨rfl,rfl⟩,fun b z=>absurd z (noA b),e0.bs,e0.bsz,fun b _ _=>noA b,fun b z=>absurd z (noA b),e0.funs,e0.frf⟩,
    rfl,e0.bare,Un.kept hk,⟨_,x.toInCall.ns,fun i y v h1 h2 h3=>?_⟩,fun y c h=>⟨_,x.cell y c h⟩,e0.hok.fresh (Nat.le_refl _),fun y c h=>?_,fun p hp=>absurd (show p∈([]:List (Addr × Obj)) from hp) (by simp),e0.hok.kept hk,?_⟩
  · exact name_of_addr x.apart (PySem.mem_of_lookup h1) (PySem.mem_of_lookup h2)
  · have hy:scope.names.lookup y=some .cell∨scope.names.lookup y=some .free:=hy
    rcases hy with hy | hy
    · exact cell_has hy
    · exact absurd rfl (S.nofree _ (PySem.mem_of_lookup hy))
  · exact Nat.le_of_lt (x.above y c (PySem.mem_of_lookup h))
  · have hi:i < vs.length:=by
      unfold start at h2
      by_cases hi:i < vs.length
      · exact hi
      · rw [List.getElem?_append_right (by simpa using hi)] at h2
        rw [List.getElem?_replicate] at h2
        split at h2 <;> cases h2
    have ha:vs[i]?=some v:=by
      unfold start at h2
      rw [List.getElem?_append_left (by simpa using hi),List.getElem?_map] at h2
      cases e:vs[i]? with
      | none=>rw [e] at h2; cases h2
      | some a=>rw [e] at h2; cases h2; rfl
    obtain ⟨u,hu,rv⟩:=r.get ha
    have hp:ps[i]?=some y:=by
      rw [← S.pre,List.getElem?_take_of_lt (by omega)]; exact h1
    have ndP:ps.Nodup:=by rw [← S.pre]; exact S.nd.sublist (List.take_sublist _ _)
    refine ⟨u,rv,?_⟩
    rcases S.par y (List.mem_of_getElem? hp) with k | k
    · exact .inl ⟨k,bindL_get ndP hp hu k⟩
    · obtain ⟨c,e⟩:=cell_has (n:=s.heap.objs.size+1) k
      refine .inr ⟨.inl k,c,e,?_⟩
      have q:=x.cell y c e
      rw [bindC_get ndP hp hu (by show scope.names.lookup y≠_; rw [k]; decide)] at q
      exact q
  · exact e0.hok.fresh (Nat.le_of_lt (x.above y c (PySem.mem_of_lookup h)))
  · unfold start
    show _=N.length
    rw [List.length_append,List.length_map,List.length_replicate]
    omega
theorem fn_of {CX:CXT} {P:Program} {w:World} {K:PySem.W.Frag} {mg:Str→Option Value} {base:Heap} {k:Nat} {f:Addr} {name qual:Str} {params:Arguments} {body:List Stmt} {scope:Scope} {dV kV doc pm cdv ct oc:Value} {an od:Option Addr}
    {osl:Array (Option Value)} {N ps:List Str} {sp:Sp} (lk:K.lookup f=some ⟨oc,od,.func (PySem.W.fnOf name qual params body scope dV kV doc pm an cdv ct),osl⟩) (hcd:PySem.W.codeIn K cdv qual=true) (S:FnScope N ps scope)
    (len:∀ vs H Q E,sp vs H Q E→vs.length=ps.length)
    (hbody:∀ (A:Around) (outer:List Env) (s:Shared) (H:Hp) (vs:List V) (Q:VK) (E:XK),Room k (A.deeper (envOfC qual scope s.heap.objs.size f cdv))→sp vs H Q E →
      ∃ t,PSs (cxOf CX P w K mg base N qual scope f cdv A outer s H E) body t∧t { nx:=fun _ H'=>Q .non H',rt:=Q } (start N vs) H) :
    FnOk P w K mg base CX (k+1) f (PySem.W.fnOf name qual params body scope dV kV doc pm an cdv ct) ps sp:=by
  refine ⟨len,fun A outer s H args us vs Q E hr e0 hb r hsp=>?_⟩
  have hl:=len _ _ _ _ hsp
  have KX:K.In s.heap:=e0.mod.kin.keeps fun b o e=>(e0.bs b o e).1
  have lim:s.heap.NoLimit:=e0.mod.nolimit.keeps fun b o e=>(e0.bs b o e).1
  have hkind:∀ y∈ps.zip us,scope.names.lookup y.1=some .local∨(scope.names.lookup y.1=some .cell∧((cellsFrom (s.heap.objs.size+1) scope.names []).lookup y.1).isSome=true):=fun ⟨n,v⟩ hy=>by
    rcases S.par n (List.of_mem_zip hy).1 with q | q
    · exact .inl q
    · exact .inr ⟨q,PySem.W.cellsFrom_some _ _ _ (.inl q)⟩
  refine codeAny_call_function hr.depth (KX _ _ lk) rfl S.co S.gen rfl (PySem.W.codeRec_of KX hcd) (hb _ _ _ _ ?_)
  refine wpAny_newFunctionEnv_cells S.kind hkind fun env he s1 x=>?_
  subst he
  refine ⟨lim.keeps x.toInCall.keep,codeAny_func ?_⟩
  obtain ⟨t,ht,hq⟩:=hbody A outer s H vs Q E (hr.deeper _) hsp
  have I:Inv (cxOf CX P w K mg base N qual scope f cdv A outer s H E) [] (start N vs) H s1:=inv_start S hr.hd e0 hl r x
  refine wpAny_mono (ht [] s1 (start N vs) H _ I hq) (fun fl s' hs=>?_) fun e s' hs=>hs
  have fin:∀ {σ':St} {H':Hp} {v:V} {u:Value},Inv (cxOf CX P w K mg base N qual scope f cdv A outer s H E) [] σ' H' s'→RelV v u→Q v H'→CE outer P w H s Q u s' :=
    fun {σ' H' v u} J rv q=>⟨v,H',J.os,J.bare,J.base,J.hok,rv,q⟩
  cases fl with
  | ret u =>
    obtain ⟨v,σ',H',J,rv,q⟩:=hs
    exact fin J rv q
  | next =>
    obtain ⟨σ',H',J,q⟩:=hs
    exact fin (v:=V.non) (u:=Value.none) J rfl q
  | brk =>
    obtain ⟨_,_,_,q⟩:=hs
    exact False.elim q
  | cont =>
    obtain ⟨_,_,_,q⟩:=hs
    exact False.elim q
end L2
namespace L2
open PySem PySem.Spec PyProof.Rows
section
variable {X:Cx} {x:Str} {p pos:Pos} {e:Expr} {es:List Expr} {t:TA} {id T:String} {r:List V→Hp→VK→Prop}
def tCB (r:List V→Hp→VK→Prop) (t:TA):TE:=fun σ H Q=>t σ H fun vs H1=>r vs H1 Q
theorem pe_callB (hc:CallR X (.builtin id) r) (hg:Gl X x) (hm:X.mg x=none) (hv:bootBuiltins x=some (.builtin id)) (ha:PA X (e :: es) t) (hn:x ≠ "__name__":=by decide) (hdb:(x == ("__debug__" : Str))=false:=by decide)
    (he:starEach (e :: es) X.env=(false,eval e X.env) :: starEach es X.env:=by rfl) (hpl:(backTo pos (starEach es X.env)).any (·.1)=false:=by rfl):PE X (.Call (.Name x p) (e :: es) [] pos) (tCB r t):=by
  intro pins s σ H Q I h
  refine wpAny_Call_Name_kw (ld_blt I hg hm hv ?_ hn hdb)
  exact PyProof.Rows.callWith_builtin1 (thn (ha pos pins s σ H _ I h) fun us s1 ⟨vs,H1,I1,r1,q1⟩=>hc pins s1 σ H1 vs us Q I1 r1 q1) he hpl
theorem pe_callTy (hc:CallR X (.type T) r) (hg:Gl X x) (hm:X.mg x=none) (hv:bootBuiltins x=some (.type T)) (ha:PA X (e :: es) t) (hn:x ≠ "__name__":=by decide) (hdb:(x == ("__debug__" : Str))=false:=by decide)
    (he:starEach (e :: es) X.env=(false,eval e X.env) :: starEach es X.env:=by rfl) (hpl:(backTo pos (starEach es X.env)).any (·.1)=false:=by rfl):PE X (.Call (.Name x p) (e :: es) [] pos) (tCB r t):=by
  intro pins s σ H Q I h
  refine wpAny_Call_Name_kw (ld_blt I hg hm hv ?_ hn hdb)
  exact PyProof.Rows.callWith_type1 (thn (ha pos pins s σ H _ I h) fun us s1 ⟨vs,H1,I1,r1,q1⟩=>hc pins s1 σ H1 vs us Q I1 r1 q1) he hpl
end
end L2
namespace HT
open PySem PyProof.Rows
section
open PySem.SeqAt
open PySem.AutoSeq1 (wpAny_loadPart')
open PySem.MeetsSeq PySem.MeetsSeq2 PySem.MeetsSeq3
end
section
variable {prog:Program} {w:World} {A:Around} {E:Value→Shared→Prop} {s:Shared}
def sIx (n d:Nat):Option Int→Nat
  | none=>d
  | some v=>if v < 0 then (v+(n:Int)).toNat else min v.toNat n
theorem sIx_none (n d:Nat):sIx n d none=d:=rfl
theorem sIx_nat (n d k:Nat):sIx n d (some (k:Int))=min k n:=by
  show (if (k:Int) < 0 then ((k:Int)+(n:Int)).toNat else min (k:Int).toNat n)=min k n
  rw [if_neg (by omega),Int.toNat_natCast]
theorem sIx_le (n d:Nat) (hd:d≤n) (o:Option Int):sIx n d o≤n:=by
  cases o with
  | none=>exact hd
  | some v =>
    show (if v < 0 then (v+(n:Int)).toNat else min v.toNat n)≤n
    by_cases hv:v < 0
    · rw [if_pos hv]; omega
    · rw [if_neg hv]; exact Nat.min_le_right _ _
theorem clip_eq (v:Int) (n d:Nat):(if v < 0 then max (v+(n:Int)) 0 else min v (n:Int))=((sIx n d (some v):Nat):Int):=by
  show (if v < 0 then max (v+(n:Int)) 0 else min v (n:Int))=(((if v < 0 then (v+(n:Int)).toNat else min v.toNat n):Nat):Int)
  by_cases hv:v < 0
  · simp only [if_pos hv]; omega
  · simp only [if_neg hv]; omega
theorem adjust_gen (lo hi:Option Int) (n:Nat):Builtin.Slice.sliceAdjust lo hi 1 (n:Int)=(((sIx n 0 lo:Nat):Int),((sIx n n hi:Nat):Int)):=by
  have h1:¬ ((1:Int) < 0):=by omega
  unfold Builtin.Slice.sliceAdjust
  simp only [h1,if_false]
  refine Prod.ext ?_ ?_
  · cases lo with
    | none=>rfl
    | some v=>exact clip_eq v n 0
  · cases hi with
    | none=>rfl
    | some v=>exact clip_eq v n n
theorem places_gen (i j:Nat):Builtin.Slice.slicePlaces (i:Int) (j:Int) 1=j - i:=by
  unfold Builtin.Slice.slicePlaces
  have h1:(1:Int) > 0:=by omega
  simp only [h1,if_true,Int.ediv_one]
  split <;> omega
theorem slicePart_ {v:Value} {o:Option Int} {Q:Option Int→Shared→Prop} (p:IsPart v o) (h:Q o s):wpAny (model prog w) A (Builtin.Slice.slicePartIndex v) Q E s:=by
  cases p with
  | none=>exact slicePart_none h
  | int i t=>exact slicePart_int h
theorem sliceApplied_gen {sl:Addr} {vl vu:Value} {lo hi:Option Int} {n:Nat} {Q:Int × Int × Nat→Shared→Prop} (hs:s.heap.IsSliceOf sl vl vu .none) (pl:IsPart vl lo) (pu:IsPart vu hi)
    (h:Q (((sIx n 0 lo:Nat):Int),1,sIx n n hi - sIx n 0 lo) s):wpAny (model prog w) A (Builtin.Slice.sliceApplied (.ref sl) (pure (n:Int))) Q E s:=by
  obtain ⟨os,hos,hcs,hds⟩:=id hs
  unfold Builtin.Slice.sliceApplied Builtin.Slice.sliceFields
  refine wpAny_bind (wpAny_bind (wpAny_field hos hds (x:=vl) rfl (wpAny_bind (wpAny_field hos hds (x:=vu) rfl (wpAny_bind (wpAny_field hos hds (x:=.none) rfl (wpAny_pure ?_)))))))
  refine wpAny_bind (slicePart_none ?_)
  show wpAny _ _ (if ((1:Int) == 0)=true then _ else _) _ _ s
  rw [if_neg (by decide)]
  refine wpAny_bind (slicePart_ pl (wpAny_bind (slicePart_ pu (wpAny_bind (wpAny_pure ?_)))))
  show wpAny _ _ (match Builtin.Slice.sliceAdjust lo hi 1 (n:Int) with | (lo,hi)=>pure (lo,(1:Int),Builtin.Slice.slicePlaces lo hi 1)) _ _ s
  rw [adjust_gen lo hi n]
  show wpAny _ _ (pure (((sIx n 0 lo:Nat):Int),(1:Int),Builtin.Slice.slicePlaces ((sIx n 0 lo:Nat):Int) ((sIx n n hi:Nat):Int) 1)) _ _ s
  rw [places_gen]
  exact wpAny_pure h
theorem pick_gen (xs:Array Value) (i k:Nat):((List.range k).filterMap fun (m:Nat)=>xs[((i:Int)+(m:Int) * 1).toNat]?).toArray=((xs.toList.drop i).take k).toArray:=by
  have e:(fun (m:Nat)=>xs[((i:Int)+(m:Int) * 1).toNat]?)=fun m=>xs[i+m]?:=by
    funext m
    have:((i:Int)+(m:Int) * 1).toNat=i+m:=by omega
    rw [this]
  rw [e]
  have:=pick_run xs i k
  rw [List.filterMap_map] at this
  have e2:((fun x=>xs[x]?) ∘ fun x=>i+x)=fun m=>xs[i+m]?:=rfl
  rw [e2] at this
  rw [this]
theorem getItem_tuple_cut {t sl:Addr} {items:Array Value} {vl vu:Value} {lo hi:Option Int} {Q:Value→Shared→Prop} (ht:IsTup s.heap t items) (hs:s.heap.IsSliceOf sl vl vu .none) (pl:IsPart vl lo) (pu:IsPart vu hi)
    (hw:¬ (sIx items.size 0 lo=0∧sIx items.size items.size hi=items.size))
    (h:Q (.ref s.heap.objs.size) { s with heap:=s.heap.push { cls:=.type "tuple",data:=.seq ((items.toList.drop (sIx items.size 0 lo)).take (sIx items.size items.size hi - sIx items.size 0 lo)).toArray } })
    (hsz:items.size≤sizeLine):wpAny (model prog w) A (getItem (.ref t) (.ref sl)) Q E s:=by
  have htake:sizeOk (.seq ((items.toList.drop (sIx items.size 0 lo)).take (sIx items.size items.size hi - sIx items.size 0 lo)).toArray):=by
    show ((items.toList.drop (sIx items.size 0 lo)).take (sIx items.size items.size hi - sIx items.size 0 lo)).toArray.size≤sizeLine
    rw [List.size_toArray,List.length_take,List.length_drop,Array.length_toList]
    omega
  have hj:sIx items.size items.size hi≤items.size:=sIx_le _ _ (Nat.le_refl _) hi
  obtain ⟨os,hos,hcs,hds⟩:=id hs
  have hTs:s.TypeIs (.ref sl) "slice":=⟨os,hos,hcs⟩
  unfold getItem
  try with_reducible refine wpAny_holding ?_
  first | refine wpAny_bind (wpAny_pure ?_) | skip
  refine wpAny_bind (wpAny_sequenceKey ht.typeIs (by decide) ?_)
  refine wpAny_bind (wpAny_callSpecial?_slot (name:=Str.ofString "__getitem__") ht.typeIs PyProof.Rows.slot_tuple_getitem
    (wpAny_call_entry PyProof.Rows.slot_tuple_getitem ht.typeIs entry_tuple_getitem ?_ (args_tuple_getitem _ _)))
  show wpAny _ _ (Builtin.Tuple.tupleItemsOf (.ref t) >>= _) _ _ s
  refine wpAny_bind (tupleItemsOf_ ht ?_)
  refine wpAny_bind (wpAny_typeOf hTs ?_)
  rw [if_pos (by decide)]
  refine wpAny_bind (sliceApplied_gen hs pl pu ?_)
  have hno:¬ ((((sIx items.size 0 lo:Nat):Int) == 0 && (1:Int) == 1 && (sIx items.size items.size hi - sIx items.size 0 lo) == items.size)=true):=by
    intro q
    rw [Bool.and_eq_true,Bool.and_eq_true] at q
    have q1:((sIx items.size 0 lo:Nat):Int)=0:=eq_of_beq q.1.1
    have q2:sIx items.size items.size hi - sIx items.size 0 lo=items.size:=eq_of_beq q.2
    exact hw ⟨by omega,by omega⟩
  show wpAny _ _ (if (((sIx items.size 0 lo:Nat):Int) == 0 && (1:Int) == 1 && (sIx items.size items.size hi - sIx items.size 0 lo) == items.size)=true then _ else _) _ _ s
  rw [if_neg hno,pick_gen]
  first
    | exact wpAny_bind (m:=Builtin.Tuple.tupleExact _) (wpAny_newObj_type (wpAny_pure ⟨_,rfl,wpAny_pure h⟩) htake)
    | exact wpAny_bind (m:=Builtin.Tuple.tupleExact _) (wpAny_newObj_type (wpAny_bind (wpAny_pure (wpAny_pure ⟨_,rfl,wpAny_pure h⟩))) htake)
    | exact wpAny_bind (wpAny_bind (m:=Builtin.Tuple.tupleExact _) (wpAny_newObj_type (wpAny_pure (wpAny_pure ⟨_,rfl,wpAny_pure h⟩)) htake))
    | exact wpAny_bind (wpAny_bind (m:=Builtin.Tuple.tupleExact _) (wpAny_newObj_type (wpAny_pure ⟨_,rfl,wpAny_pure h⟩) htake))
end
end HT
namespace L2
open PySem PySem.Spec PyProof.Rows
abbrev TO:=St→Hp→(Option Int→Hp→Prop)→Prop
def PO (X:Cx) (e:Option Expr) (t:TO):Prop :=
  ∀ (pins:List (Addr × Obj)) (s:Shared) (σ:St) (H:Hp) (Q:Option Int→Hp→Prop),Inv X pins σ H s→t σ H Q →
    wpAny (model X.prog X.w) X.A (evalPart e X.env) (fun u s'=>∃ o H',Inv X pins σ H' s'∧IsPart u o∧Q o H') X.xe s
def tNoPart:TO:=fun _ H Q=>Q none H
def tPart (t:TE):TO:=fun σ H Q=>t σ H fun x H1=>∃ i,x=.int i∧Q (some i) H1
section
variable {X:Cx} {e:Expr} {te:TE} {lo hi:Option Expr} {tl th:TO} {pos p2:Pos}
theorem po_none:PO X none tNoPart:=by
  intro pins s σ H Q I h
  rw [evalPart_none]
  exact wpAny_pure ⟨none,H,I,.none,h⟩
theorem po_some (h:PE X e te):PO X (some e) (tPart te):=by
  intro pins s σ H Q I hw
  rw [evalPart_some]
  refine thn (h pins s σ H _ I hw) fun u s1 ⟨x,H1,I1,r1,q1⟩=>?_
  obtain ⟨i,rfl,q⟩:=q1
  obtain ⟨t,rfl⟩:=r1
  exact ⟨some i,H1,I1,.int i t,q⟩
def SlR (X:Cx) (r:V→Option Int→Option Int→Hp→VK→Prop):Prop :=
  ∀ (pins:List (Addr × Obj)) (s:Shared) (σ:St) (H:Hp) (x:V) (v vl vu:Value) (lo hi:Option Int) (sl:Addr) (Q:VK),Inv X pins σ H s→RelV x v→s.heap.IsSliceOf sl vl vu .none→IsPart vl lo→IsPart vu hi→r x lo hi H Q →
    ∃ T id,typeLookup (.type T) "__getitem__" = pure (some (.builtin id))∧s.TypeIs v T∧wpAny (model X.prog X.w) X.A (getItem v (.ref sl)) (EP X pins σ Q) X.xe s
theorem SlR.or {r r':V→Option Int→Option Int→Hp→VK→Prop} (h:SlR X r) (h':SlR X r'):SlR X (fun x lo hi H Q=>r x lo hi H Q∨r' x lo hi H Q):=by
  intro pins s σ H x v vl vu lo hi sl Q I rx hs pl pu q
  rcases q with q | q
  · exact h pins s σ H x v vl vu lo hi sl Q I rx hs pl pu q
  · exact h' pins s σ H x v vl vu lo hi sl Q I rx hs pl pu q
def tSl (r:V→Option Int→Option Int→Hp→VK→Prop) (te:TE) (tl th:TO):TE:=fun σ H Q=>te σ H fun x H1=>tl σ H1 fun l H2=>th σ H2 fun u H3=>r x l u H3 Q
theorem pe_slice {r:V→Option Int→Option Int→Hp→VK→Prop} (hr:SlR X r) (he:PE X e te) (hl:PO X lo tl) (hu:PO X hi th):PE X (.Subscript e (.Slice lo hi none p2) pos) (tSl r te tl th):=by
  intro pins s σ H Q I h
  refine Subscript_ (thn (he pins s σ H _ I h) fun v s1 ⟨x,H1,I1,r1,q1⟩=>?_)
  refine wpAny_Slice (thn (hl pins s1 σ H1 _ I1 q1) fun vl s2 ⟨l,H2,I2,pl,q2⟩=>thn (hu pins s2 σ H2 _ I2 q2) fun vu s3 ⟨u,H3,I3,pu,q3⟩=>?_)
  rw [evalPart_none]
  refine wpAny_pure ?_
  have I4:Inv X pins σ H3 { s3 with heap:=s3.heap.push { cls:=.type "slice",data:=.fields #[vl,vu,.none] } }:=I3.kept (t':=s3.toks) fun b ob q=>Heap.get?_push_of_some _ q
  obtain ⟨T,id,hT,ht,hg⟩:=hr pins { s3 with heap:=s3.heap.push { cls:=.type "slice",data:=.fields #[vl,vu,.none] } } σ H3 x v vl vu l u s3.heap.objs.size Q I4 r1 (Heap.IsSliceOf.new ..) pl pu q3
  show wpAny (model X.prog X.w) X.A (subscriptTail e (.Slice lo hi none p2) v (.ref s3.heap.objs.size)) (EP X pins σ Q) X.xe { s3 with heap:=s3.heap.push { cls:=.type "slice",data:=.fields #[vl,vu,.none] } }
  exact tail_any (ops:=[.ref s3.heap.objs.size,v]) ht hT hg (by with_unfolding_all rfl)
def cutV (xs:List V) (lo hi:Option Int):List V:=(xs.drop (HT.sIx xs.length 0 lo)).take (HT.sIx xs.length xs.length hi - HT.sIx xs.length 0 lo)
theorem cutV_length (xs:List V) (lo hi:Option Int):(cutV xs lo hi).length≤xs.length:=by
  unfold cutV
  rw [List.length_take,List.length_drop]
  omega
def rSlT (K:PySem.W.Frag):V→Option Int→Option Int→Hp→VK→Prop:=fun x lo hi H Q=>∃ a xs,x=.ref a∧SqT K H a xs ∧
  ¬ (HT.sIx xs.length 0 lo=0∧HT.sIx xs.length xs.length hi=xs.length)∧∀ p,H p=none→Q (.ref p) (upd H p (.tup (cutV xs lo hi)))
theorem sl_tup:SlR X (rSlT X.K):=by
  intro pins s σ H x v vl vu lo hi sl Q I rx hs pl pu h
  obtain ⟨a,xs,rfl,hx,hw,q⟩:=h
  cases rx
  obtain ⟨its,r,ht,hz⟩:=I.tuple hx
  have hlen:its.toArray.size=xs.length:=by rw [List.size_toArray]; exact r.length.symm
  refine ⟨"tuple",_,PyProof.Rows.slot_tuple_getitem.lookup,ht.typeIs,?_⟩
  refine HT.getItem_tuple_cut ht hs pl pu (by rw [hlen]; exact hw) ?_ (by rw [hlen]; exact hz)
  rw [hlen]
  refine ⟨.ref s.heap.objs.size,_,I.laid (t':=s.toks) (o:=.tup (cutV xs lo hi)) (fun b ob q=>Heap.get?_push_of_some _ q) (Nat.le_refl _) ?_,rfl,q _ (I.hok.fresh (Nat.le_refl _))⟩
  exact ⟨Nat.le_trans (cutV_length xs lo hi) hz,_,(r.drop (HT.sIx xs.length 0 lo)).take (HT.sIx xs.length xs.length hi - HT.sIx xs.length 0 lo),IsTup.new _ _⟩
end
end L2
namespace L2
open PySem PySem.Spec PyProof.Rows
def ixN (n:Nat) (i:Int):Option Nat:=if 0≤i then (if i < n then some i.toNat else none) else if -(n:Int)≤i then some (i+n).toNat else none
def atI {α:Type} (xs:List α) (i:Int):Option α:=(ixN xs.length i).bind fun j=>xs[j]?
theorem ixN_seq {n:Nat} {i:Int} {j:Nat} (h:ixN n i=some j):seqIndex? i n=some j∧j < n∧-(n:Int)≤i∧i < n:=by
  unfold ixN at h
  by_cases h0:0≤i
  · rw [if_pos h0] at h
    by_cases h1:i < n
    · rw [if_pos h1] at h
      have e:i.toNat=j:=Option.some.inj h
      exact ⟨by rw [seqIndex_of h0 h1,e],by omega,by omega,h1⟩
    · rw [if_neg h1] at h; cases h
  · rw [if_neg h0] at h
    by_cases h1:-(n:Int)≤i
    · rw [if_pos h1] at h
      have e:(i+n).toNat=j:=Option.some.inj h
      exact ⟨by rw [seqIndex_neg (by omega) h1,e],by omega,h1,by omega⟩
    · rw [if_neg h1] at h; cases h
theorem atI_get {α:Type} {xs:List α} {i:Int} {v:α} (h:atI xs i=some v):∃ j,seqIndex? i xs.length=some j∧xs[j]?=some v∧j < xs.length∧-(xs.length:Int)≤i∧i < xs.length:=by
  unfold atI at h
  cases e:ixN xs.length i with
  | none=>rw [e] at h; cases h
  | some j =>
    rw [e] at h
    obtain ⟨h1,h2,h3,h4⟩:=ixN_seq e
    exact ⟨j,h1,h,h2,h3,h4⟩
theorem atI_nat {α:Type} {xs:List α} {j:Nat} {v:α} (h:xs[j]?=some v):atI xs (j:Int)=some v:=by
  have hj:j < xs.length:=(List.getElem?_eq_some_iff.mp h).1
  have e:ixN xs.length (j:Int)=some j:=by
    unfold ixN
    rw [if_pos (by omega),if_pos (by omega)]; simp
  unfold atI; rw [e]; exact h
theorem atI_last {α:Type} (xs:List α) (v:α):atI (xs++[v]) (-1)=some v:=by
  have hl:(xs++[v]).length=xs.length+1:=by simp
  have e:ixN (xs++[v]).length (-1)=some xs.length:=by
    unfold ixN
    rw [hl,if_neg (by decide),if_pos (by omega)]
    congr 1
    omega
  unfold atI
  rw [e]
  show (xs++[v])[xs.length]?=some v
  simp
def PlainIx (b:Expr):Prop:=∀ o i,subscripted b false o i=operate [o,i] (getItem o i)
def IxR (X:Cx) (r:R2):Prop :=
  ∀ (value slice:Expr) (pins:List (Addr × Obj)) (s:Shared) (σ:St) (H:Hp) (x y:V) (v u:Value) (Q:VK),Inv X pins σ H s→RelV x v→RelV y u→r x y H Q →
    subscripted slice false v u=operate [v,u] (getItem v u)→wpAny (model X.prog X.w) X.A (subscriptTail value slice v u) (EP X pins σ Q) X.xe s
def MtR (X:Cx) (id:String) (r:V→List V→Hp→VK→Prop):Prop :=
  ∀ (pins:List (Addr × Obj)) (s:Shared) (σ:St) (H:Hp) (x:V) (xs:List V) (v:Value) (us:List Value) (Q:VK),Inv X pins σ H s→RelV x v→Vals xs us→r x xs H Q →
    wpAny (model X.prog X.w) X.A (call (.builtin id) (v :: us)) (EP X pins σ Q) X.xe s
section
variable {X:Cx} {a b:Expr} {ta tb:TE} {pos:Pos}
theorem IxR.or {r r':R2} (h:IxR X r) (h':IxR X r'):IxR X (fun x y H Q=>r x y H Q∨r' x y H Q):=by
  intro value slice pins s σ H x y v u Q I rx ry q hs
  rcases q with q | q
  · exact h value slice pins s σ H x y v u Q I rx ry q hs
  · exact h' value slice pins s σ H x y v u Q I rx ry q hs
theorem MtR.or {id:String} {r r':V→List V→Hp→VK→Prop} (h:MtR X id r) (h':MtR X id r'):MtR X id (fun x xs H Q=>r x xs H Q∨r' x xs H Q):=by
  intro pins s σ H x xs v us Q I rx rs q
  rcases q with q | q
  · exact h pins s σ H x xs v us Q I rx rs q
  · exact h' pins s σ H x xs v us Q I rx rs q
theorem pe_ix {r:R2} (hr:IxR X r) (ha:PE X a ta) (hb:PE X b tb) (hs:PlainIx b):PE X (.Subscript a b pos) (tOp r ta tb):=by
  intro pins s σ H Q I h
  exact Subscript_ (binT ha hb I h fun v u s2 x y H2 I2 rx ry q=>hr a b pins s2 σ H2 x y v u Q I2 rx ry q (hs _ _))
def rIxL (K:PySem.W.Frag):R2:=fun x y H Q=>∃ p xs i v,x=.ref p∧y=.int i∧SqL K H p xs∧atI xs i=some v∧Q v H
def rIxT (K:PySem.W.Frag):R2:=fun x y H Q=>∃ p xs i v,x=.ref p∧y=.int i∧SqT K H p xs∧atI xs i=some v∧Q v H
def rIxS:R2:=fun x y H Q=>∃ z i c,x=.str z∧y=.int i∧z.length≤sizeLine∧atI z.cps.toList i=some c∧Q (.str ⟨#[c]⟩) H
theorem ix_list:IxR X (rIxL X.K):=by
  intro value slice pins s σ H x y v u Q I rx ry h hs
  obtain ⟨p,xs,i,z,rfl,rfl,hq,he,q⟩:=h
  cases rx
  obtain ⟨t,rfl⟩:=ry
  obtain ⟨its,r,pl,hz⟩:=I.list hq
  obtain ⟨j,h1,h2,h3,h4,h5⟩:=atI_get he
  obtain ⟨w,ew,rw'⟩:=r.get h2
  have hl:=r.length
  have hn:=line63
  have fin:EP X pins σ Q w s:=⟨z,H,I,rw',q⟩
  by_cases h0:0≤i
  · have hj:i.toNat=j:=by
      rw [seqIndex_of h0 h5] at h1
      exact Option.some.inj h1
    exact item_listR pl.isList h0 (by omega) (by rw [hj]; simpa using ew) fin hs
  · have hj:(i+(its.toArray.size:Int)).toNat=j:=by
      rw [seqIndex_neg (by omega) h4] at h1
      rw [List.size_toArray,← hl]
      exact Option.some.inj h1
    exact subscriptTail_builtinR (x:=w) pl.isList.typeIs slot_list_getitem.lookup
      (wpAny_getItem_list_neg (Q:=fun r s'=>r=w∧EP X pins σ Q r s') pl.isList (by omega) (by rw [List.size_toArray] <;> omega) (by omega) (by rw [hj]; simpa using ew) ⟨rfl,fin⟩) hs
theorem ix_tup:IxR X (rIxT X.K):=by
  intro value slice pins s σ H x y v u Q I rx ry h hs
  obtain ⟨p,xs,i,z,rfl,rfl,hq,he,q⟩:=h
  cases rx
  obtain ⟨t,rfl⟩:=ry
  obtain ⟨its,r,pl,hz⟩:=I.tuple hq
  obtain ⟨j,h1,h2,h3,h4,h5⟩:=atI_get he
  obtain ⟨w,ew,rw'⟩:=r.get h2
  have hl:=r.length
  have hn:=line63
  have fin:EP X pins σ Q w s:=⟨z,H,I,rw',q⟩
  exact subscriptTail_builtinR (x:=w) pl.typeIs slot_tuple_getitem.lookup
    (getItem_tuple (j:=j) (Q:=fun r s'=>r=w∧EP X pins σ Q r s') pl (by omega) (by omega) (by rw [List.size_toArray,← hl]; exact h1) (by simpa using ew) ⟨rfl,fin⟩) hs
theorem ix_str:IxR X rIxS:=by
  intro value slice pins s σ H x y v u Q I rx ry h hs
  obtain ⟨z,i,c,rfl,rfl,hz,he,q⟩:=h
  obtain ⟨t,rfl⟩:=rx
  obtain ⟨t',rfl⟩:=ry
  obtain ⟨j,h1,h2,h3,h4,h5⟩:=atI_get he
  have hl:z.cps.toList.length=z.length:=by simp [Str.length]
  rw [hl] at h1 h4 h5
  have hn:=line63
  exact tail_any (typeIs_str s z t) slot_str_getitem.lookup (getItem_str (c:=c) (by
    have e1:decide (i < -(2 ^ 63:Int))=false:=decide_eq_false (by omega)
    have e2:decide (i ≥ 2 ^ 63)=false:=decide_eq_false (by omega)
    rw [e1,e2,Bool.or_false]) (by rw [h1]; simpa using h2) ⟨.str ⟨#[c]⟩,H,I.tok _,⟨_,rfl⟩,q⟩) hs
theorem mapSeq_set (its:List Value) (n j:Nat) (u:Value):Obj.mapSeq (·.setIfInBounds j u) { cls:=.type "list",data:=.seq its.toArray n }={ cls:=.type "list",data:=.seq (its.set j u).toArray n }:=by
  simp [Obj.mapSeq]
theorem Inv.lst {pins:List (Addr × Obj)} {σ:St} {H:Hp} {s:Shared} {p:Addr} {xs:List V} (I:Inv X pins σ H s) (h:H p=some (.lst xs)) :
    ∃ (its:List Value) (n:Nat),Vals xs its∧s.heap.get? p=some { cls:=.type "list",data:=.seq its.toArray n }∧xs.length≤sizeLine:=by
  obtain ⟨z,its,n,r,e⟩:=I.hok p _ h
  exact ⟨its,n,r,e,z⟩
theorem Inv.lstUpd {pins:List (Addr × Obj)} {σ:St} {H:Hp} {s:Shared} {p:Addr} {xs ys:List V} {its its':List Value} {n n':Nat} {f:Obj→Obj} (I:Inv X pins σ H s) (h:H p=some (.lst xs))
    (ho:s.heap.get? p=some { cls:=.type "list",data:=.seq its.toArray n }) (hf:f { cls:=.type "list",data:=.seq its.toArray n }={ cls:=.type "list",data:=.seq its'.toArray n' }) (r:Vals ys its') (hz:ys.length≤sizeLine) (t:Nat) :
    Inv X pins σ (upd H p (.lst ys)) { s with heap:=s.heap.update p f,toks:=t }:=by
  have e:(s.heap.update p f).get? p=some { cls:=.type "list",data:=.seq its'.toArray n' }:=by
    rw [Heap.get?_update_self f ho (by rw [hf] <;> rfl),hf]
  refine I.write (x:=p) (e:=p) (by rw [h]; trivial) (.inl rfl) (fun b u hb q=>(Heap.get?_update_other _ _ (Ne.symm hb)).trans q) ⟨_,e⟩ ?_
  exact ⟨hz,its',n',r,e⟩
def rSetL:V→V→V→Hp→(Hp→Prop)→Prop:=fun o i v H Q=>∃ p xs k j,o=.ref p∧i=.int k∧H p=some (.lst xs)∧ixN xs.length k=some j∧Q (upd H p (.lst (xs.set j v)))
theorem set_list:PSet X rSetL:=by
  intro pins s σ H o i v ov iv u Q I ro ri rv h
  obtain ⟨p,xs,k,j,rfl,rfl,hp,hj,q⟩:=h
  cases ro
  obtain ⟨t,rfl⟩:=ri
  obtain ⟨its,n,r,ho,hz⟩:=I.lst hp
  obtain ⟨h1,h2,h3,h4⟩:=ixN_seq hj
  have hl:=r.length
  have hn:=line63
  have I':Inv X pins σ (upd H p (.lst (xs.set j v))) { s with heap:=s.heap.update p (Obj.mapSeq (·.setIfInBounds j u)) } :=
    I.lstUpd hp ho (mapSeq_set its n j u) (r.set rv j) (by rw [List.length_set]; exact hz) s.toks
  by_cases h0:0≤k
  · have hk:k.toNat=j:=by
      rw [seqIndex_of h0 h4] at h1
      exact Option.some.inj h1
    exact PySem.W.ki_setAt ho h0 (by omega) (by rw [List.size_toArray,← hl]; exact h4) (by rw [hk]; exact ⟨_,I',q⟩)
  · have hk:(k+(its.toArray.size:Int)).toNat=j:=by
      rw [seqIndex_neg (by omega) h3] at h1
      rw [List.size_toArray,← hl]
      exact Option.some.inj h1
    exact PySem.W.ki_setBack ho (by omega) (by rw [List.size_toArray,← hl]; exact h3) (by omega) (by rw [hk]; exact ⟨_,I',q⟩)
theorem slice_bounds (lo hi:Option Int) (n:Nat):(sliceBounds lo hi none n).1=((HT.sIx n 0 lo:Nat):Int)∧(sliceBounds lo hi none n).2.1=((HT.sIx n n hi:Nat):Int)∧(sliceBounds lo hi none n).2.2=1:=by
  refine ⟨?_,?_,rfl⟩
  · cases lo with
    | none=>simp [sliceBounds,HT.sIx]
    | some i =>
      simp only [sliceBounds,HT.sIx,Option.getD_none,show (1:Int) > 0 by decide,if_true]
      by_cases h:i < 0
      · simp only [h,if_true] <;> omega
      · simp only [h,if_false] <;> omega
  · cases hi with
    | none=>simp [sliceBounds,HT.sIx]
    | some i =>
      simp only [sliceBounds,HT.sIx,Option.getD_none,show (1:Int) > 0 by decide,if_true]
      by_cases h:i < 0
      · simp only [h,if_true] <;> omega
      · simp only [h,if_false] <;> omega
theorem slicePick_cut (its:List Value) (lo hi:Option Int):slicePick its.toArray lo hi none=((its.drop (HT.sIx its.length 0 lo)).take (HT.sIx its.length its.length hi - HT.sIx its.length 0 lo)).toArray:=by
  obtain ⟨h1,h2,h3⟩:=slice_bounds lo hi its.toArray.size
  unfold slicePick
  rw [h1,h2,h3]
  simp only [sliceRange_one,pick_run,List.size_toArray] <;> rfl
def rSlL (K:PySem.W.Frag):V→Option Int→Option Int→Hp→VK→Prop:=fun x lo hi H Q=>∃ a xs,x=.ref a∧SqL K H a xs∧∀ p,H p=none→Q (.ref p) (upd H p (.lst (cutV xs lo hi)))
theorem sl_list:SlR X (rSlL X.K):=by
  intro pins s σ H x v vl vu lo hi sl Q I rx hs pl pu h
  obtain ⟨a,xs,rfl,hx,q⟩:=h
  cases rx
  obtain ⟨its,r,ht,hz⟩:=I.list hx
  have hlen:=r.length
  refine ⟨"list",_,slot_list_getitem.lookup,ht.isList.typeIs,?_⟩
  refine wpAny_getItem_list_slice ht.isList hs pl pu .none (by simp) ?_ (by rw [List.size_toArray] <;> omega)
  rw [slicePick_cut,← hlen]
  refine ⟨.ref s.heap.objs.size,_,I.laid (t':=s.toks) (o:=.lst (cutV xs lo hi)) (fun b ob q=>Heap.get?_push_of_some _ q) (Nat.le_refl _) ?_,rfl,q _ (I.hok.fresh (Nat.le_refl _))⟩
  exact ⟨Nat.le_trans (cutV_length xs lo hi) hz,_,0,(r.drop (HT.sIx xs.length 0 lo)).take (HT.sIx xs.length xs.length hi - HT.sIx xs.length 0 lo),Heap.get?_push_size _ rfl⟩
theorem call_len_seq:CallR X (.builtin "len") (fun xs H Q=>∃ p ys,xs=[.ref p]∧(SqL X.K H p ys∨SqT X.K H p ys)∧Q (.int ys.length) H):=by
  intro pins s σ H xs us Q I r h
  obtain ⟨p,ys,rfl,hq,q⟩:=h
  obtain ⟨u,rfl,rx⟩:=vals1 r
  cases rx
  have hn:=line63
  rcases hq with hq | hq
  · obtain ⟨its,r',pl,hz⟩:=I.list hq
    have hlen:=r'.length
    exact Calls.call_len_list pl.isList (by simp only [List.size_toArray] <;> omega) ⟨.int ys.length,H,I.tok _,⟨s.toks+1,by rw [List.size_toArray,hlen]⟩,q⟩
  · obtain ⟨its,r',pl,hz⟩:=I.tuple hq
    have hlen:=r'.length
    exact len_tuple pl (by simp only [List.size_toArray] <;> omega) ⟨.int ys.length,H,I.tok _,⟨s.toks+1,by rw [List.size_toArray,hlen]⟩,q⟩
theorem call_len_str:CallR X (.builtin "len") (fun xs H Q=>∃ z,xs=[.str z]∧z.length≤sizeLine∧Q (.int z.length) H):=by
  intro pins s σ H xs us Q I r h
  obtain ⟨z,rfl,hz,q⟩:=h
  obtain ⟨u,rfl,t,rfl⟩:=vals1 r
  have hn:=line63
  exact len_str (by omega) ⟨.int z.length,H,I.tok _,⟨_,rfl⟩,q⟩
theorem CallR.or {f:Value} {r r':List V→Hp→VK→Prop} (h:CallR X f r) (h':CallR X f r'):CallR X f (fun xs H Q=>r xs H Q∨r' xs H Q):=by
  intro pins s σ H xs us Q I rs q
  rcases q with q | q
  · exact h pins s σ H xs us Q I rs q
  · exact h' pins s σ H xs us Q I rs q
theorem call_tuple_of:CallR X (.type "tuple") (fun xs H Q=>∃ p ys,xs=[.ref p]∧((SqL X.K H p ys∧∀ l,H l=none→Q (.ref l) (upd H l (.tup ys)))∨(SqT X.K H p ys∧Q (.ref p) H))):=by
  intro pins s σ H xs us Q I r h
  obtain ⟨p,ys,rfl,h⟩:=h
  obtain ⟨u,rfl,rx⟩:=vals1 r
  cases rx
  rcases h with ⟨hq,q⟩ | ⟨hq,q⟩
  · obtain ⟨its,r',pl,hz⟩:=I.list hq
    have hlen:=r'.length
    refine call_tuple_list pl.isList (fun h' kp=>?_) (by simp only [List.size_toArray] <;> omega)
    have I1:Inv X pins σ H { s with heap:=h' }:=I.kept (t':=s.toks) kp
    have I2:Inv X pins σ (upd H h'.objs.size (.tup ys)) { s with heap:=h'.push { cls:=.type "tuple",data:=.seq its.toArray } } :=
      I1.laid (t':=s.toks) (fun b o e=>Heap.get?_push_of_some _ e) (Nat.le_refl _) (show ObjOk X.prog X.w _ _ _ (.tup ys) from ⟨hz,its,r',IsTup.new _ _⟩)
    exact ⟨.ref h'.objs.size,_,I2,rfl,q _ (I1.hok.fresh (Nat.le_refl _))⟩
  · obtain ⟨its,r',pl,hz⟩:=I.tuple hq
    exact call_tuple_same pl ⟨.ref p,H,I,rfl,q⟩
def tyV (K:PySem.W.Frag) (T:String) (x:V) (H:Hp):Prop:=match x with
  | .str _=>T = "str"
  | .int _=>T = "int"
  | .ref p=>(T = "list"∧∃ xs,SqL K H p xs)∨(T = "tuple"∧∃ o,K.lookup p=some o∧o.cls=.type "tuple"∧o.dict=none) ∨
      (T = "dict"∧((∃ kvs,H p=some (.dK kvs))∨∃ kvs,H p=some (.dT kvs)))∨(T = "set"∧∃ S n,H p=some (.set S n))
  | _=>False
theorem tyV_is {pins:List (Addr × Obj)} {σ:St} {H:Hp} {s:Shared} {T:String} {x:V} {v:Value} (I:Inv X pins σ H s) (r:RelV x v) (ty:tyV X.K T x H) :
    s.TypeIs v T∧∀ a,v=.ref a→∃ ob,s.heap.get? a=some ob∧ob.dict=none:=by
  cases x with
  | str z =>
    obtain ⟨t,rfl⟩:=r
    cases (show T = "str" from ty)
    exact ⟨typeIs_str s z t,fun _ e=>nomatch e⟩
  | int i =>
    obtain ⟨t,rfl⟩:=r
    cases (show T = "int" from ty)
    exact ⟨typeIs_int s i t,fun _ e=>nomatch e⟩
  | ref p =>
    cases r
    rcases ty with ⟨rfl,xs,hq⟩ | ⟨rfl,o,hk,hc,hd⟩ | ⟨rfl,hk⟩ | ⟨rfl,S,n,hk⟩
    · obtain ⟨its,_,pl,_⟩:=I.list hq
      refine ⟨pl.isList.typeIs,fun a e=>?_⟩
      cases e
      obtain ⟨o,n,e,c,hd,_⟩:=pl
      exact ⟨o,e,hd⟩
    · refine ⟨⟨o,I.kIn p o hk,hc⟩,fun a e=>?_⟩
      cases e
      exact ⟨o,I.kIn _ o hk,hd⟩
    · have z:∃ o,s.heap.get? p=some o∧o.ExactDict:=by
        rcases hk with ⟨kvs,hk⟩ | ⟨kvs,hk⟩
        · obtain ⟨_,_,_,_,o,_,_,e,ex,_⟩:=I.hok p _ hk
          exact ⟨o,e,ex⟩
        · obtain ⟨_,_,_,_,o,_,_,e,ex,_⟩:=I.hok p _ hk
          exact ⟨o,e,ex⟩
      obtain ⟨o,e,ex⟩:=z
      refine ⟨⟨o,e,ex.1⟩,fun a e2=>?_⟩
      cases e2
      exact ⟨o,e,ex.2.1⟩
    · obtain ⟨o,_,_,_,e,ex,_⟩:=I.hok p _ hk
      refine ⟨⟨o,e,ex.1⟩,fun a e2=>?_⟩
      cases e2
      exact ⟨o,e,ex.2.1⟩
  | _=>exact False.elim ty
def tBM (K:PySem.W.Frag) (T:String) (r:V→List V→Hp→VK→Prop) (to:TE) (t:TA):TE:=fun σ H Q=>to σ H fun x H1=>tyV K T x H1∧t σ H1 fun xs H2=>r x xs H2 Q
variable {o e:Expr} {es:List Expr} {to:TE} {t:TA} {name:Str} {apos cpos:Pos} {T id:String} {r:V→List V→Hp→VK→Prop}
theorem pe_bm (pa:PlainAttrs T) (slot:Slot T name id) (hty:typeOf (.builtin id)=pure (.type "method_descriptor")) (hm:MtR X id r) (ho:PE X o to) (ha:PA X (e :: es) t)
    (hbase:attributeBase o name X.env (eval o X.env)=eval o X.env:=by rfl)
    (hfew:((backTo cpos (starEach (e :: es) X.env)).all (fun x=>!x.1) && (backToKw cpos (keywordEach [] X.env)).all (fun x=>x.1.isSome)
      && decide ((e :: es).length+([]:List Keyword).length+(if ([]:List Keyword).isEmpty then 0 else 1) < 30))=true:=by rfl)
    (hline:(apos.endLine == cpos.line)=true:=by rfl) (hs:starEach (e :: es) X.env=(false,eval e X.env) :: starEach es X.env:=by rfl) (hplain:(backTo cpos (starEach es X.env)).any (·.1)=false:=by rfl) :
    PE X (.Call (.Attribute o name apos) (e :: es) [] cpos) (tBM X.K T r to t):=by
  intro pins s σ H Q I h
  refine wpAny_Call_method_late hbase hfew hline rfl (thn (ho pins s σ H _ I h) fun v s1 ⟨x,H1,I1,r1,ty,q1⟩=>?_)
  obtain ⟨h1,h2⟩:=tyV_is I1 r1 ty
  refine ⟨T,id,pa,slot,hty,h1,h2,?_⟩
  have hA:=ha cpos pins s1 σ H1 _ I1 q1
  rw [hs] at hA ⊢
  refine Calls.callWith_builtin (by show (false || (backTo cpos (starEach es X.env)).any (·.1))=false; rw [hplain] <;> rfl) (Calls.evalArgs_plain ?_)
  exact thn hA fun us s2 ⟨vs,H2,I2,r2,q2⟩=>hm pins s2 σ H2 x vs v us Q I2 r1 r2 q2
end
end L2
namespace L2
open PySem PySem.Spec PyProof.Rows
def MtM (X:Cx) (id:String) (r:V→List V→Hp→VK→Prop):Prop :=
  ∀ (pins:List (Addr × Obj)) (s:Shared) (σ:St) (H:Hp) (x:V) (xs:List V) (v:Value) (us:List Value) (Q:VK),Inv X pins σ H s→RelV x v→Vals xs us→r x xs H Q →
    wpAny (model X.prog X.w) X.A (call (.builtin id) (v :: us)) (EP X pins σ Q) X.xe s
theorem Vals.one:∀ {x:V} {us:List Value},Vals [x] us→∃ u,us=[u]∧RelV x u
  | _,_,.cons r .nil=>⟨_,rfl,r⟩
theorem Vals.two:∀ {x y:V} {us:List Value},Vals [x,y] us→∃ u v,us=[u,v]∧RelV x u∧RelV y v
  | _,_,_,.cons r (.cons q .nil)=>⟨_,_,rfl,r,q⟩
theorem Vals.zero:∀ {us:List Value},Vals [] us→us=[]
  | _,.nil=>rfl
theorem Vals.eraseIdx:∀ {xs:List V} {us:List Value} (i:Nat),Vals xs us→Vals (xs.eraseIdx i) (us.eraseIdx i)
  | _,_,_,.nil=>.nil
  | _,_,0,.cons _ t=>t
  | _,_,i+1,.cons r t=>.cons r (Vals.eraseIdx i t)
theorem Vals.reverse {xs:List V} {us:List Value} (h:Vals xs us):Vals xs.reverse us.reverse:=by
  induction h with
  | nil=>exact .nil
  | cons r t ih=>rw [List.reverse_cons,List.reverse_cons]; exact Vals.append ih (.cons r .nil)
theorem len_erase {α:Type}:∀ (l:List α) (i:Nat),(l.eraseIdx i).length≤l.length
  | [],_=>Nat.le_refl _
  | _ :: _,0=>Nat.le_succ _
  | _ :: r,i+1=>Nat.succ_le_succ (len_erase r i)
section
variable {X:Cx} {pins:List (Addr × Obj)} {σ:St} {H:Hp} {s:Shared} {l b:Addr} {xs ys zs:List V}
theorem Inv.lset {its its':List Value} {n:Nat} {f:Array Value→Array Value} {t':Nat} (I:Inv X pins σ H s) (hH:H l=some (.lst xs))
    (e:s.heap.get? l=some { cls:=.type "list",data:=.seq its.toArray n }) (hf:f its.toArray=its'.toArray) (hv:Vals ys its') (hz:ys.length≤sizeLine) :
    Inv X pins σ (upd H l (.lst ys)) { s with heap:=s.heap.update l (Obj.mapSeq f),toks:=t' }:=by
  have q:=PySem.IsL.update e f
  rw [hf] at q
  refine I.write (x:=l) (e:=l) (by rw [hH]; exact trivial) (.inl rfl) (fun b' u hb hu=>(Heap.get?_update_other s.heap (Obj.mapSeq f) (Ne.symm hb)).trans hu) ⟨_,q⟩ ?_
  exact ⟨hz,its',_,hv,q⟩
theorem Inv.lnew {its:List Value} {t':Nat} (I:Inv X pins σ H s) (hv:Vals ys its) (hz:ys.length≤sizeLine) :
    Inv X pins σ (upd H s.heap.objs.size (.lst ys)) { s with heap:=s.heap.push { cls:=.type "list",data:=.seq its.toArray },toks:=t' } :=
  I.laid (fun _ _ q=>Heap.get?_push_of_some _ q) (Nat.le_refl _) ⟨hz,its,0,hv,Heap.get?_push_size _ rfl⟩
theorem Inv.fresh (I:Inv X pins σ H s):H s.heap.objs.size=none:=I.hok.fresh (Nat.le_refl _)
theorem Inv.lstM (I:Inv X pins σ H s) (hH:H l=some (.lst xs)):xs.length≤sizeLine∧∃ (its:List Value) (n:Nat),Vals xs its∧xs.length=its.length∧s.heap.get? l=some { cls:=.type "list",data:=.seq its.toArray n }:=by
  obtain ⟨z,its,n,r,e⟩:=I.hok l _ hH
  exact ⟨z,its,n,r,r.length,e⟩
end
section
variable {X:Cx}
def rAppend:V→List V→Hp→VK→Prop:=fun x vs H Q=>∃ l xs y,x=.ref l∧vs=[y]∧H l=some (.lst xs)∧xs.length < sizeLine∧Q .non (upd H l (.lst (xs++[y])))
theorem mt_append:MtM X "list.append" rAppend:=by
  intro pins s σ H x vs v us Q I rx rv h
  obtain ⟨l,xs,y,rfl,rfl,hH,hz,q⟩:=h
  cases rx
  obtain ⟨u,rfl,ru⟩:=rv.one
  obtain ⟨z,its,n,r,hl,e⟩:=I.lstM hH
  refine call_meets F.slot_list_append ⟨_,e,rfl⟩ F.entry_list_append (F.args_list_append_2 _ _) (PySem.list_append l its.toArray n u (by rw [List.size_toArray]; omega)) ⟨e,?_⟩
  refine ⟨.non,_,I.lset (its':=its++[u]) hH e (by simp) (r.append (.cons ru .nil)) ?_,rfl,q⟩
  rw [List.length_append,List.length_singleton]
  omega
def rPopAt:V→List V→Hp→VK→Prop:=fun x vs H Q=>∃ l xs i k y,x=.ref l∧vs=[.int i]∧H l=some (.lst xs)∧-(2 ^ 63)≤i∧i < 2 ^ 63∧seqIndex? i xs.length=some k∧xs[k]?=some y∧Q y (upd H l (.lst (xs.eraseIdx k)))
theorem mt_popAt:MtM X "list.pop" rPopAt:=by
  intro pins s σ H x vs v us Q I rx rv h
  obtain ⟨l,xs,i,k,y,rfl,rfl,hH,h1,h2,hk,hy,q⟩:=h
  cases rx
  obtain ⟨u,rfl,ru⟩:=rv.one
  obtain ⟨t,rfl⟩:=ru
  obtain ⟨z,its,n,r,hl,e⟩:=I.lstM hH
  obtain ⟨w,hw,rw'⟩:=r.get hy
  refine call_meets F.slot_list_pop ⟨_,e,rfl⟩ F.entry_list_pop (F.args_list_pop_2 _ _)
    (MeetsSeq.list_pop_at l its.toArray n i t k w (fitsIndex_both h1 h2) (by rw [List.size_toArray,← hl]; exact hk) (by rw [← Array.getElem?_toList]; exact hw) (by rw [List.size_toArray]; omega)) ⟨e,?_⟩
  refine ⟨y,_,I.lset (its':=its.eraseIdx k) hH e ?_ (r.eraseIdx k) ?_,rw',q⟩
  · show its.toArray.eraseIdxIfInBounds k=(its.eraseIdx k).toArray
    rw [List.eraseIdxIfInBounds_toArray]
  · have:=len_erase xs k
    omega
def rCat:R2:=fun x y H Q=>∃ l b xs zs,x=.ref l∧y=.ref b∧H l=some (.lst xs)∧H b=some (.lst zs)∧xs.length+zs.length≤sizeLine∧∀ p,H p=none→Q (.ref p) (upd H p (.lst (xs++zs)))
theorem op_cat:OpR X (binaryOp .Add) rCat:=by
  intro pins s σ H x y v u Q I rx ry h
  obtain ⟨l,b,xs,zs,rfl,rfl,hH,hB,hz,q⟩:=h
  cases rx
  cases ry
  obtain ⟨z,its,n,r,hl,e⟩:=I.lstM hH
  obtain ⟨z2,its2,n2,r2,hl2,e2⟩:=I.lstM hB
  refine PySem.P.add_list e e2 ?_ (by rw [List.size_toArray,List.size_toArray]; omega)
  have ea:its.toArray++its2.toArray=(its++its2).toArray:=by simp
  rw [ea]
  exact ⟨.ref _,_,I.lnew (t':=s.toks) (r.append r2) (by rw [List.length_append]; omega),rfl,q _ I.fresh⟩
end
section
variable {prog:Program} {w:World} {A:Around} {E:Value→Shared→Prop} {s:Shared}
end
section
variable {X:Cx}
end
end L2
namespace Att
open PySem PySem.W PySem.Calls PyProof.Rows
theorem ints_of_wellAll {P:Params} {h:Heap}:∀ (ns:List Int) (vs:List Value),WellAll P h vs (ns.map WData.int)→IntsAre vs ns:=by
  intro ns
  induction ns with
  | nil =>
    intro vs w
    rw [List.map_nil] at w
    cases w
    exact .nil
  | cons n ns ih =>
    intro vs w
    rw [List.map_cons] at w
    cases w with
    | cons a b =>
      cases a
      exact .cons _ _ (ih _ b)
theorem script_of {l:OpenLaw} {n:Nat} (hn:l.most=some n) {P:Params} {h:Heap} {args:List WData} {vals:List Value}
    (hpre:l.row.toRowW.claim.pre args=true) (hwl:WellAll P h vals args) :
    ∃ a vs ns,vals=[Value.ref a]∧args=[WData.list (ns.map WData.int)]∧h.get? a=some { cls:=.type "list",data:=.seq vs.toArray }∧IntsAre vs ns∧ns.length≤n:=by
  have hsh:WShape.hasAll [] args [.list .int]=true:=(pre_splitW hpre).1
  have hc:l.pre.holds [] { args:=args }=true:=(pre_splitW hpre).2
  obtain ⟨d,r,rfl,h1,h2⟩:=hasAllW_cons hsh
  obtain rfl:=hasAllW_nil h2
  obtain ⟨xs,rfl,h3⟩:=hasW_list h1
  obtain ⟨ns,rfl⟩:=items_int h3
  have hlen:ns.length≤n:=by
    unfold OpenLaw.pre at hc
    have h4:(WTm.not (.lt (.lit (.int (n:Int))) (.len (.arg 0)))).holds [] { args:=[.list (ns.map .int)] }=true:=by
      have h4:=(holds_andW hc).1
      rw [hn] at h4
      exact h4
    have h5:=condW_of h4 (w_not (w_lt w_lit (w_len_list (w_arg rfl))))
    rw [List.length_map] at h5
    refine Nat.le_of_not_lt fun q=>?_
    have q':(n:Int) < ((ns.length:Nat):Int):=by omega
    first
      | (rw [decide_eq_true q'] at h5; exact absurd h5 (by decide))
      | (simp at h5; omega)
  cases hwl with
  | cons w1 w2 =>
    cases w2
    cases w1 with
    | list ho hall=>exact ⟨_,_,ns,rfl,rfl,ho,ints_of_wellAll ns _ hall,hlen⟩
theorem post_true (l:OpenLaw) (args:List WData):l.row.toRowW.claim.post args (.bool true) args=true :=
  postW_of (r:=l.row.toRowW) (X:=(true == true))
    (show WShape.has [] (.bool true) .bool=true by first | rfl | decide | simp [WShape.has,WShape.arms,WShape.armsAll])
    (show (WTm.eq .res (.lit (.bool true))).value [] { args:=args,res:=some (.bool true),after:=args }=some (.bool (true == true)) from w_eq_bool (w_res rfl) w_lit) rfl
theorem attach_call {l:OpenLaw} {n:Nat} {q:Program} {loose:List Str} {XP:(Str→Option Value)→Heap→Prop} {YP:World→Heap→Prop} {d:DefRec}
    (hn:l.most=some n) (hdf:d.params.defaults=[])
    (call:∀ (w:World) (s₀ s₁:Shared) (mg mb:Str→Option Value) (fa:Addr) (o:Obj) (pm cd doc:Value) (a:Addr) (vs:List Value) (ns:List Int),
      Ground q loose [] XP w s₀ mg mb s₁.heap→YP w s₁.heap →
      s₁.heap.get? fa=some o→o.data=.func (docDef d.name d.params d.body d.scope pm cd doc)→s₁.heap.CodeRec cd d.name→mg d.name=some (.ref fa) →
      s₁.heap.get? a=some { cls:=.type "list",data:=.seq vs.toArray }→IntsAre vs ns→ns.length≤n→s₁.gens = #[] →
      codeAny (model l.prog w) callerA (.call (.ref fa) ⟨[.ref a],[]⟩) (fun r s'=>r=.ok (.ret (.bool true))∧OldK s₁.heap s'.heap∧s'.os=s₁.os∧AllBare s'.gens) s₁) :
    WalkO q loose XP YP l.row.toRowW d [] (fun f vs=>PySem.call f vs):=by
  intro w s₀ s₁ mg mb G Y fa o pm cd doc dV kV ho hd hcd hD hmg hg args vals as hpre hlay hrd hwl hlo
  obtain rfl:dV=.none:=Dflts.none hD hdf
  obtain rfl:kV=.none:=Dflts.noKw hD
  obtain ⟨a,vs,ns,rfl,rfl,hobj,hints,hlen⟩:=script_of hn hpre hwl
  refine enter_call (codeAny_mono (call w s₀ s₁ mg mb fa o pm cd doc a vs ns G Y ho (fd_plain hd) hcd hmg hobj hints hlen hg) fun r s' hq=>?_)
  obtain ⟨rfl,h2,h3,h4⟩:=hq
  exact ⟨.inl ⟨.bool true,.bool true,[],rfl,fun _=>rfl,.bool true,post_true l _,fun _=>⟨List.Pairwise.nil,fun _ hm=>(nomatch hm)⟩⟩,h2,h3,h4⟩
section
variable {prog:Program} {w:World} {A:Around} {E:Value→Shared→Prop} {s:Shared} {K:Frag}
def ledger (h:Heap) (L d:Addr):List (Addr × Obj):=(List.range h.objs.size).filterMap fun a=>if a=L∨a=d then none else (h.get? a).map fun o=>(a,o)
end
end Att
namespace L2
open PySem PySem.Spec PyProof.Rows
theorem vals_ints:∀ {vs:List Value} {ns:List Int},IntsAre vs ns→Vals (ns.map V.int) vs
  | _,_,.nil=>.nil
  | _,_,.cons n t h=>.cons ⟨t,rfl⟩ (vals_ints h)
def Only (H:Hp):Prop:=∀ b,H b=none∨∃ o xs,H b=some (.frz o (.lst xs))
theorem law_call {P:Program} {w:World} {K:PySem.W.Frag} {mg mb:Str→Option Value} {CX:CXT} {k:Nat} {fa a:Addr} {fd:FuncData} {x:Str} {sp:Sp} {s₁:Shared} {vs:List Value} {ns:List Int}
    (KX:K.In s₁.heap) (hns:s₁.heap.Ns mainGlobals mg) (hb:s₁.heap.Ns builtinsNs mb) (hbb:∀ x:Str,x ≠ "__name__"→mb x=bootBuiltins x) (hlim:s₁.heap.NoLimit) (hg:s₁.gens = #[])
    (ha:s₁.heap.get? a=some { cls:=.type "list",data:=.seq vs.toArray }) (hi:IntsAre vs ns) (hl:ns.length≤sizeLine) (hr:Room k callerA)
    (F:∀ base:Heap,K.In base→base.Ns mainGlobals mg→FnOk P w K mg base CX k fa fd [x] sp) (hbind:∀ (s:Shared) (u:Value),BindsTo s fd ⟨[u],[]⟩ [(x,u)])
    (hsp:∀ H:Hp,Only H→SqL K H a (ns.map V.int)→sp [.ref a] H (fun v _=>v=.bl true) fun _ _ _=>False)
    (hCX:∀ H e s',CX [] H s₁ (fun _ _ _=>False) e s'→False) :
    codeAny (model P w) callerA (.call (.ref fa) ⟨[.ref a],[]⟩) (fun r s'=>r=.ok (.ret (.bool true))∧OldK s₁.heap s'.heap∧s'.os=s₁.os∧AllBare s'.gens) s₁:=by
  have rv:=vals_ints hi
  have lenV:=hi.length
  have core:∀ H:Hp,Only H→SqL K H a (ns.map V.int)→HOk P w H s₁.heap→(∀ b,H b≠none→b=a)→(H a≠none→K.lookup a=none) →
      codeAny (model P w) callerA (.call (.ref fa) ⟨[.ref a],[]⟩) (fun r s'=>r=.ok (.ret (.bool true))∧OldK s₁.heap s'.heap∧s'.os=s₁.os∧AllBare s'.gens) s₁:=by
    intro H hO hS hok hA hK
    have base_of:∀ {b:Addr} {o:Obj},s₁.heap.get? b=some o→H b=none→(hidT s₁.heap H).get? b=some o:=fun e n=>hidT_get e n
    have noA:∀ {b:Addr} {o:Obj} {es:Array DictEntry} {ep:Nat},s₁.heap.get? b=some o→o.data=.dict es ep→H b=none:=fun {b o es ep} e d=>by
      cases q:H b with
      | none=>rfl
      | some u =>
        have e':b=a:=hA b (by rw [q]; simp)
        subst e'
        rw [ha] at e; cases e
        have d':Data.seq vs.toArray _=Data.dict es ep:=d
        cases d'
    have nsK:∀ {b:Addr} {m:Str→Option Value},s₁.heap.Ns b m→(hidT s₁.heap H).Ns b m:=fun {b m} ⟨o,es,ep,e,d,r⟩=>⟨o,es,ep,base_of e (noA e d),d,r⟩
    have hKb:K.In (hidT s₁.heap H):=fun b o e=>base_of (KX b o e) (by
      cases q:H b with
      | none=>rfl
      | some u =>
        have e':b=a:=hA b (by rw [q]; simp)
        subst e'
        rw [hK (by rw [q]; simp)] at e; cases e)
    have hM:Mod K mg (hidT s₁.heap H):=⟨hKb,nsK hns,⟨mb,nsK hb,hbb⟩,let ⟨mc,h1,h2⟩:=hlim; ⟨mc,nsK h1,h2⟩⟩
    have e0:Env0 P w K mg (hidT s₁.heap H) callerA [] s₁ H:=⟨rfl,hM,fun b o e=>of_hidT e,Nat.le_of_eq (hidT_size _ _),trivial,fun b hb=>absurd (show b∈([]:List Addr) from hb) (by simp),hok,.of_eq hg⟩
    refine codeAny_mono ((F _ hKb (nsK hns)).run callerA [] s₁ H ⟨[.ref a],[]⟩ [.ref a] [.ref a] _ _ hr e0 (hbind s₁ (.ref a)) (.cons rfl .nil) (hsp H hO hS)) fun r s' h=>?_
    cases r with
    | error e=>exact (hCX H e s' h).elim
    | ok fl =>
      cases fl with
      | next=>exact False.elim h
      | brk=>exact False.elim h
      | cont=>exact False.elim h
      | ret u =>
        obtain ⟨v,H',os,bare,un,hok',r',q⟩:=h
        have q':v=.bl true:=q
        subst q'
        obtain rfl:u=Value.bool true:=r'
        refine ⟨rfl,OldK.of_keep fun b o e=>?_,os,bare⟩
        cases q:H b with
        | none=>exact un.keep b o e q (by intro z; exact absurd (show b∈([]:List Addr) from z) (by simp)) (by simp)
        | some u =>
          rcases hO b with z | ⟨ob,xs,z⟩
          · rw [q] at z; cases z
          · have z2:=un.frzs b ob _ z
            obtain ⟨e1,_⟩:=hok b _ z
            obtain ⟨e2,_⟩:=hok' b _ z2
            rw [e] at e1; cases e1
            exact e2
  cases hk:K.lookup a with
  | some o =>
    have e:=KX a o hk
    rw [ha] at e
    cases e
    refine core (fun _=>none) (fun _=>.inl rfl) (.inr ⟨_,vs.toArray,_,hk,rfl,rfl,rfl,by rw [List.size_toArray,lenV]; exact hl,by simpa using rv⟩) (fun b u z=>by have z':(none:Option HO)=some u:=z; cases z') (fun b z=>absurd rfl z) fun z=>absurd rfl z
  | none =>
    refine core (fun b=>if b=a then some (.frz { cls:=.type "list",data:=.seq vs.toArray } (.lst (ns.map V.int))) else none) (fun b=>?_) (.inl (.inr ⟨{ cls:=.type "list",data:=.seq vs.toArray },if_pos rfl⟩)) (fun b u z=>?_) (fun b z=>?_) fun _=>hk
    · by_cases hb:b=a
      · exact .inr ⟨_,_,if_pos hb⟩
      · exact .inl (if_neg hb)
    · by_cases hb:b=a
      · have z':=(if_pos hb).symm.trans z
        cases z'
        subst hb
        exact ⟨ha,by rw [List.length_map]; exact hl,vs,_,rv,ha⟩
      · have z':=(if_neg hb).symm.trans z
        cases z'
    · by_cases hb:b=a
      · exact hb
      · exact absurd (if_neg hb) z
end L2
namespace L2
open PySem PySem.Spec PyProof.Rows
abbrev KOf {K:PySem.W.Frag} {h:Heap} (_:K.In h):PySem.W.Frag:=K
theorem walk_of {l:PySem.W.OpenLaw} {n k:Nat} {q:Program} {loose:List Str} {XP:(Str→Option Value)→Heap→Prop} {YP:World→Heap→Prop} {d:DefRec} {K:Params→PySem.W.Frag} {CX:World→CXT} {sp:World→Sp} {x:Str}
    (hn:l.most=some n) (hn2:n≤sizeLine) (hdf:d.params.defaults=[]) (hr:Room k callerA)
    (hY:∀ (w:World) (h:Heap),YP w h→(K w.params).In h)
    (F:∀ (w:World) (mg:Str→Option Value) (fa:Addr) (h:Heap),(K w.params).In h→h.Ns mainGlobals mg→mg d.name=some (.ref fa) →
      ∃ fd:FuncData,(∀ (s:Shared) (u:Value),BindsTo s fd ⟨[u],[]⟩ [(x,u)]) ∧
        ∀ base:Heap,(K w.params).In base→base.Ns mainGlobals mg→FnOk l.prog w (K w.params) mg base (CX w) k fa fd [x] (sp w))
    (hsp:∀ (w:World) (H:Hp) (a:Addr) (ns:List Int),ns.length≤n→Only H→SqL (K w.params) H a (ns.map V.int)→sp w [.ref a] H (fun v _=>v=.bl true) fun _ _ _=>False)
    (hCX:∀ (w:World) (H:Hp) (s:Shared) (e:Value) (s':Shared),CX w [] H s (fun _ _ _=>False) e s'→False) :
    PySem.W.WalkO q loose XP YP l.row.toRowW d [] (fun f vs=>PySem.call f vs):=by
  refine Att.attach_call hn hdf fun w s₀ s₁ mg mb fa o pm cd doc a vs ns G Y ho hd hcd hmg hobj hints hlen hg=>?_
  have KX:=hY w _ Y
  obtain ⟨fd,hb,hF⟩:=F w mg fa _ KX G.T.g hmg
  exact law_call KX G.T.g G.T.b G.T.builtins G.T.nolimit hg hobj hints (Nat.le_trans hlen hn2) hr hF hb (fun H hO hS=>hsp w H a ns hlen hO hS) fun H e s'=>hCX w H s₁ e s'
end L2
namespace L2
open PySem PySem.Spec PyProof.Rows
def defArgs (s:Stmt):Arguments:=match s with
  | .FunctionDef _ a _ _ _ _ _ _ _ _=>a
  | _=>{ posonlyargs:=[],args:=[],vararg:=none,kwonlyargs:=[],kw_defaults:=[],kwarg:=none,defaults:=[] }
def defBody (s:Stmt):List Stmt:=match s with
  | .FunctionDef _ _ b _ _ _ _ _ _ _=>b
  | _=>[]
def defScope (s:Stmt):Scope:=match s with
  | .FunctionDef _ _ _ _ _ _ sc _ _ _=>sc
  | _=>{ kind:=.function,names:=[],isGenerator:=false,isCoroutine:=false }
abbrev CX0:CXT:=fun _ _ _ _ _ _=>False
abbrev E0:XK:=fun _ _ _=>False
theorem pass0 {X:Cx}:Passes CX0 X E0:=fun _ _ _ _ _ _ _ h=>h.elim
structure Fun (K:PySem.W.Frag) (x qual:Str) (st:Stmt) (f:Addr) (fd:FuncData):Prop where
  ex:∃ (oc:Value) (od:Option Addr) (kV doc pm:Value) (an:Option Addr) (cdv ct:Value) (osl:Array (Option Value)),
    fd=PySem.W.fnOf x qual (defArgs st) (defBody st) (defScope st) .none kV doc pm an cdv ct∧K.lookup f=some ⟨oc,od,.func fd,osl⟩∧PySem.W.codeIn K cdv qual=true
  kp:PySem.W.keepIn K (.ref f)=true
section
variable {P:Program} {w:World} {K:PySem.W.Frag} {mg:Str→Option Value} {base:Heap}
theorem Fun.ok {x qual:Str} {st:Stmt} {f:Addr} {fd:FuncData} {N ps:List Str} {k:Nat} {sp:Sp} (F:Fun K x qual st f fd) (S:FnScope N ps (defScope st)) (len:∀ vs H Q E,sp vs H Q E→vs.length=ps.length)
    (hbody:∀ (cdv:Value) (A:Around) (outer:List Env) (s:Shared) (H:Hp) (vs:List V) (Q:VK) (E:XK),Room k (A.deeper (envOfC qual (defScope st) s.heap.objs.size f cdv))→sp vs H Q E →
      ∃ t,PSs (cxOf CX0 P w K mg base N qual (defScope st) f cdv A outer s H E).nox (defBody st) t∧t { nx:=fun _ H'=>Q .non H',rt:=Q } (start N vs) H):FnOk P w K mg base CX0 (k+1) f fd ps sp:=by
  obtain ⟨oc,od,kV,doc,pm,an,cdv,ct,osl,rfl,lk,hcd⟩:=F.ex
  refine fn_of lk hcd S len fun A outer s H vs Q E hr hsp=>?_
  obtain ⟨t,h,q⟩:=hbody cdv A outer s H vs Q E hr hsp
  exact ⟨t,h.nox,q⟩
theorem Fun.binds {x qual:Str} {st:Stmt} {f:Addr} {fd:FuncData} {ps:List Str} (F:Fun K x qual st f fd)
    (h:∀ (kV doc pm:Value) (an:Option Addr) (cdv ct:Value) (us:List Value),us.length=ps.length→bindArgs (PySem.W.fnOf x qual (defArgs st) (defBody st) (defScope st) .none kV doc pm an cdv ct) ⟨us,[]⟩=pure (ps.zip us)):Binds K fd ps []:=by
  obtain ⟨oc,od,kV,doc,pm,an,cdv,ct,osl,rfl,lk,hcd⟩:=F.ex
  exact .all (h kV doc pm an cdv ct)
theorem fun_mk {x qual:Str} {st:Stmt} {f:Addr} {oc:Value} {od an:Option Addr} {osl:Array (Option Value)} {kV doc pm cdv ct:Value} (l:K.lookup f=some ⟨oc,od,.func (PySem.W.fnOf x qual (defArgs st) (defBody st) (defScope st) .none kV doc pm an cdv ct),osl⟩)
    (c:PySem.W.codeIn K cdv qual=true) (k:PySem.W.keepIn K (.ref f)=true):Fun K x qual st f (PySem.W.fnOf x qual (defArgs st) (defBody st) (defScope st) .none kV doc pm an cdv ct):=⟨⟨oc,od,kV,doc,pm,an,cdv,ct,osl,rfl,l,c⟩,k⟩
end
theorem small1000 {n:Nat} (h:n≤1000):n < sizeLine:=Nat.lt_of_le_of_lt h (by decide)
section
variable {X:Cx}
theorem pv (i:Nat) {x:Str} {pos:Pos} (hN:X.N[i]?=some x:=by rfl) (hv:Vis X.env.scope x:=by first | exact Or.inl rfl | exact Or.inr (Or.inl rfl) | exact Or.inr (Or.inr rfl)) (hd:(x == ("__debug__" : Str))=false:=by decide)
    (hcd:(x == ("__classdict__" : Str))=false:=by decide):PE X (.Name x pos) (tVar i):=pe_var hN hv hd hcd
end
theorem iteF {A B:Prop} (h:B):if false=true then A else B:=by
  rw [if_neg Bool.false_ne_true]
  exact h
theorem iteT {A B:Prop} (h:A):if true=true then A else B:=by
  rw [if_pos rfl]
  exact h
theorem ite2 {c A B:Prop} [Decidable c] (h1:c→A) (h2:¬ c→B):if c then A else B:=by
  by_cases h:c
  · rw [if_pos h]
    exact h1 h
  · rw [if_neg h]
    exact h2 h
def Same (H H':Hp):Prop:=∀ b o,H b=some o→H' b=some o
theorem Same.refl (H:Hp):Same H H:=fun _ _ h=>h
theorem Same.trans {H H1 H2:Hp} (a:Same H H1) (b:Same H1 H2):Same H H2:=fun c o h=>b c o (a c o h)
theorem Same.free {H H':Hp} (e:Same H H') {l:Addr} (h:H' l=Option.none):H l=Option.none:=by
  cases q:H l with
  | none=>rfl
  | some o =>
    rw [e l o q] at h
    cases h
theorem Same.seq {K:PySem.W.Frag} {H H':Hp} {a:Addr} {xs:List V} (e:Same H H') (h:SqL K H a xs):SqL K H' a xs:=by
  rcases h with (h | ⟨o,h⟩) | h
  · exact .inl (.inl (e _ _ h))
  · exact .inl (.inr ⟨o,e _ _ h⟩)
  · exact .inr h
end L2
set_option Elab.async false
set_option linter.all false
set_option maxRecDepth 100000
set_option maxHeartbeats 4000000
namespace L2
open PySem PySem.Spec PyProof.Rows
theorem closure_walk {env:Env}:∀ (names:List (Str × NameKind)) (acc:List (Str × Addr)),(∀ y∈names,y.2=.free→∃ c,env.cells.lookup y.1=some c) →
    ∃ cl,(forIn names acc (fun (x:Str × NameKind) (cs:List (Str × Addr))=>(if x.2 == .free then (do let c ← cellOf env x.1; pure (ForInStep.yield ((x.1,c) :: cs))) else pure (ForInStep.yield cs):Sem (ForInStep (List (Str × Addr))))))=pure cl ∧
      (∀ y∈names,y.2=.free→∃ c,cl.lookup y.1=some c)∧(∀ y c,acc.lookup y=some c→∃ d,cl.lookup y=some d)∧(∀ y c,cl.lookup y=some c→env.cells.lookup y=some c∨acc.lookup y=some c)
  | [],acc,_=>⟨acc,rfl,(fun _ h=>nomatch h),(fun y c h=>⟨c,h⟩),(fun y c h=>.inr h)⟩
  | (n,k) :: r,acc,h=>by
    rw [List.forIn_cons]
    by_cases hk:k=.free
    · subst hk
      obtain ⟨c,hc⟩:=h (n,.free) List.mem_cons_self rfl
      obtain ⟨cl,e,h1,h2,h3⟩:=closure_walk r ((n,c) :: acc) fun y hy=>h y (List.mem_cons_of_mem _ hy)
      refine ⟨cl,?_,?_,?_,?_⟩
      · have e0:cellOf env n=pure c:=by unfold cellOf; rw [hc]
        simp only [beq_self_eq_true,if_true,e0,pure_bind]
        exact e
      · intro y hy hf
        rcases List.mem_cons.mp hy with rfl | hy
        · exact h2 n c (by simp)
        · exact h1 y hy hf
      · intro y d hd
        by_cases e1:y=n
        · subst e1; exact h2 y c (by simp)
        · exact h2 y d (by rw [List.lookup_cons,beq_eq_false_iff_ne.mpr e1]; exact hd)
      · intro y d hd
        rcases h3 y d hd with q | q
        · exact .inl q
        · by_cases e1:y=n
          · subst e1
            simp at q
            exact .inl (by rw [← q]; exact hc)
          · rw [List.lookup_cons,beq_eq_false_iff_ne.mpr e1] at q
            exact .inr q
    · have hb:(k == NameKind.free)=false:=by simpa using hk
      obtain ⟨cl,e,h1,h2,h3⟩:=closure_walk r acc fun y hy=>h y (List.mem_cons_of_mem _ hy)
      refine ⟨cl,?_,?_,h2,h3⟩
      · simp only [hb,Bool.false_eq_true,if_false,pure_bind]
        exact e
      · intro y hy hf
        rcases List.mem_cons.mp hy with rfl | hy
        · exact absurd hf hk
        · exact h1 y hy hf
theorem closure_of {scope:Scope} {env:Env} (h:∀ y∈scope.names,y.2=.free→∃ c,env.cells.lookup y.1=some c) :
    ∃ cl,closureFor scope env=pure cl∧(∀ y∈scope.names,y.2=.free→∃ c,cl.lookup y.1=some c)∧∀ y c,cl.lookup y=some c→env.cells.lookup y=some c:=by
  obtain ⟨cl,e,h1,_,h3⟩:=closure_walk scope.names [] h
  refine ⟨cl,?_,h1,fun y c q=>(h3 y c q).elim id fun z=>by simp at z⟩
  rw [← e]
  unfold closureFor
  simp only [bind_pure]
theorem relabel_free {env:Env}:∀ {names:List (Str × NameKind)} {x:Str},names.lookup x=some .free →
    (names.map fun (n,k)=>if (k == NameKind.free && env.scope.kind == .function && env.kindOf n == some .cell) then (n,NameKind.cell) else (n,k)).lookup x=some .cell ∨
    (names.map fun (n,k)=>if (k == NameKind.free && env.scope.kind == .function && env.kindOf n == some .cell) then (n,NameKind.cell) else (n,k)).lookup x=some .free
  | [],_,h=>by simp at h
  | (n,k) :: r,x,h=>by
    have ih:=@relabel_free env r x
    rw [List.map_cons]
    cases hx:x == n with
    | true =>
      simp only [List.lookup_cons,hx] at h
      cases h
      by_cases hc:(NameKind.free == NameKind.free && env.scope.kind == .function && env.kindOf n == some .cell)=true
      · left; simp only [if_pos hc,List.lookup_cons,hx]
      · right; simp only [if_neg hc,List.lookup_cons,hx]
    | false =>
      simp only [List.lookup_cons,hx] at h
      by_cases hc:(k == NameKind.free && env.scope.kind == .function && env.kindOf n == some .cell)=true
      · simp only [if_pos hc,List.lookup_cons,hx]; exact ih h
      · simp only [if_neg hc,List.lookup_cons,hx]; exact ih h
theorem relabel_inv {env:Env}:∀ {names:List (Str × NameKind)} {x:Str} {k':NameKind},
    (names.map fun (n,k)=>if (k == NameKind.free && env.scope.kind == .function && env.kindOf n == some .cell) then (n,NameKind.cell) else (n,k)).lookup x=some k'→(k'=.cell∨k'=.free) →
    ∃ k,(x,k)∈names∧(k=.cell∨k=.free)
  | [],_,_,h,_=>by simp at h
  | (n,k) :: r,x,k',h,hk=>by
    have ih:=@relabel_inv env r x k'
    rw [List.map_cons] at h
    cases hx:x == n with
    | true =>
      have e:x=n:=by simpa using hx
      subst e
      by_cases hc:(k == NameKind.free && env.scope.kind == .function && env.kindOf x == some .cell)=true
      · refine ⟨k,List.mem_cons_self,.inr ?_⟩
        simp only [Bool.and_eq_true,beq_iff_eq] at hc
        exact hc.1.1
      · simp only [if_neg hc,List.lookup_cons,beq_self_eq_true] at h
        cases h
        exact ⟨k,List.mem_cons_self,hk⟩
    | false =>
      have h':(r.map fun (n,k)=>if (k == NameKind.free && env.scope.kind == .function && env.kindOf n == some .cell) then (n,NameKind.cell) else (n,k)).lookup x=some k':=by
        by_cases hc:(k == NameKind.free && env.scope.kind == .function && env.kindOf n == some .cell)=true
        · simpa only [if_pos hc,List.lookup_cons,hx] using h
        · simpa only [if_neg hc,List.lookup_cons,hx] using h
      obtain ⟨q,m,z⟩:=ih h' hk
      exact ⟨q,List.mem_cons_of_mem _ m,z⟩
abbrev blockCx (X:Cx) (scope:Scope) (N:List Str) (cl:List (Str × Addr)) (C:Addr) (s:Shared) (H:Hp) (ex:List Addr) (pn:List (Addr × Obj)) (E:Value→Shared→Prop):Cx :=
  { X with N:=N,s₀:=s,H₀:=H,env:=compEnvC scope cl C X.env,outer:=X.stack,stack:=X.stack,ex:=ex,fn:=fun _=>false,pn:=pn,xe:=E }
theorem block_ok {X:Cx} {pins:List (Addr × Obj)} {σ σ':St} {H:Hp} {s:Shared} {scope:Scope} {N:List Str} {cl:List (Str × Addr)} {fp:List Addr} {E:Value→Shared→Prop} {h1:Heap} {t:Nat}
    (I:Inv X pins σ H s) (hkind:scope.kind=.function) (hcell:∀ y∈scope.names,y.2≠.cell) (hfree:∀ y∈scope.names,y.2=.free→X.env.kindOf y.1=some .cell∨X.env.kindOf y.1=some .free)
    (hcl1:∀ y∈scope.names,y.2=.free→∃ c,cl.lookup y.1=some c) (hcl2:∀ y c,cl.lookup y=some c→X.env.cells.lookup y=some c)
    (hf:∀ b∈fp,FpOk X pins H b) (hfo:∀ b∈fp,∃ o,s.heap.get? b=some o)
    (hl:σ'.length=N.length) (hσ:∀ (i:Nat) (x:Str) (v:V),N[i]?=some x→σ'[i]?=some (some v)→scope.names.lookup x=some .free∧∃ j:Nat,X.N[j]?=some x∧σ[j]?=some (some v))
    (hns:h1.Ns s.heap.objs.size (fun _=>none)) (hold:∀ b o,s.heap.get? b=some o→h1.get? b=some o) :
    Inv (blockCx X scope N cl s.heap.objs.size s H fp (X.pn++pins) E) [] σ' H { s with heap:=h1,toks:=t }:=by
  have szc:∀ b o,s.heap.get? b=some o→b≠s.heap.objs.size:=fun b o e=>Nat.ne_of_lt (Heap.lt_size e)
  have okY:(blockCx X scope N cl s.heap.objs.size s H fp (X.pn++pins) E).Ok:=by
    refine ⟨I.ok.mod,hkind,I.ok.glob,I.ok.blt,Nat.le_refl _,fun x y c e1 e2=>I.ok.inj x y c (hcl2 _ _ e1) (hcl2 _ _ e2),fun x hx=>?_,fun x c hfn _=>?_,I.ok.hd,I.ok.frames,.inl rfl,fun b hb=>⟨?_,fun x c e z=>?_⟩,I.bs,Nat.le_trans I.ok.bsz I.sz,fun b o e hb=>?_,fun b hb z=>?_,I.stack,I.stkFree⟩
    · have hx':(relabel scope X.env).names.lookup x=some .cell∨(relabel scope X.env).names.lookup x=some .free:=hx
      have q:∃ k,(x,k)∈scope.names∧(k=.cell∨k=.free):=by
        rcases hx' with z | z
        · exact relabel_inv z (.inl rfl)
        · exact relabel_inv z (.inr rfl)
      obtain ⟨k,hm,hk⟩:=q
      rcases hk with rfl | rfl
      · exact absurd rfl (hcell _ hm)
      · exact hcl1 _ hm rfl
    · exact absurd (show false=true from hfn) (by decide)
    · obtain ⟨o,e⟩:=hfo b hb
      exact szc b o e
    · exact (hf b hb).2.2.2.2.1 x c (hcl2 _ _ e) z
    · rcases (hf b hb).2.2.2.1 with z | z
      · exact I.ok.noex b o e z
      · exact absurd (Nat.lt_of_lt_of_le (Heap.lt_size e) (Nat.le_trans I.ok.bsz z)) (Nat.lt_irrefl _)
    · rcases List.mem_cons.mp (I.stkSub b z) with q | q
      · exact (hf b hb).2.1 q
      · exact (hf b hb).2.2.1 q
  obtain ⟨m,hn,hlook⟩:=id I.loc
  refine ⟨okY,rfl,I.bare,Un.kept hold,⟨_,hns,fun i x v e1 e2 _=>?_⟩,fun x c e=>?_,I.hok.fresh (Nat.le_refl _),fun x c e=>I.freeC x c (hcl2 _ _ e),fun p hp=>?_,I.hok.kept hold,hl⟩
  · obtain ⟨hfr,j,ej,es⟩:=hσ i x v e1 e2
    have hm:(x,NameKind.free)∈scope.names:=PySem.mem_of_lookup hfr
    have hk:=hfree _ hm rfl
    have hv:Vis X.env.scope x:=by
      rcases hk with z | z
      · exact .inr (.inl z)
      · exact .inr (.inr z)
    obtain ⟨u,r,l⟩:=hlook j x v ej es hv
    refine ⟨u,r,.inr ⟨?_,?_⟩⟩
    · exact relabel_free hfr
    · rcases l with ⟨k,_⟩ | ⟨_,c,ec,hc⟩
      · rcases hk with z | z <;> (rw [k] at z; cases z)
      · obtain ⟨d,hd⟩:=hcl1 _ hm rfl
        have e:=hcl2 _ _ hd
        have ec':X.env.cells.lookup x=some d:=e
        rw [ec] at ec'; cases ec'
        obtain ⟨o,ho,hod⟩:=hc
        exact ⟨c,hd,o,hold c o ho,hod⟩
  · obtain ⟨v,o,ho,hod⟩:=I.cell x c (hcl2 _ _ e)
    exact ⟨v,o,hold c o ho,hod⟩
  · have hp':p∈X.pn++pins:=by simpa using hp
    obtain ⟨a1,a2,a3,a4,a5⟩:=I.pin p hp'
    refine ⟨hold _ _ a1,a2,szc _ _ a1,fun z=>?_,a5⟩
    rcases List.mem_cons.mp (I.stkSub _ z) with q | q
    · exact a3 q
    · exact a4 q
def PIfs (X:Cx) (ifs:List Expr) (t:TT):Prop :=
  ∀ (pins:List (Addr × Obj)) (s:Shared) (σ:St) (H:Hp) (Q:Bool→Hp→Prop),Inv X pins σ H s→t σ H Q →
    wpAny (model X.prog X.w) X.A (forIn ifs true fun c r=>if r=true then do let ok ← isTrue c X.env (eval c X.env); pure (ForInStep.yield ok) else pure (ForInStep.yield r)) (TP X pins σ Q) X.xe s
def tYes:TT:=fun _ H Q=>Q true H
theorem pifs_nil {X:Cx}:PIfs X [] tYes:=fun _ _ _ H _ I h=>wpAny_tests_nil ⟨H,I,h⟩
theorem pifs_one {X:Cx} {c:Expr} {t:TT} (h:PT X c t):PIfs X [c] t:=fun pins s σ H Q I hw=>wpAny_tests_one (h pins s σ H Q I hw)
section
variable {prog:Program} {w:World} {A:Around} {R:Result→Shared→Prop} {s:Shared}
theorem codeAny_compLoop_any {elt target iter:Expr} {ifs:List Expr} {scope:Scope} {pos:Pos} {it acc:Value} {env:Env} (I:Nat→Shared→Prop)
    (turn:∀ n s,I n s→wpAny (model prog w) A (pyNext it) (fun r s₁=>match r with
      | none=>R (.ok .next) s₁
      | some v=>wpAny (model prog w) A (letOwnedTupleGo target it v) (fun _ s₁'=>wpAny (model prog w) A (assign target env v) (fun _ s₂ =>
          wpAny (model prog w) A (forIn ifs true fun c r=>if r=true then do let ok ← isTrue c env (eval c env); pure (ForInStep.yield ok) else pure (ForInStep.yield r)) (fun ok s₃ =>
            if ok=true then wpAny (model prog w) A (eval elt env) (fun x s₄ =>
              wpAny (model prog w) A (call (.builtin "list.append") [acc,x]) (fun _ s₅=>∃ m,m < n∧I m s₅) (notedBy (model prog w) A env fun e s'=>R (.error e) s') s₄) (notedBy (model prog w) A env fun e s'=>R (.error e) s') s₃
            else ∃ m,m < n∧I m s₃) (notedBy (model prog w) A env fun e s'=>R (.error e) s') s₂) (notedBy (model prog w) A env fun e s'=>R (.error e) s') s₁') (notedBy (model prog w) A env fun e s'=>R (.error e) s') s₁)
        (notedBy (model prog w) A env fun e s'=>R (.error e) s') s)
    (n:Nat) (h:I n s) :
    codeAny (model prog w) A (.compLoop (.ListComp elt [⟨target,iter,ifs,0⟩] scope pos) 0 it acc env) R s:=by
  refine codeAny_loop rfl I (fun n s hI=>?_) n h
  show wpAny _ A ((compTurn (.ListComp elt [⟨target,iter,ifs,0⟩] scope pos) 0 it acc env).onRaise (fun x=>do noteFrame x env; theTreesLotGoes x)) _ _ s
  refine wpAny_noted ?_
  rw [compTurn_list]
  refine wpAny_bind (wpAny_standAt (wpAny_bind (wpAny_mono (turn n s hI) (fun r s₁ h₁=>?_) fun _ _ h'=>h')))
  cases r with
  | none=>exact wpAny_pure h₁
  | some v =>
    refine wpAny_bind (wpAny_mono h₁ (fun _ s₁' h₁'=>?_) fun _ _ h'=>h')
    refine wpAny_bind (wpAny_mono h₁' (fun _ s₂ h₂=>wpAny_bind (wpAny_mono h₂ (fun ok s₃ h₃=>?_) fun _ _ h'=>h')) fun _ _ h'=>h')
    cases ok with
    | false=>exact wpAny_pure ⟨rfl,h₃⟩
    | true =>
      exact wpAny_bind (wpAny_bind (wpAny_mono h₃ (fun x s₄ h₄=>wpAny_bind (wpAny_mono h₄ (fun _ s₅ h₅=>wpAny_pure (wpAny_pure ⟨rfl,h₅⟩)) fun _ _ h'=>h')) fun _ _ h'=>h'))
end
def tComp (wi:TI) (g:TG) (tc:TT) (te:TE) (lift:St→St):TE:=fun σ H Q=>wi σ H fun J H1=>∀ l,H1 l=none→∃ W:Nat→Nat→St→Hp→Prop,(∃ m,W 0 m (lift σ) (upd H1 l (.lst [])))∧∀ i m σ H,W i m σ H →
  (J.stop i H∧Q (.ref l) H)∨(J.go i H∧∃ N:St→Hp→Prop,(∀ σ' H',N σ' H'→∃ m',m' < m∧W (i+1) m' σ' H') ∧
    ∀ x H',J.yld i H x H'→g x σ H' fun σ2 H2=>tc σ2 H2 fun b H3=>if b=true then te σ2 H3 fun v H4=>∃ ys,H4 l=some (.lst ys)∧ys.length < sizeLine∧N σ2 (upd H4 l (.lst (ys++[v]))) else N σ2 H3)
theorem pe_comp {X:Cx} {elt tg iter:Expr} {ifs:List Expr} {scope:Scope} {pos:Pos} {wi:TI} {g:TG} {tc:TT} {te:TE} (N:List Str) (lift:St→St) (hc:X.calm=true) (hi:PI X tg iter wi)
    (hkind:scope.kind=.function) (hcell:∀ y∈scope.names,y.2≠.cell) (hfree:∀ y∈scope.names,y.2=.free→X.env.kindOf y.1=some .cell∨X.env.kindOf y.1=some .free)
    (hnames:∀ y∈scope.names,y.2=.local→scope.names.lookup y.1=some .local)
    (hlen:∀ σ:St,σ.length=X.N.length→(lift σ).length=N.length)
    (hσ:∀ (σ:St) (i:Nat) (x:Str) (v:V),σ.length=X.N.length→N[i]?=some x→(lift σ)[i]?=some (some v)→scope.names.lookup x=some .free∧∃ j:Nat,X.N[j]?=some x∧σ[j]?=some (some v))
    (hg:∀ cl C s H ex pn E,PG (blockCx X scope N cl C s H ex pn E) tg g) (ht:∀ cl C s H ex pn E,PIfs (blockCx X scope N cl C s H ex pn E) ifs tc) (he:∀ cl C s H ex pn E,PE (blockCx X scope N cl C s H ex pn E) elt te)
    (hs:∀ x,foldedSetIterable iter X.env x=pure x:=by intro _; rfl) :
    PE X (.ListComp elt [⟨tg,iter,ifs,0⟩] scope pos) (tComp wi g tc te lift):=by
  intro pins s σ H Q I h
  rw [eval_ListComp]
  obtain ⟨cl,hclos,hcl1,hcl2⟩:=closure_of (scope:=scope) (env:=X.env) fun y hy hf=>I.ok.has y.1 (hfree y hy hf)
  refine wpAny_comprehension_free (use:=none) rfl hs hclos hkind hnames (thn (hi pins s σ H _ I h) fun v s1 h1=>thn h1 fun itv s2 h2=>?_)
  obtain ⟨it,fp,tn,J,H2,e,I2,T,st2,f2,q⟩:=h2
  subst e
  refine wpAny_newObj_type (wpAny_newFunctionEnv hcell (by intro y hy; simp at hy) (fun h₁ hns₁ hsb₁=>?_) hkind)
  have I3:Inv X pins σ (upd H2 s2.heap.objs.size (.lst [])) { s2 with heap:=s2.heap.push { cls:=.type "list",data:=.seq ([]:List Value).toArray } }:=I2.lnew (its:=[]) (t':=s2.toks) .nil (Nat.zero_le _)
  have fr:H2 s2.heap.objs.size=none:=I2.fresh
  have hold:∀ b o,(s2.heap.push { cls:=.type "list",data:=.seq ([]:List Value).toArray }).get? b=some o→h₁.get? b=some o:=fun b o e=>hsb₁.extBut b o (Nat.ne_of_lt (Heap.lt_size e)) (Heap.get?_push_of_some _ e)
  have f3:∀ b∈fp,FpOk X pins (upd H2 s2.heap.objs.size (.lst [])) b:=fun b hb=>by
    obtain ⟨o,eo,_⟩:=T.obj 0 _ st2 b hb
    exact ⟨by rw [upd_ne (Nat.ne_of_lt (Heap.lt_size eo))]; exact (f2 b hb).1,(f2 b hb).2⟩
  have fo:∀ b∈fp,∃ o,(s2.heap.push { cls:=.type "list",data:=.seq ([]:List Value).toArray }).get? b=some o:=fun b hb=>by
    obtain ⟨o,eo,_⟩:=T.obj 0 _ st2 b hb
    exact ⟨o,Heap.get?_push_of_some _ eo⟩
  generalize hP:s2.heap.push { cls:=.type "list",data:=.seq ([]:List Value).toArray }=P at *
  obtain ⟨W,⟨m0,w0⟩,turn⟩:=q s2.heap.objs.size fr
  generalize hL:s2.heap.objs.size=L at *
  let R:Result→Shared→Prop:=compPost (model X.prog X.w) X.A X.xe none (EP X pins σ Q) (.ref L) P.objs.size
  let Y:Cx:=blockCx X scope N cl P.objs.size { s2 with heap:=P } (upd H2 L (.lst [])) fp (X.pn++pins) (notedBy (model X.prog X.w) X.A (compEnvC scope cl P.objs.size X.env) fun e s'=>R (.error e) s')
  have IY:Inv Y [] (lift σ) (upd H2 L (.lst [])) { s2 with heap:=h₁,toks:=s2.toks+([]:List (Str × Value)).length } :=
    block_ok (s:={ s2 with heap:=P }) I3 hkind hcell hfree hcl1 hcl2 f3 fo (hlen σ I.len) (fun i x v=>hσ σ i x v I.len) hns₁ hold
  have stY:tn 0 h₁:=T.keep _ _ _ st2 fun b hb o e=>hold b o (by rw [← hP]; exact Heap.get?_push_of_some _ e)
  have fC:∀ b∈fp,b≠P.objs.size∧(b∈fp):=fun b hb=>by
    obtain ⟨o,eo⟩:=fo b hb
    exact ⟨Nat.ne_of_lt (Heap.lt_size eo),hb⟩
  have fpY:∀ {H':Hp},(∀ b∈fp,H' b=none)→∀ b∈fp,FpOk Y [] H' b:=fun {H'} hn b hb=>by
    refine ⟨hn b hb,(fC b hb).1,fun z=>?_,.inl hb,fun x c ex=>(f3 b hb).2.2.2.2.1 x c (hcl2 _ _ ex),fun p hp=>?_⟩
    · rcases List.mem_cons.mp (I3.stkSub b z) with y | y
      · exact (f3 b hb).2.1 y
      · exact (f3 b hb).2.2.1 y
    · have hp':p∈(X.pn++pins)++[]:=hp
      rw [List.append_nil] at hp'
      exact (f3 b hb).2.2.2.2.2 p hp'
  have loop:∀ s4:Shared,s4={ s2 with heap:=h₁,toks:=s2.toks+([]:List (Str × Value)).length } →
      codeAny (model X.prog X.w) X.A (.compLoop (.ListComp elt [⟨tg,iter,ifs,0⟩] scope pos) 0 (.ref it) (.ref L) (compEnvC scope cl P.objs.size X.env)) R s4:=by
    rintro s4 rfl
    refine codeAny_compLoop_any (fun n s'=>∃ i σ' H',Inv Y [] σ' H' s'∧tn i s'.heap∧(∀ b∈fp,H' b=none)∧W i n σ' H') ?_ m0 ⟨0,_,_,IY,stY,fun b hb=>(f3 b hb).1,w0⟩
    rintro n s5 ⟨i,σ5,H5,I5,st5,fr5,w5⟩
    rcases turn i n σ5 H5 w5 with ⟨stop,qn⟩ | ⟨go,Nx,hNx,step⟩
    · refine thn (T.done Y rfl rfl rfl hc i [] s5 σ5 H5 Y.xe I5 (fpY fr5) st5 stop) fun r s6 ⟨hr,I6⟩=>?_
      subst hr
      show R (.ok .next) s6
      obtain ⟨m6,hn6,_⟩:=id I6.loc
      have IX:Inv X pins σ H5 s6:=I3.call' (s':=s6) (ch:=fp) I6.os I6.base I6.hok I6.bare fun b hb=>⟨(f3 b hb).2.2.2.1,(f3 b hb).2.1,(f3 b hb).2.2.2.2.1,(f3 b hb).2.2.2.2.2⟩
      refine ⟨m6,hn6,fun h' sb=>⟨.ref L,H5,IX.turned (t':=s6.toks) (it:=P.objs.size) (fun b o hb e=>(sb.2 b hb).trans e) I6.free (Nat.ne_of_gt I3.lt) (.inr I3.sz) (fun x c ec z=>?_) fun p hp z=>?_,rfl,qn⟩⟩
      · obtain ⟨v0,qv⟩:=I3.cell x c ec
        exact absurd qv.lt (by rw [z]; exact Nat.lt_irrefl _)
      · have z0:=Heap.lt_size (I3.pin p hp).1
        exact absurd z0 (by rw [z]; exact Nat.lt_irrefl _)
    · refine thn (T.item Y rfl rfl rfl hc i [] s5 σ5 H5 Y.xe I5 (fpY fr5) st5 go) fun r s6 ⟨u,hr,h6⟩=>?_
      subst hr
      refine thn h6 fun _ s7 ⟨x,H7,I7,r7,y7,st7,fr7⟩=>?_
      have I7':=I7.pinned (fpY fr7) (T.obj _ _ st7)
      refine thn (hg _ _ _ _ _ _ _ _ s7 σ5 H7 x u _ I7' r7 (step x H7 y7)) fun _ s8 ⟨σ8,H8,I8,q8⟩=>?_
      refine thn (ht _ _ _ _ _ _ _ _ s8 σ8 H8 _ I8 q8) fun ok s9 ⟨H9,I9,q9⟩=>?_
      have again:∀ {sx:Shared} {Hx:Hp},Inv Y ([]++pinsAt fp s7.heap) σ8 Hx sx→Nx σ8 Hx→∃ m,m < n∧∃ i σ' H',Inv Y [] σ' H' sx∧tn i sx.heap∧(∀ b∈fp,H' b=none)∧W i m σ' H':=fun {sx Hx} Ix nx=>by
        obtain ⟨m',hm,wx⟩:=hNx σ8 Hx nx
        refine ⟨m',hm,i+1,σ8,Hx,Ix.unpinned,T.keep _ _ _ st7 fun b hb o e=>(Ix.pin (b,o) (List.mem_append_right _ (List.mem_append_right _ (mem_pinsAt hb e)))).1,fun b hb=>?_,wx⟩
        obtain ⟨o,e,d⟩:=T.obj _ _ st7 b hb
        exact (Ix.pin (b,o) (List.mem_append_right _ (List.mem_append_right _ (mem_pinsAt hb e)))).2.1
      cases ok with
      | false =>
        rw [if_neg Bool.false_ne_true] at q9 ⊢
        exact again I9 q9
      | true =>
        rw [if_pos rfl] at q9 ⊢
        refine thn (he _ _ _ _ _ _ _ _ s9 σ8 H9 _ I9 q9) fun y s10 ⟨v10,H10,I10,r10,ys,hys,hz,q10⟩=>?_
        refine thn (mt_append (X:=Y) _ s10 σ8 H10 (.ref L) [v10] (.ref L) [y] (fun _ H'=>Nx σ8 H') I10 rfl (.cons r10 .nil) ⟨L,ys,v10,rfl,rfl,hys,hz,q10⟩) fun _ s11 ⟨_,H11,I11,_,q11⟩=>?_
        exact again I11 q11
  exact codeAny_compStart_list (loop _ rfl) (T.self X.A 0 _ _ _ stY (loop _ rfl))
end L2
set_option Elab.async false
set_option linter.all false
set_option maxRecDepth 100000
set_option maxHeartbeats 4000000
namespace L2
open PySem PySem.Spec PyProof.Rows
theorem comp_by {J:It} {g:TG} {tc:TT} {te:TE} {R:Hp→Prop} {l:Addr} {σ0:St} {H0:Hp} (n:Nat) (Pv:Nat→St→Hp→Prop) (h0:Pv 0 σ0 H0) (hstop:∀ σ H,Pv n σ H→J.stop n H∧R H)
    (hgo:∀ i σ H,i < n→Pv i σ H→J.go i H∧∀ x H',J.yld i H x H'→g x σ H' fun σ2 H2=>tc σ2 H2 fun b H3=>if b=true then te σ2 H3 fun v H4=>∃ ys,H4 l=some (.lst ys)∧ys.length < sizeLine∧Pv (i+1) σ2 (upd H4 l (.lst (ys++[v]))) else Pv (i+1) σ2 H3) :
    ∃ W:Nat→Nat→St→Hp→Prop,(∃ m,W 0 m σ0 H0)∧∀ i m σ H,W i m σ H →
      (J.stop i H∧R H)∨(J.go i H∧∃ N:St→Hp→Prop,(∀ σ' H',N σ' H'→∃ m',m' < m∧W (i+1) m' σ' H') ∧
        ∀ x H',J.yld i H x H'→g x σ H' fun σ2 H2=>tc σ2 H2 fun b H3=>if b=true then te σ2 H3 fun v H4=>∃ ys,H4 l=some (.lst ys)∧ys.length < sizeLine∧N σ2 (upd H4 l (.lst (ys++[v]))) else N σ2 H3):=by
  refine ⟨fun i m σ H=>m=n - i∧i≤n∧Pv i σ H,⟨n,by simp,Nat.zero_le _,h0⟩,?_⟩
  rintro i m σ H ⟨rfl,hi,p⟩
  by_cases hlt:i < n
  · obtain ⟨go,st⟩:=hgo i σ H hlt p
    exact .inr ⟨go,Pv (i+1),fun σ' H' p'=>⟨n - (i+1),by omega,rfl,hlt,p'⟩,st⟩
  · have e:i=n:=by omega
    subst e
    exact .inl (hstop σ H p)
theorem yesT {σ:St} {H:Hp} {F:Bool→Hp→Prop} (h:F true H):tYes σ H F:=h
theorem gN {i:Nat} {v:V} {σ:St} {H:Hp} {Q:St→Hp→Prop} (h:Q (σ.set i (some v)) H):gName i v σ H Q:=h
theorem call_isinst {X:Cx}:CallR X (.builtin "isinstance") (fun xs H Q=>∃ x n t b,xs=[x,.ty n]∧TyOf X.K H x t∧PySem.W.kitOne X.K t (.type n)=some b∧Q (.bl b) H):=by
  intro pins s σ H xs us Q I r h
  obtain ⟨x,n,t,b,rfl,ty,e,q⟩:=h
  obtain ⟨u,v,rfl,ru,rv⟩:=vals2 r
  cases rv
  exact isinst_ok I ru ty e fun tk=>⟨.bl b,H,I.tok _,rfl,q⟩
theorem strsAre_of {ys:List Str}:∀ {us:List Value},Vals (ys.map V.str) us→StrsAre us ys:=by
  induction ys with
  | nil=>intro us r; rw [List.map_nil] at r; cases r; exact .nil
  | cons y ys ih =>
    intro us r
    rw [List.map_cons] at r
    cases r with
    | cons r1 r2 =>
      obtain ⟨t,e⟩:=r1
      subst e
      exact .cons y t (ih r2)
theorem mt_join {X:Cx}:MtR X "str.join" (fun x xs H Q=>∃ y l ys,x=.str y∧xs=[.ref l]∧SqL X.K H l (ys.map V.str)∧(ys.map (·.length)).sum+ys.length * y.length≤16777216∧Q (.str (Str.join y ys)) H):=by
  intro pins s σ H x xs v us Q I rx r h
  obtain ⟨y,l,ys,rfl,rfl,hq,hz,q⟩:=h
  obtain ⟨t,rfl⟩:=rx
  obtain ⟨u,rfl,ru⟩:=vals1 r
  cases ru
  obtain ⟨its,rv,p,_⟩:=I.list hq
  refine join_list p.isList (ys:=ys) (by simpa using strsAre_of rv) hz fun t' k=>?_
  have e:Txt.join y ys=Str.join y ys:=StrLaws.glued_eq_join y ys
  rw [e]
  exact ⟨.str _,H,I.tok _,⟨_,rfl⟩,q⟩
def CDivB (i j:Int):Prop:=0 < j∧j < 2 ^ 64
theorem op_fdivB {X:Cx}:OpR X (binaryOp .FloorDiv) (rI CDivB fun i j=>.int (i / j)):=opI fun i j _ _ _ _ _ hc q=>by
  have h1:(0:Int) < j:=hc.1
  have h2:j < 2 ^ 64:=hc.2
  refine floordiv_int (by omega) (by rw [Int.fdiv_eq_ediv_of_nonneg i (by omega)]; exact q) (.inl (PyProof.noPylong_of_log2 ?_))
  have h3:j.natAbs≠0:=by omega
  have h4:j.natAbs < 2 ^ 64:=by omega
  have h5:j.natAbs.log2 < 64:=(Nat.log2_lt h3).mpr h4
  omega
end L2
set_option Elab.async false
set_option linter.all false
set_option maxRecDepth 100000
set_option maxHeartbeats 4000000
namespace L2
open PySem PySem.Spec PyProof.Rows
def liftBy (js:List (Option Nat)) (σ:St):St:=js.map fun j=>match j with | some j=>σ.getD j none | none=>none
def chkLift (N:List Str) (js:List (Option Nat)) (XN:List Str) (names:List (Str × NameKind)):Bool :=
  decide (N.length=js.length) && (N.zip js).all fun p=>match p.2 with | none=>true | some j=>decide (XN[j]?=some p.1) && decide (names.lookup p.1=some .free)
theorem chk_len {N:List Str} {js:List (Option Nat)} {XN:List Str} {names:List (Str × NameKind)} (h:chkLift N js XN names=true) (σ:St):(liftBy js σ).length=N.length:=by
  unfold chkLift at h
  rw [Bool.and_eq_true] at h
  unfold liftBy
  rw [List.length_map]
  exact (of_decide_eq_true h.1).symm
theorem chk_at {N:List Str} {js:List (Option Nat)} {XN:List Str} {names:List (Str × NameKind)} (h:chkLift N js XN names=true) (σ:St) (i:Nat) (x:Str) (v:V) (h1:N[i]?=some x) (h2:(liftBy js σ)[i]?=some (some v)) :
    names.lookup x=some .free∧∃ j:Nat,XN[j]?=some x∧σ[j]?=some (some v):=by
  unfold chkLift at h
  rw [Bool.and_eq_true,List.all_eq_true] at h
  unfold liftBy at h2
  rw [List.getElem?_map] at h2
  cases e:js[i]? with
  | none=>rw [e] at h2; cases h2
  | some j =>
    rw [e] at h2
    cases j with
    | none=>cases h2
    | some j =>
      have h3:σ.getD j none=some v:=Option.some.inj h2
      have hm:(x,some j)∈N.zip js:=by
        refine List.mem_of_getElem? (i:=i) ?_
        rw [List.getElem?_zip_eq_some]
        exact ⟨h1,e⟩
      have q:=h.2 _ hm
      simp only [Bool.and_eq_true,decide_eq_true_eq] at q
      refine ⟨q.2,j,q.1,?_⟩
      rw [List.getD_eq_getElem?_getD] at h3
      cases e2:σ[j]? with
      | none=>rw [e2] at h3; cases h3
      | some o=>rw [e2] at h3; exact congrArg some h3
theorem pe_compL {X:Cx} {elt tg iter:Expr} {ifs:List Expr} {scope:Scope} {pos:Pos} {wi:TI} {g:TG} {tc:TT} {te:TE} (XN:List Str) (sc:Scope) (N:List Str) (js:List (Option Nat)) (hXN:X.N=XN) (hsc:X.env.scope=sc) (hc:X.calm=true) (hi:PI X tg iter wi)
    (hkind:scope.kind=.function) (hchk:chkLift N js XN scope.names=true) (hcell:∀ y∈scope.names,y.2≠.cell) (hfree:∀ y∈scope.names,y.2=.free→sc.names.lookup y.1=some .cell∨sc.names.lookup y.1=some .free)
    (hnames:∀ y∈scope.names,y.2=.local→scope.names.lookup y.1=some .local)
    (hg:∀ cl C s H ex pn E,PG (blockCx X scope N cl C s H ex pn E) tg g) (ht:∀ cl C s H ex pn E,PIfs (blockCx X scope N cl C s H ex pn E) ifs tc) (he:∀ cl C s H ex pn E,PE (blockCx X scope N cl C s H ex pn E) elt te)
    (hs:∀ x,foldedSetIterable iter X.env x=pure x:=by intro _; rfl) :
    PE X (.ListComp elt [⟨tg,iter,ifs,0⟩] scope pos) (tComp wi g tc te (liftBy js)):=by
  subst hXN
  subst hsc
  exact pe_comp N (liftBy js) hc hi hkind hcell hfree hnames (fun σ _=>chk_len hchk σ) (fun σ i x v _ h1 h2=>chk_at hchk σ i x v h1 h2) hg ht he hs
theorem kit_tt (K:PySem.W.Frag) {T U:String} {b:Bool} (h:(if (Value.type T == Value.type U)=true then some true else (if PySem.W.kitMeta U=true then (fastBuiltinMro T).map (·.contains (.type U)) else none))=some b) :
    PySem.W.kitOne K (.type T) (.type U)=some b:=h
theorem kit_int_bool (K:PySem.W.Frag):PySem.W.kitOne K (.type "int") (.type "bool")=some false:=kit_tt K (by decide +kernel)
theorem atI_lt {α:Type} {xs:List α} {r:Int} (h0:0≤r) (h1:r < xs.length):∃ v,atI xs r=some v∧v∈xs:=by
  have hk:r.toNat < xs.length:=by omega
  have ek:r=((r.toNat:Nat):Int):=by omega
  refine ⟨xs[r.toNat],?_,List.getElem_mem hk⟩
  have q:atI xs ((r.toNat:Nat):Int)=some xs[r.toNat]:=atI_nat (List.getElem?_eq_getElem hk)
  rw [← ek] at q
  exact q
theorem cutV_ints (ns:List Int) (lo hi:Option Int):∃ ms:List Int,cutV (ns.map V.int) lo hi=ms.map V.int∧ms.length≤ns.length:=by
  refine ⟨(ns.drop (HT.sIx ns.length 0 lo)).take (HT.sIx ns.length ns.length hi - HT.sIx ns.length 0 lo),?_,?_⟩
  · unfold cutV
    rw [List.length_map,List.map_take,List.map_drop]
  · rw [List.length_take,List.length_drop]
    omega
theorem same_new {H:Hp} {p:Addr} (h:H p=none) (o:HO):Same H (upd H p o):=fun b u q=>by rw [upd_ne (ne_of_none q h)]; exact q
theorem map_int_at {ns:List Int} {i:Nat} {y:V} (h:(ns.map V.int)[i]?=some y):∃ z,y=V.int z:=by
  rw [List.getElem?_map] at h
  cases e:ns[i]? with
  | none=>rw [e] at h; cases h
  | some z=>rw [e] at h; exact ⟨z,(Option.some.inj h).symm⟩
theorem small {n:Nat} (h:n≤1000):n≤sizeLine:=Nat.le_of_lt (small1000 h)
theorem smn (n:Nat) (h:n≤1000:=by decide):n≤sizeLine:=small h
theorem sizeLine_big:(1000000:Nat)≤sizeLine:=by rw [sizeLine_eq]; decide
structure Pot (H0:Hp) (p:Addr) (H:Hp):Prop where
  at_:∃ a b:Int,H p=some (.lst [.int a,.int b])
  old:∀ c o,H0 c=some o→c≠p→H c=some o
theorem Pot.new {H0 H:Hp} {p l:Addr} {o:HO} (P:Pot H0 p H) (h:H l=none):Pot H0 p (upd H l o):=by
  obtain ⟨a,b,e⟩:=P.at_
  exact ⟨⟨a,b,by rw [upd_ne (ne_of_none e h)]; exact e⟩,fun c u q hc=>by
    have q':=P.old c u q hc
    rw [upd_ne (ne_of_none q' h)]
    exact q'⟩
theorem Pot.turn {H0 H:Hp} {p:Addr} {a b:Int} (P:Pot H0 p H):Pot H0 p (upd H p (.lst [.int a,.int b])) :=
  ⟨⟨a,b,upd_same⟩,fun c u q hc=>by rw [upd_ne hc]; exact P.old c u q hc⟩
end L2
namespace L2
open PySem PySem.Spec PyProof.Rows
theorem Pot.free {H0 H:Hp} {p l:Addr} (P:Pot H0 p H) (h:H l=none):H0 l=none:=by
  cases e:H0 l with
  | none=>rfl
  | some o =>
    by_cases hl:l=p
    · obtain ⟨a,b,q⟩:=P.at_
      rw [hl,q] at h
      cases h
    · rw [P.old l o e hl] at h
      cases h
theorem Pot.list {H0 H:Hp} {p l:Addr} {o:HO} (P:Pot H0 p H) (h:H0 l=none) (hl:l≠p):Pot H0 p (upd H l o):=by
  obtain ⟨a,b,e⟩:=P.at_
  exact ⟨⟨a,b,by rw [upd_ne (Ne.symm hl)]; exact e⟩,fun c u q hc=>by rw [upd_ne (ne_of_none q h)]; exact P.old c u q hc⟩
theorem Pot.apart {H0 H:Hp} {p l:Addr} (P:Pot H0 p H) (h:H l=none):l≠p:=by
  obtain ⟨a,b,e⟩:=P.at_
  exact (ne_of_none e h).symm
theorem join_len {y:Str} (hy:y=⟨#[]⟩) (cs:List Nat):(Str.join y (cs.map fun c=>(⟨#[c]⟩:Str))).length=cs.length:=by
  subst hy
  rw [join_ones]
  simp [Str.length]
theorem join_fits {y:Str} (hy:y=⟨#[]⟩) (cs:List Nat) (h:cs.length≤1000000):((cs.map fun c=>(⟨#[c]⟩:Str)).map (·.length)).sum+(cs.map fun c=>(⟨#[c]⟩:Str)).length * y.length≤16777216:=by
  subst hy
  have e:((cs.map fun c=>(⟨#[c]⟩:Str)).map (·.length)).sum=cs.length:=by
    clear h
    induction cs with
    | nil=>rfl
    | cons c r ih =>
      rw [List.map_cons,List.map_cons,List.sum_cons,ih,List.length_cons]
      show 1+r.length=r.length+1
      omega
  rw [e]
  show cs.length+_ * 0≤_
  omega
def sz:List Nat→Int
  | []=>0
  | c :: r=>(if c=32∨c=10 then 0 else 1)+sz r
end L2
set_option Elab.async false
set_option linter.all false
set_option maxRecDepth 100000
set_option maxHeartbeats 4000000
namespace L2
open PySem PySem.Spec PyProof.Rows
theorem kit_tuple_tuple (K:PySem.W.Frag):PySem.W.kitOne K (.type "tuple") (.type "tuple")=some true:=kit_tt K (by decide +kernel)
def isNm (x:Str):Bool:=decide (1≤x.length) && decide (x.length≤8) && x.cps.toList.all fun c=>decide (97≤c∧c≤122)
end L2
set_option Elab.async false
set_option linter.all false
set_option maxRecDepth 100000
set_option maxHeartbeats 4000000
namespace ZT
open PySem
open Sem (wp)
section
variable {prog:Program} {w:World} {A:Around} {E:Value→Shared→Prop} {s:Shared}
theorem tup_item {it t:Addr} {i:Nat} {its:Array Value} {x:Value} {Q:Value→Shared→Prop} (ti:s.heap.IsTupleIter it t i) (tt:s.heap.IsTuple t its) (tx:its[i]?=some x)
    (k:∀ g,g.IsTupleIter it t (i+1)→Heap.SameBut it s.heap g→Q x { s with heap:=g }):wpAny (model prog w) A (Builtin.SmallTypes.nextOf (.ref it)) Q E s:=by
  obtain ⟨o,eo,ec,ed⟩:=id ti
  obtain ⟨ol,el,_,nl,dl⟩:=tt
  unfold Builtin.SmallTypes.nextOf
  refine wpAny_bind (wpAny_callSpecial?_slot (name:=Str.ofString "__next__") ti.typeIs F.slot_tuple_iterator_next (wpAny_call_entry F.slot_tuple_iterator_next ti.typeIs F.entry_tuple_iterator_next ?_ (F.args_tuple_iterator_next_1 _)))
  show wpAny _ _ (field (.ref it) 0 >>= _) _ _ s
  refine wpAny_bind (wpAny_field eo ed (x:=.ref t) rfl ?_)
  show wpAny _ _ (if (Value.ref t == Value.none)=true then _ else _) _ _ s
  rw [if_neg (by intro z; cases z)]
  show wpAny _ _ (field (.ref it) 1 >>= _) _ _ s
  refine wpAny_bind (wpAny_field eo ed (x:=.int i 0) rfl ?_)
  show wpAny _ _ (seqItems? (.ref t) >>= _) _ _ s
  refine wpAny_bind (wpAny_seqItems el dl ?_)
  simp only [Int.toNat_natCast,tx]
  refine wpAny_bind (wpAny_setField eo ed (by simp) (wpAny_pure ⟨x,rfl,wpAny_pure (k _ ?_ (Heap.SameBut.update ..))⟩))
  refine ⟨_,Heap.get?_update_self _ eo (Obj.isFreed_of_fields (Obj.data_mapFields ed _)),(Obj.cls_mapFields ..).trans ec,?_⟩
  rw [Obj.data_mapFields ed]
  simp [rawInt]
theorem tup_end {it t:Addr} {i:Nat} {its:Array Value} {Q:Value→Shared→Prop} (hd:A.handled=none) (ti:s.heap.IsTupleIter it t i) (tt:s.heap.IsTuple t its) (tx:its[i]?=none)
    (k:∀ g e,Heap.ExtBut it s.heap g→(∃ o,g.get? e=some o∧o.cls=.type "StopIteration")→E (.ref e) { s with heap:=g }):wpAny (model prog w) A (Builtin.SmallTypes.nextOf (.ref it)) Q E s:=by
  obtain ⟨o,eo,ec,ed⟩:=id ti
  obtain ⟨ol,el,_,nl,dl⟩:=tt
  unfold Builtin.SmallTypes.nextOf
  refine wpAny_bind (wpAny_callSpecial?_slot (name:=Str.ofString "__next__") ti.typeIs F.slot_tuple_iterator_next (wpAny_call_entry F.slot_tuple_iterator_next ti.typeIs F.entry_tuple_iterator_next ?_ (F.args_tuple_iterator_next_1 _)))
  show wpAny _ _ (field (.ref it) 0 >>= _) _ _ s
  refine wpAny_bind (wpAny_field eo ed (x:=.ref t) rfl ?_)
  show wpAny _ _ (if (Value.ref t == Value.none)=true then _ else _) _ _ s
  rw [if_neg (by intro z; cases z)]
  show wpAny _ _ (field (.ref it) 1 >>= _) _ _ s
  refine wpAny_bind (wpAny_field eo ed (x:=.int i 0) rfl ?_)
  show wpAny _ _ (seqItems? (.ref t) >>= _) _ _ s
  refine wpAny_bind (wpAny_seqItems el dl ?_)
  simp only [Int.toNat_natCast,tx]
  refine wpAny_bind (wpAny_rule (wpAny_bind (wpAny_setField eo ed (by simp) ?_)))
  show wpAny _ _ (newExc (.type "StopIteration") [] >>= _) _ _ _
  refine wpAny_bind ?_
  simp only [newExc,newTuple]
  refine wpAny_bind (wpAny_newObj_type ?_ (by size_fits))
  refine wpAny_bind (m:=firstArgMember _ _) (wpAny_of_eq (a:=Value.none) (by first | rfl | (simp only [firstArgMember]; rfl)) ?_)
  refine wpAny_newObj_type ?_ (by size_fits)
  simp only [raiseNew]
  refine wpAny_bind (wpAny_handled ?_)
  first | rw [show A.in1.handled=none from hd] | rw [hd]
  refine wpAny_bind (wpAny_pure (wpAny_throw ?_))
  exact k _ _ (((Heap.SameBut.update ..).extBut.push _).push _) ⟨_,Heap.get?_push_size _ rfl,rfl⟩
structure Apart (z TI TO i1 i2 t1 t2:Addr):Prop where
  a1:TI≠z
  a2:TO≠z
  a3:i1≠z
  a4:i2≠z
  b1:TI≠TO
  b2:TI≠i1
  b3:TI≠i2
  b4:TO≠i1
  b5:TO≠i2
  b6:i1≠i2
  c1:t1≠z
  c2:t1≠TO
  c3:t1≠i1
  c4:t1≠i2
  d1:t2≠z
  d2:t2≠TO
  d3:t2≠i1
  d4:t2≠i2
theorem zip_item {z TI TO i1 i2 t1 t2:Addr} {n1 n2:Nat} {us vs:Array Value} {x y a b:Value} {Q:Value→Shared→Prop} (D:Apart z TI TO i1 i2 t1 t2) (zz:IsZip s.heap z TI TO .none) (zi:IsPair s.heap TI (.ref i1) (.ref i2)) (zo:IsPair s.heap TO a b)
    (r1:s.heap.IsTupleIter i1 t1 n1) (r2:s.heap.IsTupleIter i2 t2 n2) (u1:s.heap.IsTuple t1 us) (u2:s.heap.IsTuple t2 vs) (x1:us[n1]?=some x) (x2:vs[n2]?=some y)
    (k:∀ g,IsZip g z TI TO (rawInt s.heap.objs.size)→IsPair g TO x y→g.IsTupleIter i1 t1 (n1+1)→g.IsTupleIter i2 t2 (n2+1)→IsPair g s.heap.objs.size x y→g.objs.size=s.heap.objs.size+1 →
      (∀ c o,c≠z→c≠TO→c≠i1→c≠i2→s.heap.get? c=some o→g.get? c=some o)→Q (.ref s.heap.objs.size) { s with heap:=g }) :
    wpAny (model prog w) A (Builtin.«zip.__next__» ⟨[.ref z],[]⟩) (fun fin s'=>∃ v,fin=.done (.ret v)∧Q v s') E s:=by
  show wpAny _ _ (field (.ref z) 2 >>= _) _ _ _
  refine wpAny_bind (wpAny_field zz rfl (x:=.bool false) rfl ?_)
  show wpAny _ _ (field (.ref z) 3 >>= _) _ _ _
  refine wpAny_bind (wpAny_field zz rfl (x:=.ref TI) rfl ?_)
  refine wpAny_bind (wpAny_seqItems zi rfl ?_)
  show wpAny _ _ (Builtin.SmallTypes.ownedTupleIsFree (.ref z) >>= _) _ _ _
  refine wpAny_bind ?_
  unfold Builtin.SmallTypes.ownedTupleIsFree
  refine wpAny_bind (wpAny_field zz rfl (x:=.none) rfl (wpAny_pure ?_))
  simp only [if_true]
  refine wpAny_bind (wpAny_rule ?_)
  refine wpAny_bind (wpAny_field zz rfl (x:=.ref TO) rfl ?_)
  refine wpAny_bind (wpAny_setField_rec zz (by simp) fun g1 zg1 s1=>?_)
  replace zg1:IsZip g1 z TI TO .ellipsis:=zg1
  refine wpAny_bind ?_
  simp only [List.zipIdx_cons,List.zipIdx_nil,List.forIn_cons,List.forIn_nil]
  refine wpAny_bind (wpAny_bind (wpAny_onRaise ?_))
  show wpAny _ _ (Builtin.SmallTypes.nextOf (.ref i1) >>= _) _ _ _
  refine wpAny_bind (tup_item (r1.extBut s1.extBut D.a3) (u1.extBut s1.extBut D.c1) x1 fun g2 rg2 s2=>wpAny_pure ?_)
  have zo2:IsPair g2 TO a b:=s2.extBut _ _ D.b4 (s1.extBut _ _ D.a2 zo)
  refine wpAny_bind (wpAny_seqItems zo2 rfl ?_)
  refine wpAny_bind (wpAny_updateSeq_pair zo2 fun g3 zo3 s3=>?_)
  replace zo3:IsPair g3 TO x b:=zo3
  refine wpAny_bind (wpAny_letGo (wpAny_pure ?_))
  refine wpAny_bind (wpAny_bind (wpAny_onRaise ?_))
  show wpAny _ _ (Builtin.SmallTypes.nextOf (.ref i2) >>= _) _ _ _
  refine wpAny_bind (tup_item (((r2.extBut s1.extBut D.a4).extBut s2.extBut D.b6.symm).extBut s3.extBut D.b5.symm) (((u2.extBut s1.extBut D.d1).extBut s2.extBut D.d3).extBut s3.extBut D.d2) x2 fun g4 rg4 s4=>wpAny_pure ?_)
  have zo4:IsPair g4 TO x b:=s4.extBut _ _ D.b5 zo3
  refine wpAny_bind (wpAny_seqItems zo4 rfl ?_)
  refine wpAny_bind (wpAny_updateSeq_pair zo4 fun g5 zo5 s5=>?_)
  replace zo5:IsPair g5 TO x y:=zo5
  refine wpAny_bind (wpAny_letGo (wpAny_pure (wpAny_pure ?_)))
  refine wpAny_bind (wpAny_seqItems zo5 rfl ?_)
  refine wpAny_bind (wpAny_newTuple ?_)
  have sz:g5.objs.size=s.heap.objs.size:=by rw [s5.1,s4.1,s3.1,s2.1,s1.1]
  have zg5:IsZip g5 z TI TO .ellipsis:=s5.extBut _ _ D.a2.symm (s4.extBut _ _ D.a4.symm (s3.extBut _ _ D.a2.symm (s2.extBut _ _ D.a3.symm zg1)))
  have kk:∀ c o,c≠z→c≠TO→c≠i1→c≠i2→s.heap.get? c=some o→g5.get? c=some o:=fun c o e1 e2 e3 e4 e =>
    s5.extBut _ _ e2 (s4.extBut _ _ e4 (s3.extBut _ _ e2 (s2.extBut _ _ e3 (s1.extBut _ _ e1 e))))
  have rg5:g5.IsTupleIter i1 t1 (n1+1):=((rg2.extBut s3.extBut D.b4.symm).extBut s4.extBut D.b6).extBut s5.extBut D.b4.symm
  have qg5:g5.IsTupleIter i2 t2 (n2+1):=rg4.extBut s5.extBut D.b5.symm
  have lz:z < g5.objs.size:=Heap.lt_size zg5
  show wpAny _ _ (Builtin.SmallTypes.ownedTupleHandOut (.ref z) (.ref g5.objs.size) >>= _) _ _ _
  refine wpAny_bind ?_
  unfold Builtin.SmallTypes.ownedTupleHandOut
  have zg6:IsZip (g5.push { cls:=.type "tuple",data:=.seq #[x,y] }) z TI TO .ellipsis:=Heap.get?_push_of_some _ zg5
  refine wpAny_bind (wpAny_setField_rec zg6 (by simp) fun g7 zg7 s7=>?_)
  replace zg7:IsZip g7 z TI TO (rawInt g5.objs.size):=zg7
  refine wpAny_setField_rec zg7 (by simp) fun g8 zg8 s8=>?_
  replace zg8:IsZip g8 z TI TO (rawInt g5.objs.size):=zg8
  have up:∀ c o,c≠z→g5.get? c=some o→g8.get? c=some o:=fun c o e1 e=>s8.extBut _ _ e1 (s7.extBut _ _ e1 (Heap.get?_push_of_some _ e))
  have pg8:IsPair g8 g5.objs.size x y:=s8.extBut _ _ (Nat.ne_of_gt lz) (s7.extBut _ _ (Nat.ne_of_gt lz) (Heap.get?_push_size _ rfl))
  have sz8:g8.objs.size=g5.objs.size+1:=by rw [s8.1,s7.1,Heap.size_push]
  rw [sz] at zg8 pg8 sz8
  refine wpAny_pure ⟨_,rfl,?_⟩
  show Q (.ref g5.objs.size) _
  rw [sz]
  obtain ⟨o1,eo1,q1⟩:=rg5
  obtain ⟨o2,eo2,q2⟩:=qg5
  exact k g8 zg8 (up _ _ D.a2 zo5) ⟨o1,up _ _ D.a3 eo1,q1⟩ ⟨o2,up _ _ D.a4 eo2,q2⟩ pg8 sz8 fun c o e1 e2 e3 e4 e=>up c o e1 (kk c o e1 e2 e3 e4 e)
theorem zip_end {z TI TO i1 i2 t1 t2:Addr} {n1:Nat} {us:Array Value} {a b:Value} {Q:Fin→Shared→Prop} (hd:A.handled=none) (D:Apart z TI TO i1 i2 t1 t2) (zz:IsZip s.heap z TI TO .none) (zi:IsPair s.heap TI (.ref i1) (.ref i2)) (zo:IsPair s.heap TO a b)
    (r1:s.heap.IsTupleIter i1 t1 n1) (u1:s.heap.IsTuple t1 us) (x1:us[n1]?=none)
    (k:∀ g e,(∀ c o,c≠z→c≠TO→c≠i1→c≠i2→s.heap.get? c=some o→g.get? c=some o)→(∃ o,g.get? e=some o∧o.cls=.type "StopIteration")→E (.ref e) { s with heap:=g }) :
    wpAny (model prog w) A (Builtin.«zip.__next__» ⟨[.ref z],[]⟩) Q E s:=by
  show wpAny _ _ (field (.ref z) 2 >>= _) _ _ _
  refine wpAny_bind (wpAny_field zz rfl (x:=.bool false) rfl ?_)
  show wpAny _ _ (field (.ref z) 3 >>= _) _ _ _
  refine wpAny_bind (wpAny_field zz rfl (x:=.ref TI) rfl ?_)
  refine wpAny_bind (wpAny_seqItems zi rfl ?_)
  show wpAny _ _ (Builtin.SmallTypes.ownedTupleIsFree (.ref z) >>= _) _ _ _
  refine wpAny_bind ?_
  unfold Builtin.SmallTypes.ownedTupleIsFree
  refine wpAny_bind (wpAny_field zz rfl (x:=.none) rfl (wpAny_pure ?_))
  simp only [if_true]
  refine wpAny_bind (wpAny_rule ?_)
  refine wpAny_bind (wpAny_field zz rfl (x:=.ref TO) rfl ?_)
  refine wpAny_bind (wpAny_setField_rec zz (by simp) fun g1 zg1 s1=>?_)
  replace zg1:IsZip g1 z TI TO .ellipsis:=zg1
  refine wpAny_bind ?_
  simp only [List.zipIdx_cons,List.zipIdx_nil,List.forIn_cons,List.forIn_nil]
  refine wpAny_bind (wpAny_bind (wpAny_onRaise ?_))
  show wpAny _ _ (Builtin.SmallTypes.nextOf (.ref i1) >>= _) _ _ _
  refine wpAny_bind (tup_end hd (r1.extBut s1.extBut D.a3) (u1.extBut s1.extBut D.c1) x1 fun g2 e s2 he=>?_)
  obtain ⟨oe,eoe,ece⟩:=he
  have zg2:IsZip g2 z TI TO .ellipsis:=s2 _ _ D.a3.symm zg1
  have nez:e≠z:=fun q=>by subst q; rw [zg2] at eoe; cases eoe; simp at ece
  exact wpAny_setField_rec zg2 (by simp) fun g3 _ s3=>k g3 e (fun c o e1 _ e3 _ q=>s3.extBut _ _ e1 (s2 _ _ e3 (s1.extBut _ _ e1 q))) ⟨oe,s3.extBut _ _ nez eoe,ece⟩
theorem next_item {z TI TO i1 i2 t1 t2:Addr} {n1 n2:Nat} {us vs:Array Value} {x y a b:Value} {Q:Option Value→Shared→Prop} (D:Apart z TI TO i1 i2 t1 t2) (zz:IsZip s.heap z TI TO .none) (zi:IsPair s.heap TI (.ref i1) (.ref i2)) (zo:IsPair s.heap TO a b)
    (r1:s.heap.IsTupleIter i1 t1 n1) (r2:s.heap.IsTupleIter i2 t2 n2) (u1:s.heap.IsTuple t1 us) (u2:s.heap.IsTuple t2 vs) (x1:us[n1]?=some x) (x2:vs[n2]?=some y)
    (k:∀ g,IsZip g z TI TO (rawInt s.heap.objs.size)→IsPair g TO x y→g.IsTupleIter i1 t1 (n1+1)→g.IsTupleIter i2 t2 (n2+1)→IsPair g s.heap.objs.size x y→g.objs.size=s.heap.objs.size+1 →
      (∀ c o,c≠z→c≠TO→c≠i1→c≠i2→s.heap.get? c=some o→g.get? c=some o)→Q (some (.ref s.heap.objs.size)) { s with heap:=g }) :
    wpAny (model prog w) A (pyNext (.ref z)) Q E s:=by
  have tz:s.TypeIs (.ref z) "zip":=⟨_,zz,rfl⟩
  unfold pyNext
  exact wpAny_bind (wpAny_attempt (wpAny_callSpecial?_slot (name:=Str.ofString "__next__") tz F.slot_zip_next (wpAny_call_entry F.slot_zip_next tz F.entry_zip_next
    (zip_item D zz zi zo r1 r2 u1 u2 x1 x2 fun g p1 p2 p3 p4 p5 p6 p7=>wpAny_pure (k g p1 p2 p3 p4 p5 p6 p7)) (F.args_zip_next_1 _))))
theorem next_end {z TI TO i1 i2 t1 t2:Addr} {n1:Nat} {us:Array Value} {a b:Value} {Q:Option Value→Shared→Prop} (hd:A.handled=none) (D:Apart z TI TO i1 i2 t1 t2) (zz:IsZip s.heap z TI TO .none) (zi:IsPair s.heap TI (.ref i1) (.ref i2)) (zo:IsPair s.heap TO a b)
    (r1:s.heap.IsTupleIter i1 t1 n1) (u1:s.heap.IsTuple t1 us) (x1:us[n1]?=none)
    (k:∀ g,(∀ c o,c≠z→c≠TO→c≠i1→c≠i2→s.heap.get? c=some o→g.get? c=some o)→Q none { s with heap:=g }):wpAny (model prog w) A (pyNext (.ref z)) Q E s:=by
  have tz:s.TypeIs (.ref z) "zip":=⟨_,zz,rfl⟩
  unfold pyNext
  refine wpAny_bind (wpAny_attempt (wpAny_callSpecial?_slot (name:=Str.ofString "__next__") tz F.slot_zip_next (wpAny_call_entry F.slot_zip_next tz F.entry_zip_next (zip_end hd D zz zi zo r1 u1 x1 fun g e kk he=>?_) (F.args_zip_next_1 _))))
  obtain ⟨o,eo,ec⟩:=he
  exact wpAny_bind (wpAny_isInstance (T:="StopIteration") (b:=true) ⟨o,eo,ec⟩ isSubtype_stop (wpAny_pure (k _ kk)))
end
abbrev zh1 (h:Heap) (t1:Addr):Heap:=h.push { cls:=.type "tuple_iterator",data:=.fields #[.ref t1,.int 0 0] }
abbrev zh2 (h:Heap) (t1 t2:Addr):Heap:=(zh1 h t1).push { cls:=.type "tuple_iterator",data:=.fields #[.ref t2,.int 0 0] }
abbrev zh3 (h:Heap) (t1 t2:Addr):Heap:=(zh2 h t1 t2).push { cls:=.type "tuple",data:=.seq #[.ref h.objs.size,.ref (zh1 h t1).objs.size] }
abbrev zh4 (h:Heap) (t1 t2:Addr):Heap:=(zh3 h t1 t2).push { cls:=.type "tuple",data:=.seq #[.none,.none] }
abbrev zh5 (h:Heap) (t1 t2:Addr):Heap:=(zh4 h t1 t2).push { cls:=.type "zip",data:=.fields #[.none,.bool false,.bool false,.ref (zh2 h t1 t2).objs.size,.ref (zh3 h t1 t2).objs.size] }
theorem zip_new (t1 t2:Addr) (us vs:Array Value):Meets (Builtin.«zip.__new__» ⟨[.type "zip",.ref t1,.ref t2],[]⟩) (fun _ R s=>s.heap.IsTuple t1 us∧s.heap.IsTuple t2 vs ∧
      R (.ok (.ret (.ref (zh4 s.heap t1 t2).objs.size))) { s with heap:=zh5 s.heap t1 t2 }) :=
  .of_wp fun prog w A R s h=>by
    obtain ⟨hp,g,d,tk,os⟩:=s; obtain ⟨u1,u2,h⟩:=h
    have hsub:=sub_zip
    have v1:Heap.IsTuple (Shared.heap ⟨hp,g,d,tk,os⟩) t1 us:=u1
    have v2:Heap.IsTuple (Shared.heap ⟨zh1 hp t1,g,d,tk,os⟩) t2 vs:=Heap.IsTuple.push u2 _
    wp_walk using wpAny_pyIter_tuple v1,wpAny_pyIter_tuple v2
    exact ⟨_,rfl,h⟩
theorem call_zip {prog:Program} {w:World} {A:Around} {E:Value→Shared→Prop} {s:Shared} {t1 t2:Addr} {us vs:Array Value} {Q:Value→Shared→Prop} (u1:s.heap.IsTuple t1 us) (u2:s.heap.IsTuple t2 vs)
    (k:∀ g,IsZip g (s.heap.objs.size+4) (s.heap.objs.size+2) (s.heap.objs.size+3) .none→IsPair g (s.heap.objs.size+2) (.ref s.heap.objs.size) (.ref (s.heap.objs.size+1))→IsPair g (s.heap.objs.size+3) .none .none →
      g.IsTupleIter s.heap.objs.size t1 0→g.IsTupleIter (s.heap.objs.size+1) t2 0→g.objs.size=s.heap.objs.size+5→(∀ c o,s.heap.get? c=some o→g.get? c=some o)→Q (.ref (s.heap.objs.size+4)) { s with heap:=g }) :
    wpAny (model prog w) A (call (.type "zip") [.ref t1,.ref t2]) Q E s:=by
  refine callType_new F.called_zip (by decide) (F.typeCall_zip_2 _ _) (F.newCall_zip_2 _ _) (fun obj=>F.args_object_init_3 obj _ _) F.entry_zip_new (zip_new t1 t2 us vs) ⟨u1,u2,?_⟩
  have n1:(zh1 s.heap t1).objs.size=s.heap.objs.size+1:=Heap.size_push ..
  have n2:(zh2 s.heap t1 t2).objs.size=s.heap.objs.size+2:=by rw [Heap.size_push,n1]
  have n3:(zh3 s.heap t1 t2).objs.size=s.heap.objs.size+3:=by rw [Heap.size_push,n2]
  have n4:(zh4 s.heap t1 t2).objs.size=s.heap.objs.size+4:=by rw [Heap.size_push,n3]
  have n5:(zh5 s.heap t1 t2).objs.size=s.heap.objs.size+5:=by rw [Heap.size_push,n4]
  have p5:(zh5 s.heap t1 t2).get? (zh4 s.heap t1 t2).objs.size=some _:=Heap.get?_push_size _ rfl
  have p4:(zh5 s.heap t1 t2).get? (zh3 s.heap t1 t2).objs.size=some _:=Heap.get?_push_of_some _ (Heap.get?_push_size _ rfl)
  have p3:(zh5 s.heap t1 t2).get? (zh2 s.heap t1 t2).objs.size=some _:=Heap.get?_push_of_some _ (Heap.get?_push_of_some _ (Heap.get?_push_size _ rfl))
  have p2:(zh5 s.heap t1 t2).get? (zh1 s.heap t1).objs.size=some _:=Heap.get?_push_of_some _ (Heap.get?_push_of_some _ (Heap.get?_push_of_some _ (Heap.get?_push_size _ rfl)))
  have p1:(zh5 s.heap t1 t2).get? s.heap.objs.size=some _:=Heap.get?_push_of_some _ (Heap.get?_push_of_some _ (Heap.get?_push_of_some _ (Heap.get?_push_of_some _ (Heap.get?_push_size _ rfl))))
  show _∧_
  rw [n2,n3,n4] at p5
  rw [n1,n2] at p3
  rw [n3] at p4
  rw [n1] at p2
  rw [n4]
  exact ⟨⟨_,p5,rfl⟩,k _ p5 p3 p4 ⟨_,p1,rfl,rfl⟩ ⟨_,p2,rfl,rfl⟩ n5 fun c o q=>Heap.get?_push_of_some _ (Heap.get?_push_of_some _ (Heap.get?_push_of_some _ (Heap.get?_push_of_some _ (Heap.get?_push_of_some _ q))))⟩
end ZT
set_option Elab.async false
set_option linter.all false
set_option maxRecDepth 100000
set_option maxHeartbeats 4000000
namespace L2
open PySem PySem.Spec PyProof.Rows
section
variable {X:Cx} {pins:List (Addr × Obj)} {σ:St} {H:Hp} {s:Shared} {h':Heap} {t':Nat} {ch:List Addr}
theorem Inv.turnedL (I:Inv X pins σ H s) (k:∀ b o,b ∉ ch→s.heap.get? b=some o→h'.get? b=some o) (f:∀ b∈ch,FpOk X pins H b):Inv X pins σ H { s with heap:=h',toks:=t' }:=by
  refine I.step (g':=s.gens) (d':=s.drawn) (ch:=ch) (fun b hb=>?_) (fun b o _ _ hc q _=>k b o hc q) (fun b o _ _ hc q _=>⟨o.slots,k b o hc q⟩) (fun b o _ q n=>n)
    (fun b o hc q=>⟨o,k b o hc q⟩) (fun b ys q=>q) (fun b o u q=>q) (fun b ps q=>⟨#[],by rw [q]; simp⟩) (fun m hm=>?_) (fun b u q=>?_) I.bare
  · have fe:=f b hb
    exact ⟨fe.2.2.2.1,fe.2.1,fe.2.2.2.2.1,fe.2.2.2.2.2⟩
  · obtain ⟨o,es,ep,ho,r⟩:=hm
    exact ⟨o,es,ep,k _ o (fun z=>(f _ z).2.1 rfl) ho,r⟩
  · refine (I.hok b u q).stay (fun c v hc q'=>k c v (fun z=>?_) q') (fun _ q'=>q') fun _ _ q'=>q'
    have fz:=(f c z).1
    rcases hc with e | e
    · rw [e,q] at fz; cases fz
    · rw [e] at fz; cases fz
theorem Inv.turnedLT {xs:List V} {its:List Value} (I:Inv X pins σ H s) (k:∀ b o,b ∉ ch→s.heap.get? b=some o→h'.get? b=some o) (f:∀ b∈ch,FpOk X pins H b) (hv:Vals xs its) (hz:xs.length≤sizeLine)
    (hn:h'.get? s.heap.objs.size=some { cls:=.type "tuple",data:=.seq its.toArray }):Inv X pins σ (upd H s.heap.objs.size (.tup xs)) { s with heap:=h',toks:=t' }:=by
  have fr:H s.heap.objs.size=none:=I.fresh
  have nel:∀ b o,s.heap.get? b=some o→b≠s.heap.objs.size:=fun b o q=>Nat.ne_of_lt (Heap.lt_size q)
  refine I.step (g':=s.gens) (d':=s.drawn) (ch:=ch) (fun b hb=>?_) (fun b o _ _ hc q _=>k b o hc q) (fun b o _ _ hc q _=>⟨o.slots,k b o hc q⟩) (fun b o _ q n=>by rw [upd_ne (nel b o q)]; exact n)
    (fun b o hc q=>⟨o,k b o hc q⟩) (fun b ys q=>by rw [upd_ne (ne_of_none q fr)]; exact q) (fun b o u q=>by rw [upd_ne (ne_of_none q fr)]; exact q) (fun b ps q=>⟨#[],by rw [upd_ne (ne_of_none q fr),q]; simp⟩) (fun m hm=>?_) (fun b u q=>?_) I.bare
  · have fe:=f b hb
    exact ⟨fe.2.2.2.1,fe.2.1,fe.2.2.2.2.1,fe.2.2.2.2.2⟩
  · obtain ⟨o,es,ep,ho,r⟩:=hm
    exact ⟨o,es,ep,k _ o (fun z=>(f _ z).2.1 rfl) ho,r⟩
  · by_cases hb:b=s.heap.objs.size
    · subst hb
      rw [upd_same] at q
      cases q
      exact ⟨hz,its,hv,_,hn,rfl,_,rfl⟩
    · rw [upd_ne hb] at q
      refine (I.hok b u q).stay (fun c v hc q'=>k c v (fun z=>?_) q') (fun c q'=>by rw [upd_ne (ne_of_none q' fr)]; exact q') fun c ys q'=>by rw [upd_ne (ne_of_none q' fr)]; exact q'
      have fz:=(f c z).1
      rcases hc with e | e
      · rw [e,q] at fz; cases fz
      · rw [e] at fz; cases fz
end
theorem ne_nat {a b:Nat} (h:a < b∨b < a):@Ne Addr a b:=fun e=>by
  have e':@Eq Nat a b:=e
  omega
theorem boot_zip':bootBuiltins "zip" = some (.type "zip"):=by decide +kernel
end L2
set_option linter.all false
namespace M01
open PySem
def isW (c:Nat):Bool:=decide (97≤c∧c≤122) || decide (65≤c∧c≤90) || decide (48≤c∧c≤57)
abbrev S:=List (List Nat) × List Nat
def fn (st:S):List (List Nat):=if st.2=[] then st.1 else st.1++[st.2]
def cmp (st:S) (rest:List Nat):List (List Nat):=if st.2=[] then st.1 else st.1++[st.2++rest.takeWhile isW]
def bl (c:Nat):Nat:=if isW c=true then c else 32
end M01
set_option Elab.async false
set_option linter.all false
set_option maxRecDepth 100000
set_option maxHeartbeats 4000000
namespace L2
open PySem PySem.Spec PyProof.Rows
theorem isPart_of {v:Value} {o:Option Int} (h:IsPart v o):∃ q:Option (Int × Tok),v=partValue q∧o=q.map (·.1):=by
  cases h with
  | none=>exact ⟨none,rfl,rfl⟩
  | int i t=>exact ⟨some (i,t),rfl,rfl⟩
def rSlS:V→Option Int→Option Int→Hp→VK→Prop:=fun x lo hi H Q=>∃ y:Str,x=.str y∧y.length≤sizeLine∧Q (.str (Txt.slice y lo hi)) H
theorem sl_str {X:Cx}:SlR X rSlS:=by
  intro pins s σ H x v vl vu lo hi sl Q I rx hs pl pu h
  obtain ⟨y,rfl,hz,q⟩:=h
  obtain ⟨t,rfl⟩:=rx
  obtain ⟨ql,rfl,rfl⟩:=isPart_of pl
  obtain ⟨qu,rfl,rfl⟩:=isPart_of pu
  refine ⟨"str",_,F.slot_str_getitem.lookup,typeIs_str _ _ _,?_⟩
  refine wpAny_getItem_str_slice (l:=ql) (u:=qu) (st:=none) hs rfl ?_
  exact post_val_or_str ⟨Nat.le_trans (Txt.slice_le y _ _) hz,fun t' k=>⟨.str _,H,I.tok _,⟨_,rfl⟩,q⟩⟩
end L2
set_option Elab.async false
set_option linter.all false
set_option maxRecDepth 100000
set_option maxHeartbeats 4000000
namespace L2
open PySem PySem.Spec PyProof.Rows
structure Cal (P:Program) (w:World) (K:PySem.W.Frag) (mg:Str→Option Value) (base:Heap) (x:Str) (k:Nat) (ps:List Str) (sp:Sp):Prop where
  ex:∃ (f:Addr) (fd:FuncData),FnOk P w K mg base CX0 k f fd ps sp∧Binds K fd ps []∧PySem.W.keepIn K (.ref f)=true∧mg x=some (.ref f)
structure Has (K:PySem.W.Frag) (mg:Str→Option Value) (x:Str) (st:Stmt) (ps:List Str):Prop where
  ex:∃ (f:Addr) (fd:FuncData),Fun K x x st f fd∧Binds K fd ps []∧mg x=some (.ref f)
section
variable {P:Program} {w:World} {K:PySem.W.Frag} {mg:Str→Option Value} {base:Heap}
theorem Has.cal {x:Str} {st:Stmt} {ps:List Str} {k:Nat} {sp:Sp} (h:Has K mg x st ps) (ok:∀ (f:Addr) (fd:FuncData),Fun K x x st f fd→mg x=some (.ref f)→Binds K fd ps []→FnOk P w K mg base CX0 k f fd ps sp):Cal P w K mg base x k ps sp:=by
  obtain ⟨f,fd,F,b,m⟩:=h.ex
  exact ⟨f,fd,ok f fd F m b,b,F.kp,m⟩
theorem Has.mk' {x:Str} {st:Stmt} {N ps:List Str} {k:Nat} {sp:Sp} (h:Has K mg x st ps) (S:FnScope N ps (defScope st)) (len:∀ vs H Q E,sp vs H Q E→vs.length=ps.length)
    (hbody:∀ (f:Addr) (cdv:Value) (A:Around) (outer:List Env) (s:Shared) (H:Hp) (vs:List V) (Q:VK) (E:XK),Room k (A.deeper (envOfC x (defScope st) s.heap.objs.size f cdv))→sp vs H Q E →
      ∃ t,PSs (cxOf CX0 P w K mg base N x (defScope st) f cdv A outer s H E).nox (defBody st) t∧t { nx:=fun _ H'=>Q .non H',rt:=Q } (start N vs) H):Cal P w K mg base x (k+1) ps sp :=
  h.cal fun f fd F _ _=>F.ok S len (hbody f)
theorem Cal.mono {x:Str} {j k:Nat} {ps:List Str} {sp:Sp} (C:Cal P w K mg base x j ps sp) (h:j≤k):Cal P w K mg base x k ps sp:=by
  obtain ⟨f,fd,F,r⟩:=C.ex
  exact ⟨f,fd,F.mono h,r⟩
end
theorem pe_cal {X:Cx} {x:Str} {k n:Nat} {ps:List Str} {sp:Sp} {e:Expr} {es:List Expr} {t:TA} {p pos:Pos} (C:Cal X.prog X.w X.K X.mg X.base x k ps sp) (hr:Room n X.A) (hk:k≤n) (hg:Gl X x) (ha:PA X (e :: es) t)
    (hdb:(x == ("__debug__" : Str))=false:=by decide) (he:starEach (e :: es) X.env=(false,eval e X.env) :: starEach es X.env:=by rfl) (hpl:(backTo pos (starEach es X.env)).any (·.1)=false:=by rfl) :
    PE X (.Call (.Name x p) (e :: es) [] pos) (tCall sp [] E0 t):=by
  obtain ⟨f,fd,F,b,kp,m⟩:=C.ex
  exact pe_call F (hr.mono hk) hg m kp b .nil pass0 ha hdb he hpl
inductive D where
  | non | bl (b:Bool) | int (i:Int) | str (x:Str) | tup (ds:List D)
mutual
def Den (H:Hp):V→D→Prop
  | v,.non=>v=.non
  | v,.bl b=>v=.bl b
  | v,.int i=>v=.int i
  | v,.str x=>v=.str x
  | v,.tup ds=>∃ (p:Addr) (vs:List V),v=.ref p∧H p=some (.tup vs)∧DenL H vs ds
def DenL (H:Hp):List V→List D→Prop
  | [],[]=>True
  | v :: vs,d :: ds=>Den H v d∧DenL H vs ds
  | _,_=>False
end
mutual
theorem Den.same {H H':Hp} (e:Same H H'):∀ {d:D} {v:V},Den H v d→Den H' v d
  | .non,_,h=>h
  | .bl _,_,h=>h
  | .int _,_,h=>h
  | .str _,_,h=>h
  | .tup ds,_,h=>by
    obtain ⟨p,vs,rfl,hp,hd⟩:=h
    exact ⟨p,vs,rfl,e _ _ hp,DenL.same e hd⟩
theorem DenL.same {H H':Hp} (e:Same H H'):∀ {ds:List D} {vs:List V},DenL H vs ds→DenL H' vs ds
  | [],[],_=>trivial
  | _ :: _,_ :: _,h=>⟨Den.same e h.1,DenL.same e h.2⟩
  | [],_ :: _,h=>h.elim
  | _ :: _,[],h=>h.elim
end
theorem DenL.len {H:Hp}:∀ {ds:List D} {vs:List V},DenL H vs ds→vs.length=ds.length
  | [],[],_=>rfl
  | _ :: ds,_ :: vs,h=>by rw [List.length_cons,List.length_cons,DenL.len h.2]
  | [],_ :: _,h=>h.elim
  | _ :: _,[],h=>h.elim
theorem DenL.at_ {H:Hp}:∀ {ds:List D} {vs:List V} {i:Nat} {v:V},DenL H vs ds→vs[i]?=some v→∃ d,ds[i]?=some d∧Den H v d
  | [],[],i,v,_,h=>by simp at h
  | d :: ds,_ :: vs,0,v,h,e=>by
    simp at e
    subst e
    exact ⟨d,rfl,h.1⟩
  | _ :: ds,_ :: vs,i+1,v,h,e=>DenL.at_ (i:=i) h.2 (by simpa using e)
  | [],_ :: _,_,_,h,_=>h.elim
  | _ :: _,[],_,_,h,_=>h.elim
theorem DenL.strs {H:Hp}:∀ xs:List Str,DenL H (xs.map V.str) (xs.map D.str)
  | []=>trivial
  | _ :: r=>⟨rfl,DenL.strs r⟩
theorem DenL.snoc {H:Hp} {v:V} {d:D} (hd:Den H v d):∀ {ds:List D} {vs:List V},DenL H vs ds→DenL H (vs++[v]) (ds++[d])
  | [],[],_=>⟨hd,trivial⟩
  | _ :: _,_ :: _,h=>⟨h.1,DenL.snoc hd h.2⟩
  | [],_ :: _,h=>h.elim
  | _ :: _,[],h=>h.elim
def Shal:Nat→D→Prop
  | 0,d=>d≠.non∧∀ ds,d≠.tup ds
  | n+1,d=>d≠.non∧∀ ds,d=.tup ds→ds.length≤100000∧∀ e∈ds,Shal n e
theorem Shal.up:∀ {n:Nat} {d:D},Shal n d→Shal (n+1) d
  | 0,d,h=>⟨h.1,fun ds e=>absurd e (h.2 ds)⟩
  | n+1,d,h=>⟨h.1,fun ds e=>⟨(h.2 ds e).1,fun x hx=>((h.2 ds e).2 x hx).up⟩⟩
theorem Shal.ne:∀ {n:Nat} {d:D},Shal n d→d≠.non
  | 0,_,h=>h.1
  | _+1,_,h=>h.1
theorem shal_strs {xs:List Str} (h:xs.length≤100000):Shal 1 (.tup (xs.map D.str)):=by
  refine ⟨(fun z=>nomatch z),fun ds e=>?_⟩
  injection e with e
  subst e
  refine ⟨by rw [List.length_map]; exact h,fun d hd=>?_⟩
  obtain ⟨x,_,rfl⟩:=List.mem_map.mp hd
  exact ⟨(fun z=>nomatch z),fun ds e=>nomatch e⟩
theorem shal_str (x:Str):Shal 0 (.str x):=⟨(fun z=>nomatch z),fun _ z=>nomatch z⟩
theorem shal_int (x:Int):Shal 0 (.int x):=⟨(fun z=>nomatch z),fun _ z=>nomatch z⟩
theorem Has.never {P:Program} {w:World} {K:PySem.W.Frag} {mg:Str→Option Value} {base:Heap} {x:Str} {st:Stmt} {ps:List Str} {sp:Sp} (h:Has K mg x st ps) (no:∀ vs H Q E,¬ sp vs H Q E):Cal P w K mg base x 0 ps sp :=
  h.cal fun f fd F _ _=>⟨fun vs H Q E z=>absurd z (no vs H Q E),fun A outer s H args us vs Q E _ _ _ _ z=>absurd z (no vs H Q E)⟩
theorem den_tup {H:Hp} {ds:List D} {v:V} (h:Den H v (.tup ds)):∃ (p:Addr) (vs:List V),v=.ref p∧H p=some (.tup vs)∧DenL H vs ds:=h
def Same2 (p:Addr) (H H':Hp):Prop:=∀ c o,H c=some o→c≠p→H' c=some o
theorem Same2.trans {p:Addr} {H H1 H2:Hp} (a:Same2 p H H1) (b:Same2 p H1 H2):Same2 p H H2:=fun c o e n=>b c o (a c o e n) n
theorem Same2.of {p:Addr} {H H1:Hp} (a:Same H H1):Same2 p H H1:=fun c o e _=>a c o e
theorem Pot.same {H0 H H':Hp} {p:Addr} (P:Pot H0 p H) (s:Same H H'):Pot H0 p H':=by
  obtain ⟨a,b,e⟩:=P.at_
  exact ⟨⟨a,b,s _ _ e⟩,fun c o e n=>s c o (P.old c o e n)⟩
theorem Pot.trans {H0 H1 H2:Hp} {p:Addr} (P:Pot H0 p H1) (R:Pot H1 p H2):Pot H0 p H2:=⟨R.at_,fun c o e n=>R.old c o (P.old c o e n) n⟩
mutual
theorem Den.keepT {H H':Hp} (e:∀ (b:Addr) (vs:List V),H b=some (.tup vs)→H' b=some (.tup vs)):∀ {d:D} {v:V},Den H v d→Den H' v d
  | .non,_,h=>h
  | .bl _,_,h=>h
  | .int _,_,h=>h
  | .str _,_,h=>h
  | .tup ds,_,h=>by
    obtain ⟨p,vs,rfl,hp,hd⟩:=h
    exact ⟨p,vs,rfl,e _ _ hp,DenL.keepT e hd⟩
theorem DenL.keepT {H H':Hp} (e:∀ (b:Addr) (vs:List V),H b=some (.tup vs)→H' b=some (.tup vs)):∀ {ds:List D} {vs:List V},DenL H vs ds→DenL H' vs ds
  | [],[],_=>trivial
  | _ :: _,_ :: _,h=>⟨Den.keepT e h.1,DenL.keepT e h.2⟩
  | [],_ :: _,h=>h.elim
  | _ :: _,[],h=>h.elim
end
section
variable {X:Cx} {K:PySem.W.Frag} {o e:Expr} {es:List Expr} {to:TE} {t:TA} {name:Str} {apos cpos:Pos} {T id:String} {r:V→List V→Hp→VK→Prop}
theorem ix_tupK (hK:X.K=K):IxR X (rIxT K):=by subst hK; exact ix_tup
theorem call_len_seqK (hK:X.K=K):CallR X (.builtin "len") (fun xs H Q=>∃ p ys,xs=[.ref p]∧(SqL K H p ys∨SqT K H p ys)∧Q (.int ys.length) H):=by subst hK; exact call_len_seq
end
end L2
set_option Elab.async false
set_option linter.all false
set_option maxRecDepth 100000
set_option maxHeartbeats 4000000
namespace L2
open PySem PySem.Spec PyProof.Rows
section
variable {κ:Type} [DecidableEq κ]
def valV (kvs:List (κ × V)) (k:κ):Option V:=(kvs.find? fun kv=>decide (kv.1=k)).map (·.2)
def putK (kvs:List (κ × V)) (k:κ) (v:V):List (κ × V) :=
  if (kvs.any fun kv=>decide (kv.1=k))=true then kvs.map (fun kv=>if kv.1=k then (kv.1,v) else kv) else kvs++[(k,v)]
def dropK (kvs:List (κ × V)) (k:κ):List (κ × V):=kvs.filter fun kv=>decide (kv.1≠k)
theorem valV_pos {p:κ × V} {r:List (κ × V)} {k:κ} (e:p.1=k):valV (p :: r) k=some p.2:=by simp [valV,List.find?_cons,e]
theorem valV_neg {p:κ × V} {r:List (κ × V)} {k:κ} (e:¬ p.1=k):valV (p :: r) k=valV r k:=by simp [valV,List.find?_cons,e]
theorem RelO.getD {o:Option V} {u:Option Value} {d:V} {d':Value} (r:RelO o u) (rd:RelV d d'):RelV (o.getD d) (u.getD d'):=by
  cases o with
  | none=>cases u with
    | none=>exact rd
    | some _=>exact (show False from r).elim
  | some _=>cases u with
    | none=>exact (show False from r).elim
    | some _=>exact r
theorem KV.val {kvs:List (κ × V)} {vs:List (κ × Value)} (r:KV kvs vs) (k:κ):RelO (valV kvs k) (valueAt vs k):=by
  unfold KV at r
  induction r with
  | nil=>exact True.intro
  | @cons p q ps qs h t ih =>
    obtain ⟨h1,h2⟩:=h
    by_cases e:p.1=k
    · have e':q.1=k:=h1.symm.trans e
      have b:valueAt (q :: qs) k=some q.2:=by simp [valueAt,List.find?_cons,e']
      rw [valV_pos e,b]; exact h2
    · have e':¬ q.1=k:=fun z=>e (h1.trans z)
      have b:valueAt (q :: qs) k=valueAt qs k:=by simp [valueAt,List.find?_cons,e']
      rw [valV_neg e,b]; exact ih
theorem KV.any {kvs:List (κ × V)} {vs:List (κ × Value)} (r:KV kvs vs) (k:κ):(kvs.any fun kv=>decide (kv.1=k))=vs.any fun kv=>decide (kv.1=k):=by
  unfold KV at r
  induction r with
  | nil=>rfl
  | cons h t ih=>rw [List.any_cons,List.any_cons,ih,h.1]
theorem KV.drop {kvs:List (κ × V)} {vs:List (κ × Value)} (r:KV kvs vs) (k:κ):KV (dropK kvs k) (without vs k):=by
  unfold KV at r ⊢
  unfold dropK without
  induction r with
  | nil=>exact .nil
  | @cons p q ps qs h t ih =>
    obtain ⟨h1,h2⟩:=h
    rw [List.filter_cons,List.filter_cons]
    by_cases e:p.1=k
    · have a:¬ decide (p.1≠k)=true:=by simp [e]
      have b:¬ decide (q.1≠k)=true:=by simp [h1.symm.trans e]
      rw [if_neg a,if_neg b]; exact ih
    · have e':¬ q.1=k:=fun z=>e (h1.trans z)
      have a:decide (p.1≠k)=true:=by simp [e]
      have b:decide (q.1≠k)=true:=by simp [e']
      rw [if_pos a,if_pos b]; exact .cons ⟨h1,h2⟩ ih
theorem KV.keys {kvs:List (κ × V)} {vs:List (κ × Value)} (r:KV kvs vs):kvs.map (·.1)=vs.map (·.1):=by
  unfold KV at r
  induction r with
  | nil=>rfl
  | cons h t ih=>rw [List.map_cons,List.map_cons,ih,h.1]
theorem KV.length {kvs:List (κ × V)} {vs:List (κ × Value)} (r:KV kvs vs):kvs.length=vs.length:=Paired.length r
end
abbrev KT (H:Hp):List (List Key × V)→List (List Key × Addr × Value)→Prop:=Paired fun p q=>p.1=q.1∧H q.2.1=some (.tup (p.1.map kV))∧RelV p.2 q.2.2
theorem KT.val {H:Hp} {kvs:List (List Key × V)} {xs:List (List Key × Addr × Value)} (r:KT H kvs xs) (k:List Key):RelO (valV kvs k) ((atKey xs k).map (·.2)):=by
  induction r with
  | nil=>exact True.intro
  | @cons p q ps qs h t ih =>
    obtain ⟨h1,_,h2⟩:=h
    by_cases e:p.1=k
    · have e':q.1=k:=h1.symm.trans e
      have b:atKey (q :: qs) k=some q.2:=by simp [atKey,List.find?_cons,e']
      rw [valV_pos e,b]; exact h2
    · have e':¬ q.1=k:=fun z=>e (h1.trans z)
      have b:atKey (q :: qs) k=atKey qs k:=by simp [atKey,List.find?_cons,e']
      rw [valV_neg e,b]; exact ih
theorem KT.keeps {H H':Hp} {kvs:List (List Key × V)} {xs:List (List Key × Addr × Value)} (r:KT H kvs xs) (ht:∀ b ys,H b=some (.tup ys)→H' b=some (.tup ys)):KT H' kvs xs :=
  Paired.mapP r fun _ _ z=>⟨z.1,ht _ _ z.2.1,z.2.2⟩
section
variable {P:Program} {w:World} {H:Hp} {h:Heap} {a:Addr}
end
def DGet (H:Hp) (a:Addr) (y:V) (r:Option V):Prop :=
  (∃ kvs k,Rd H a (.dK kvs)∧y=kV k∧r=valV kvs k)∨∃ kvs k b,Rd H a (.dT kvs)∧y=.ref b∧H b=some (.tup (k.map kV))∧r=valV kvs k
def DPut (H:Hp) (a:Addr) (y v:V) (H':Hp):Prop :=
  (∃ kvs k,H a=some (.dK kvs)∧y=kV k∧kvs.length < sizeLine∧H'=upd H a (.dK (putK kvs k v))) ∨
  ∃ kvs k b,H a=some (.dT kvs)∧y=.ref b∧H b=some (.tup (k.map kV))∧kvs.length < sizeLine∧H'=upd H a (.dT (putK kvs k v))
theorem DGet.k {H:Hp} {a:Addr} {kvs:List (Key × V)} {k:Key} (e:H a=some (.dK kvs)):DGet H a (kV k) (valV kvs k):=.inl ⟨kvs,k,.inl e,rfl,rfl⟩
theorem DGet.t {H:Hp} {a b:Addr} {kvs:List (List Key × V)} {k:List Key} (e:H a=some (.dT kvs)) (eb:H b=some (.tup (k.map kV))):DGet H a (.ref b) (valV kvs k):=.inr ⟨kvs,k,b,.inl e,rfl,eb,rfl⟩
theorem DPut.k {H:Hp} {a:Addr} {kvs:List (Key × V)} {k:Key} {v:V} (e:H a=some (.dK kvs)) (hl:kvs.length < sizeLine):DPut H a (kV k) v (upd H a (.dK (putK kvs k v))):=.inl ⟨kvs,k,e,rfl,hl,rfl⟩
theorem DPut.t {H:Hp} {a b:Addr} {kvs:List (List Key × V)} {k:List Key} {v:V} (e:H a=some (.dT kvs)) (eb:H b=some (.tup (k.map kV))) (hl:kvs.length < sizeLine) :
    DPut H a (.ref b) v (upd H a (.dT (putK kvs k v))):=.inr ⟨kvs,k,b,e,rfl,eb,hl,rfl⟩
section
variable {X:Cx} {pins:List (Addr × Obj)} {σ:St} {H:Hp} {s:Shared} {a:Addr} {y v:V} {u r:Value} {o:Option V} {A:Around} {E:Value→Shared→Prop}
end
section
variable {X:Cx} {pins:List (Addr × Obj)} {σ:St} {H:Hp} {s:Shared} {a:Addr} {kvs:List (Key × V)} {k:Key} {u:Value} {A:Around} {E:Value→Shared→Prop}
end
section
variable {X:Cx} {o i e value:Expr} {pos pos' tpos:Pos} {td ty tv:TE}
end
section
variable {X:Cx} {pos:Pos}
end
structure M1 (X:Cx) (o:Expr) (m:Str) (apos:Pos) (e:Expr) (cpos:Pos):Prop where
  base:attributeBase o m X.env (eval o X.env)=eval o X.env
  few:((backTo cpos (starEach [e] X.env)).all (fun x=>!x.1) && (backToKw cpos (keywordEach [] X.env)).all (fun x=>x.1.isSome)
    && decide (([e]:List Expr).length+([]:List Keyword).length+(if ([]:List Keyword).isEmpty then 0 else 1) < 30))=true
  line:(apos.endLine == cpos.line)=true
  trees:backTo cpos (starEach [e] X.env)=[(false,eval e X.env)]
structure M2 (X:Cx) (o:Expr) (m:Str) (apos:Pos) (e f:Expr) (cpos:Pos):Prop where
  base:attributeBase o m X.env (eval o X.env)=eval o X.env
  few:((backTo cpos (starEach [e,f] X.env)).all (fun x=>!x.1) && (backToKw cpos (keywordEach [] X.env)).all (fun x=>x.1.isSome)
    && decide (([e,f]:List Expr).length+([]:List Keyword).length+(if ([]:List Keyword).isEmpty then 0 else 1) < 30))=true
  line:(apos.endLine == cpos.line)=true
  trees:backTo cpos (starEach [e,f] X.env)=[(false,eval e X.env),(false,eval f X.env)]
section
variable {X:Cx} {pins:List (Addr × Obj)} {σ:St} {H:Hp} {s:Shared} {a:Addr} {y d:V} {u r:Value} {o:Option V} {A:Around} {E:Value→Shared→Prop}
end
section
variable {X:Cx} {o e f:Expr} {apos cpos:Pos} {td ty tx:TE}
end
section
variable {X:Cx} {pins:List (Addr × Obj)} {σ:St} {H:Hp} {s:Shared} {a:Addr} {kvs:List (Key × V)} {A:Around} {E:Value→Shared→Prop}
end
section
variable {X:Cx} {pins:List (Addr × Obj)} {σ:St} {H:Hp} {s:Shared} {a:Addr} {y:V} {u:Value} {A:Around} {E:Value→Shared→Prop}
end
end L2
set_option linter.all false
namespace MD
open PySem
abbrev kwD (d:Value):List (Str × Value):=[(Str.ofString "default",d)]
theorem args_d (a v:Value):argsOk "max" ⟨[a],kwD v⟩:=by
  unfold argsOk kwD
  kernel_rfl
section
variable {prog:Program} {w:World} {A:Around} {R:Result→Shared→Prop} {It:Addr} {fp wr:List Addr} {n:Nat} {Pr:Nat→Value→Prop} {Sx:Nat→Heap→Prop}
theorem nm:(toString "max" ++ toString ".loop" : String) = "max.loop":=by decide
theorem on (W:Walks prog w A.in1 It fp wr n Pr Sx) (bt:Nat→Nat→Bool) (cm:CmpOf prog w A.in1 .Gt Pr bt) (B:Addr) (nB:B ∉ fp) (d:Value) :
    ∀ (k j:Nat) (s:Shared) (best:Value) (c:Nat),n - (j+1)=k→j+1≤n→Sx (j+1) s.heap→Pr (argBest bt j) best →
    s.heap.get? B=some { cls:=.type "list",dict:=none,data:=.seq #[best,best] c,slots:=#[] } →
    (∀ v h' tk,Pr (argBest bt (n - 1)) v→(∀ b o,b ∉ wr→b≠B→s.heap.get? b=some o→h'.get? b=some o)→R (.ok (.ret v)) { s with heap:=h',toks:=tk }) →
    codeAny (model prog w) A (.builtin "max.loop" ⟨[.ref It,.none,.ref B],kwD d⟩) R s:=by
  have nW:B ∉ wr:=fun z=>nB (W.sub _ z)
  intro k
  induction k with
  | zero =>
    intro j s best c ek ej st pb eB fin
    have en:j+1=n:=by omega
    refine codeAny_builtin PySem.F.entry_max_loop ?_
    rw [Around.under_plainId (PySem.F.plain_max_loop) _]
    show wpAny _ A.in1 (seqItems? (.ref B) >>= _) _ _ s
    refine wpAny_bind (wpAny_seqItems eB rfl ?_)
    show wpAny _ A.in1 (tryCatch (pyNext (.ref It)) _ >>= _) _ _ s
    refine wpAny_bind (wpAny_tryCatch (W.done s _ _ (en ▸ st) fun h' tk kp=>?_))
    have eB':=kp B _ nW eB
    show wpAny _ A.in1 (updateSeq B (fun _=>#[]) >>= _) _ _ _
    refine wpAny_bind ?_
    refine wpAny_updateSeq eB' rfl (wpAny_bind (wpAny_letGo (wpAny_pure ?_)))
    exact fin best _ tk (by rw [← en]; exact pb) fun b o nb nS e=>(Heap.get?_update_other _ _ (Ne.symm nS)).trans (kp b o nb e)
  | succ k ih =>
    intro j s best c ek ej st pb eB fin
    have lt:j+1 < n:=by omega
    refine codeAny_builtin PySem.F.entry_max_loop ?_
    rw [Around.under_plainId (PySem.F.plain_max_loop) _]
    show wpAny _ A.in1 (seqItems? (.ref B) >>= _) _ _ s
    refine wpAny_bind (wpAny_seqItems eB rfl ?_)
    show wpAny _ A.in1 (tryCatch (pyNext (.ref It)) _ >>= _) _ _ s
    refine wpAny_bind (wpAny_tryCatch (W.item (j+1) s _ _ lt st fun v h' tk pv st' kp=>?_))
    have eB':=kp B _ nW eB
    show wpAny _ A.in1 (tryCatch (holding [v,v] (richCompare .Gt v best >>= _)) _ >>= _) _ _ _
    refine wpAny_bind (wpAny_tryCatch (wpAny_holding (wpAny_bind (cm (j+1) (argBest bt j) v best _ _ _ pv pb ?_))))
    refine wpAny_bind (wpAny_holding (wpAny_truthy_bool ?_))
    refine wpAny_bind (wpAny_letGo (wpAny_pure ?_))
    cases eb:bt (j+1) (argBest bt j) with
    | true =>
      rw [if_pos rfl]
      refine wpAny_bind ?_
      refine wpAny_updateSeq eB' rfl (wpAny_bind (wpAny_letGo ?_))
      rw [nm]
      refine wpAny_pure ⟨plainId_quiet PySem.F.plain_max_loop _,ih (j+1) _ v _ (by omega) lt (W.frame _ _ _ st' fun b bf o e=>?_) (by simp only [argBest,eb,if_true]; exact pv) (Heap.get?_update_self _ eB' rfl) fun v' h2 tk2 pv' kp2=>?_⟩
      · exact (Heap.get?_update_other _ _ (fun z:B=b=>nB (by rw [z]; exact bf))).trans e
      · exact fin v' h2 tk2 pv' fun b o nb nS e=>kp2 b o nb nS ((Heap.get?_update_other _ _ (Ne.symm nS)).trans (kp b o nb e))
    | false =>
      rw [if_neg Bool.false_ne_true]
      refine wpAny_bind (wpAny_letGo ?_)
      rw [nm]
      refine wpAny_pure ⟨plainId_quiet PySem.F.plain_max_loop _,ih (j+1) _ best c (by omega) lt st' (by simp only [argBest,eb,Bool.false_eq_true,if_false]; exact pb) eB' fun v' h2 tk2 pv' kp2=>?_⟩
      exact fin v' h2 tk2 pv' fun b o nb nS e=>kp2 b o nb nS (kp b o nb e)
theorem begin_ (W:Walks prog w A.in1 It fp wr n Pr Sx) (bt:Nat→Nat→Bool) (cm:CmpOf prog w A.in1 .Gt Pr bt) (B:Addr) (nB:B ∉ fp) (d:Value) {s:Shared} {c:Nat} (st:Sx 0 s.heap)
    (eB:s.heap.get? B=some { cls:=.type "list",dict:=none,data:=.seq #[] c,slots:=#[] })
    (none_:n=0→∀ h' tk,(∀ b o,b ∉ wr→s.heap.get? b=some o→h'.get? b=some o)→R (.ok (.ret d)) { s with heap:=h',toks:=tk })
    (fin:0 < n→∀ v h' tk,Pr (argBest bt (n - 1)) v→(∀ b o,b ∉ wr→b≠B→s.heap.get? b=some o→h'.get? b=some o)→R (.ok (.ret v)) { s with heap:=h',toks:=tk }) :
    codeAny (model prog w) A (.builtin "max.loop" ⟨[.ref It,.none,.ref B],kwD d⟩) R s:=by
  have nW:B ∉ wr:=fun z=>nB (W.sub _ z)
  refine codeAny_builtin PySem.F.entry_max_loop ?_
  rw [Around.under_plainId (PySem.F.plain_max_loop) _]
  show wpAny _ A.in1 (seqItems? (.ref B) >>= _) _ _ s
  refine wpAny_bind (wpAny_seqItems eB rfl ?_)
  show wpAny _ A.in1 (tryCatch (pyNext (.ref It)) _ >>= _) _ _ s
  by_cases h0:n=0
  · refine wpAny_bind (wpAny_tryCatch (W.done s _ _ (h0 ▸ st) fun h' tk kp=>?_))
    show wpAny _ A.in1 (rule _ >>= _) _ _ _
    exact wpAny_bind (wpAny_rule (wpAny_pure (none_ h0 h' tk kp)))
  · have hn:0 < n:=by omega
    refine wpAny_bind (wpAny_tryCatch (W.item 0 s _ _ hn st fun v h' tk pv st' kp=>?_))
    have eB':=kp B _ nW eB
    show wpAny _ A.in1 (updateSeq B (fun _=>#[v,v]) >>= _) _ _ _
    refine wpAny_bind ?_
    refine wpAny_updateSeq eB' rfl ?_
    rw [nm]
    refine wpAny_pure ⟨plainId_quiet PySem.F.plain_max_loop _,on W bt cm B nB d _ 0 _ v _ rfl hn (W.frame _ _ _ st' fun b bf o e=>?_) pv (Heap.get?_update_self _ eB' rfl) fun v' h2 tk2 pv' kp2=>?_⟩
    · exact (Heap.get?_update_other _ _ (fun z:B=b=>nB (by rw [z]; exact bf))).trans e
    · exact fin hn v' h2 tk2 pv' fun b o nb nS e=>kp2 b o nb nS ((Heap.get?_update_other _ _ (Ne.symm nS)).trans (kp b o nb e))
end
section
variable {prog:Program} {w:World} {A:Around} {E:Value→Shared→Prop} {s:Shared}
theorem tree_kw {id:String} {b:Builtin} {args:List Value} {kw:List (Str × Value)} {Q:Value→Shared→Prop} (h1:builtinKind id=none) (h2:plainId id=true) (h3:entryFor table id=some b) (h4:argsOk id ⟨args,kw⟩)
    (h:wpAny (model prog w) A.in1 (b ⟨args,kw⟩) (fun fin s'=>match fin with
      | .done f=>(match (Except.ok f:Result) with | .ok (.ret v)=>Q v s' | .ok _=>False | .error e=>E e s')
      | .again c'=>c'.quiet=true∧codeAny (model prog w) A c' (fun r s'=>match r with | .ok (.ret v)=>Q v s' | .ok _=>False | .error e=>E e s') s') E s):wpAny (model prog w) A (call (.builtin id) args kw) Q E s:=by
  refine wpAny_call (codeAny_call_builtin h2 h3 ?_)
  simp only [checkBuiltinCall,h1]
  cases e:Manifest.signature? id with
  | none=>exact wpAny_pure h
  | some sg =>
    have h4':Bind.checkArgs id sg ⟨args,kw⟩=pure ():=by simpa only [argsOk,e] using h4
    simp only [h4']
    exact wpAny_pure h
theorem call {x d:Value} {Q:Value→Shared→Prop}
    (h:wpAny (model prog w) A.in1 (pyIter x) (fun it s2=>∃ I fp wr n Pr Sx bt,it=.ref I∧Walks prog w A.in1 I fp wr n Pr Sx∧Sx 0 s2.heap∧(∀ b∈fp,b < s2.heap.objs.size)∧CmpOf prog w A.in1 .Gt Pr bt ∧
      (n=0→∀ h' tk,(∀ b o,b ∉ wr→s2.heap.get? b=some o→h'.get? b=some o)→Q d { s2 with heap:=h',toks:=tk }) ∧
      (0 < n→∀ v h' tk,Pr (argBest bt (n - 1)) v→(∀ b o,b ∉ wr→s2.heap.get? b=some o→h'.get? b=some o)→Q v { s2 with heap:=h',toks:=tk })) E s) :
    wpAny (model prog w) A (PySem.call (.builtin "max") [x] (kwD d)) Q E s:=by
  refine tree_kw PySem.F.kind_max PySem.F.plain_max PySem.F.entry_max (args_d _ _) ?_
  show wpAny _ A.in1 (Builtin.Builtins.bindParams "max" ["key", "default"] 0 ⟨[],kwD d⟩ >>= _) _ _ s
  refine wpAny_bind (wpAny_of_eq (show Builtin.Builtins.bindParams "max" ["key", "default"] 0 ⟨[],kwD d⟩=pure [none,some d] from rfl) ?_)
  refine wpAny_bind (wpAny_pure ?_)
  refine wpAny_bind (wpAny_mono h (fun it s2 h2=>?_) fun _ _ e=>e)
  obtain ⟨I,fp,wr,n,Pr,Sx,bt,rfl,W,st,hf,cm,q0,q1⟩:=h2
  refine wpAny_bind (wpAny_newObj_type ?_)
  have nB:s2.heap.objs.size ∉ fp:=fun z=>Nat.lt_irrefl _ (hf _ z)
  rw [nm]
  refine wpAny_pure ⟨plainId_quiet PySem.F.plain_max_loop _,begin_ W bt cm s2.heap.objs.size nB d (W.frame _ _ _ st fun b _ o e=>Heap.get?_push_of_some _ e) (Heap.get?_push_size _ rfl) (fun z h' tk kp=>?_) fun z v h' tk pv kp=>?_⟩
  · exact q0 z h' tk fun b o nb e=>kp b o nb (Heap.get?_push_of_some _ e)
  · exact q1 z v h' tk pv fun b o nb e=>kp b o nb (Nat.ne_of_lt (Heap.lt_size e)) (Heap.get?_push_of_some _ e)
end
end MD
set_option linter.all false
namespace MQ
open PySem
theorem no_keys:typeLookup (.type "list") "keys" = pure none:=am_miss_of_fast (by decide +kernel)
theorem ask {prog:Program} {w:World} {A:Around} {E:Value→Shared→Prop} {s:Shared} {a:Addr} {xs:Array Value} {k:Nat} {sl:Array (Option Value)} {Q:Option Value→Shared→Prop}
    (hx:s.heap.get? a=some { cls:=.type "list",dict:=none,data:=.seq xs k,slots:=sl }) (hA:A.handled=none)
    (h:∀ h' tk,(∀ b o,s.heap.get? b=some o→h'.get? b=some o)→Q none { s with heap:=h',toks:=tk }):wpAny (model prog w) A (getAttr? (.ref a) "keys") Q E s:=by
  obtain ⟨hp,g,d,tk,os⟩:=s
  have ty:∀ tk',(⟨hp,g,d,tk',os⟩:Shared).TypeIs (.ref a) "list":=fun _=>⟨_,hx,rfl⟩
  have f1:=sub_AttributeError
  have f3:=PySem.F.slot_list_getattribute.lookup
  have f4:=PySem.F.slot_list_getattribute.bind (.ref a)
  have f5:=am_list_getattr_none
  unfold getAttr? getAttrBy? getAttrBy
  repeat (any_goals (first | assumption | exact ty _ | ((with_reducible show wpAny _ _ (PySem.call (Value.builtin "list.__getattribute__") _ _) _ _ _); refine call_meets PySem.F.slot_list_getattribute (ty _) am_entry_list_getattribute (PySem.F.args_list_getattribute_2 _ _) (meets_getattribute_miss_list a xs k sl "keys" _ no_keys (by decide +kernel) (by decide +kernel)) ⟨hx,hA,fun h' tk' e ne=>?_⟩) | wp_step))
  obtain ⟨t',u',he⟩:=ne.there
  show wpAny _ _ (getattributeRaised _ _ _ _ _ _ _) _ _ _
  unfold getattributeRaised
  repeat (any_goals (first | assumption | wp_step))
  exact h _ _ ne.keeps
end MQ
set_option linter.all false
namespace DP
open PySem
section
variable {prog:Program} {w:World} {K:Type} [DecidableEq K] {knd:KeyKind prog w K} {A:Around} {R:Result→Shared→Prop} {It:Addr} {fp wr:List Addr} {n:Nat} {Pr:Nat→Value→Prop} {Sx:Nat→Heap→Prop}
end
end DP
set_option linter.all false
namespace DP
open PySem
section
variable {prog:Program} {w:World} {K:Type} [DecidableEq K] {knd:KeyKind prog w K} {A:Around} {E:Value→Shared→Prop} {s:Shared}
end
end DP
set_option Elab.async false
set_option linter.all false
set_option maxRecDepth 100000
set_option maxHeartbeats 4000000
namespace L2
open PySem PySem.Spec PyProof.Rows
theorem KV.at_ {κ:Type} {kvs:List (κ × V)} {vs:List (κ × Value)} (r:KV kvs vs):∀ (i:Nat) (p:κ × Value),vs[i]?=some p→∃ q:κ × V,kvs[i]?=some q∧q.1=p.1∧RelV q.2 p.2:=by
  induction r with
  | nil=>intro i p h; simp at h
  | cons h1 h2 ih =>
    intro i p h
    cases i with
    | zero =>
      simp at h
      subst h
      exact ⟨_,rfl,h1⟩
    | succ i=>simpa using ih i p (by simpa using h)
def Prs (H:Hp):List V→List (Key × V)→Prop:=Paired fun v kv=>∃ p:Addr,v=.ref p∧H p=some (.tup [kV kv.1,kv.2])
theorem Prs.same {H H':Hp} (e:Same H H') {vs:List V} {kvs:List (Key × V)} (h:Prs H vs kvs):Prs H' vs kvs:=Paired.mapP h fun _ _ ⟨p,a,b⟩=>⟨p,a,e _ _ b⟩
theorem Prs.snoc {H:Hp} {v:V} {kv:Key × V} (hv:∃ p:Addr,v=.ref p∧H p=some (.tup [kV kv.1,kv.2])):∀ {vs:List V} {kvs:List (Key × V)},Prs H vs kvs→Prs H (vs++[v]) (kvs++[kv])
  | _,_,.nil=>.cons hv .nil
  | _,_,.cons h r=>.cons h (Prs.snoc hv r)
theorem Prs.len {H:Hp} {vs:List V} {kvs:List (Key × V)} (h:Prs H vs kvs):vs.length=kvs.length:=Paired.length h
theorem Prs.at_ {H:Hp} {vs:List V} {kvs:List (Key × V)} (r:Prs H vs kvs):∀ (i:Nat) (v:V),vs[i]?=some v→∃ (kv:Key × V) (p:Addr),kvs[i]?=some kv∧v=.ref p∧H p=some (.tup [kV kv.1,kv.2]):=by
  induction r with
  | nil=>intro i p h; simp at h
  | cons h1 h2 ih =>
    intro i v h
    cases i with
    | zero =>
      simp at h
      subst h
      obtain ⟨p,a,b⟩:=h1
      exact ⟨_,p,rfl,a,b⟩
    | succ i=>simpa using ih i v (by simpa using h)
end L2
set_option Elab.async false
set_option linter.all false
set_option maxRecDepth 100000
set_option maxHeartbeats 4000000
namespace L2
open PySem PySem.Spec PyProof.Rows
end L2
set_option linter.all false
namespace M08
end M08
set_option linter.all false
namespace SLi
open PySem
theorem clip (a b n:Nat):Builtin.Str.strSliceIndices (some (a:Int)) (some (b:Int)) 1 n=Builtin.Str.strSliceIndices (some ((min a n:Nat):Int)) (some ((min b n:Nat):Int)) 1 n:=by
  have e1:¬ ((a:Int) < 0):=by omega
  have e2:¬ ((b:Int) < 0):=by omega
  have e3:¬ (((min a n:Nat):Int) < 0):=by omega
  have e4:¬ (((min b n:Nat):Int) < 0):=by omega
  have h1:max (0:Int) (min (a:Int) (n:Int))=max 0 (min ((min a n:Nat):Int) (n:Int)):=by omega
  have h2:max (0:Int) (min (b:Int) (n:Int))=max 0 (min ((min b n:Nat):Int) (n:Int)):=by omega
  simp only [Builtin.Str.strSliceIndices,e1,e2,e3,e4,if_false,h1,h2]
  rfl
theorem both (x:Str) {a b:Nat} (h:a≤b):Txt.slice x (some (a:Int)) (some (b:Int))=⟨((x.cps.toList.drop a).take (b - a)).toArray⟩:=by
  have hl:x.cps.toList.length=x.length:=by simp [Str.length]
  have e:Txt.slice x (some (a:Int)) (some (b:Int))=Txt.slice x (some ((min a x.length:Nat):Int)) (some ((min b x.length:Nat):Int)):=by
    unfold Txt.slice
    rw [clip]
  rw [e]
  have p:=StrLaws.sliceText_plain (x:=x) (i:=((min a x.length:Nat):Int)) (j:=((min b x.length:Nat):Int)) ⟨by omega,by omega,by omega⟩
  have p':Txt.slice x (some ((min a x.length:Nat):Int)) (some ((min b x.length:Nat):Int))=_:=p
  rw [p']
  congr 1
  have e1:(((min a x.length:Nat):Int)).toNat=min a x.length:=by omega
  have e2:(((min b x.length:Nat):Int) - ((min a x.length:Nat):Int)).toNat=min b x.length - min a x.length:=by omega
  rw [e1,e2]
  congr 1
  by_cases ha:a≤x.length
  · rw [Nat.min_eq_left ha]
    by_cases hb:b≤x.length
    · rw [Nat.min_eq_left hb]
    · rw [Nat.min_eq_right (by omega)]
      rw [List.take_of_length_le (by rw [List.length_drop]; omega),List.take_of_length_le (by rw [List.length_drop]; omega)]
  · rw [Nat.min_eq_right (by omega),List.drop_eq_nil_of_le (by omega),List.drop_eq_nil_of_le (by omega)]
    simp
end SLi
set_option Elab.async false
set_option linter.all false
set_option maxRecDepth 100000
set_option maxHeartbeats 4000000
namespace L2
open PySem PySem.Spec PyProof.Rows M08
structure OkC (cs:List (List Nat)):Prop where
  few:cs.length≤100
  size:∀ c∈cs,1≤c.length∧c.length≤8
theorem atI_zero {α:Type} (x:α) (xs:List α):atI (x :: xs) 0=some x:=atI_nat (xs:=x :: xs) (j:=0) rfl
end L2
set_option Elab.async false
set_option linter.all false
set_option maxRecDepth 100000
set_option maxHeartbeats 4000000
namespace L2
open PySem PySem.Spec PyProof.Rows M08
end L2
namespace M08
end M08
set_option Elab.async false
set_option linter.all false
set_option maxRecDepth 100000
set_option maxHeartbeats 4000000
namespace L2
open PySem PySem.Spec PyProof.Rows
def GoodV (H:Hp):V→Prop
  | .str x=>x.length≤1000
  | .non=>True
  | .bl _=>True
  | .int _=>True
  | .ref p=>(∃ xs,H p=some (.lst xs))∨(∃ xs,H p=some (.tup xs))∨∃ kvs,H p=some (.dK kvs)
  | _=>False
theorem GoodV.same {H H':Hp} (s:Same H H'):∀ {v:V},GoodV H v→GoodV H' v
  | .str _,h=>h
  | .non,h=>h
  | .bl _,h=>h
  | .int _,h=>h
  | .ref p,h=>by
    rcases h with ⟨xs,e⟩ | ⟨xs,e⟩ | ⟨xs,e⟩
    · exact .inl ⟨xs,s _ _ e⟩
    · exact .inr (.inl ⟨xs,s _ _ e⟩)
    · exact .inr (.inr ⟨xs,s _ _ e⟩)
  | .byt _,h=>h.elim
  | .flt _,h=>h.elim
  | .ty _,h=>h.elim
theorem GoodV.lst {H:Hp} {l:Addr} {ys:List V}:∀ {v:V},GoodV H v→∀ H':Hp,H' l=some (.lst ys)→(∀ c o,H c=some o→c≠l→H' c=some o)→GoodV H' v
  | .str _,h,_,_,_=>h
  | .non,h,_,_,_=>h
  | .bl _,h,_,_,_=>h
  | .int _,h,_,_,_=>h
  | .ref p,h,H',e,s=>by
    by_cases hp:p=l
    · subst hp
      exact .inl ⟨ys,e⟩
    · rcases h with ⟨xs,e⟩ | ⟨xs,e⟩ | ⟨xs,e⟩
      · exact .inl ⟨xs,s _ _ e hp⟩
      · exact .inr (.inl ⟨xs,s _ _ e hp⟩)
      · exact .inr (.inr ⟨xs,s _ _ e hp⟩)
  | .byt _,h,_,_,_=>h.elim
  | .flt _,h,_,_,_=>h.elim
  | .ty _,h,_,_,_=>h.elim
theorem GoodV.pot {H H':Hp} {p:Addr} {v:V} (h:GoodV H v) (P:Pot H p H'):GoodV H' v:=by
  obtain ⟨a,b,e⟩:=P.at_
  exact h.lst H' e P.old
theorem GoodV.upd {H:Hp} {l:Addr} {ys:List V} {v:V} (h:GoodV H v):GoodV (upd H l (.lst ys)) v:=h.lst _ upd_same fun c o e n=>(upd_ne n).trans e
end L2
namespace L2
open PySem PySem.Spec PyProof.Rows
structure QSs (X:Cx) (st:List Stmt) (t:TS):Prop where
  h:PSs X st t
structure QS (X:Cx) (st:Stmt) (t:TS):Prop where
  h:PS X st t
structure QE (X:Cx) (e:Expr) (t:TE):Prop where
  h:PE X e t
structure QA (X:Cx) (es:List Expr) (t:TA):Prop where
  h:PA X es t
end L2
namespace M05
def nmN:Nat→Nat→List Nat
  | 0,_=>[]
  | f+1,r=>if r=0 then [] else nmN f ((r - 1) / 26)++[97+(r - 1) % 26]
def nm (r:Nat):List Nat:=nmN r r
def dg:Nat→Nat→List Nat
  | 0,_=>[]
  | s+1,k=>dg s (k / 26)++[97+k % 26]
def sh:Nat→Nat
  | 0=>0
  | s+1=>26 * sh s+(if s=0 then 0 else 26)
end M05
set_option linter.all false
namespace M05
end M05
set_option Elab.async false
set_option linter.all false
set_option maxRecDepth 100000
set_option maxHeartbeats 4000000
namespace L2
open PySem PySem.Spec PyProof.Rows
end L2
set_option Elab.async false
set_option linter.all false
set_option maxRecDepth 100000
set_option maxHeartbeats 4000000
namespace ET
open PySem
open Sem (wp)
open AutoSeq1 (wpAny_loadPart')
end ET
namespace L2
open PySem PySem.Spec PyProof.Rows
theorem getItem_tuple_all {prog:Program} {w:World} {A:Around} {E:Value→Shared→Prop} {s:Shared} {t sl:Addr} {items:Array Value} {vl vu:Value} {lo hi:Option Int} {Q:Value→Shared→Prop} (ht:IsTup s.heap t items) (hs:s.heap.IsSliceOf sl vl vu .none) (pl:IsPart vl lo) (pu:IsPart vu hi)
    (hw:HT.sIx items.size 0 lo=0∧HT.sIx items.size items.size hi=items.size) (h:Q (.ref t) s):wpAny (model prog w) A (getItem (.ref t) (.ref sl)) Q E s:=by
  obtain ⟨os,hos,hcs,hds⟩:=id hs
  have hTs:s.TypeIs (.ref sl) "slice":=⟨os,hos,hcs⟩
  unfold getItem
  try with_reducible refine wpAny_holding ?_
  first | refine wpAny_bind (wpAny_pure ?_) | skip
  refine wpAny_bind (wpAny_sequenceKey ht.typeIs (by decide) ?_)
  refine wpAny_bind (wpAny_callSpecial?_slot (name:=Str.ofString "__getitem__") ht.typeIs PyProof.Rows.slot_tuple_getitem
    (wpAny_call_entry PyProof.Rows.slot_tuple_getitem ht.typeIs PyProof.Rows.entry_tuple_getitem ?_ (PyProof.Rows.args_tuple_getitem _ _)))
  show wpAny _ _ (Builtin.Tuple.tupleItemsOf (.ref t) >>= _) _ _ s
  refine wpAny_bind (PyProof.Rows.tupleItemsOf_ ht ?_)
  refine wpAny_bind (wpAny_typeOf hTs ?_)
  rw [if_pos (by decide)]
  refine wpAny_bind (HT.sliceApplied_gen hs pl pu ?_)
  have hno:(((HT.sIx items.size 0 lo:Nat):Int) == 0 && (1:Int) == 1 && (HT.sIx items.size items.size hi - HT.sIx items.size 0 lo) == items.size)=true:=by
    rw [hw.1,hw.2]
    simp
  show wpAny _ _ (if (((HT.sIx items.size 0 lo:Nat):Int) == 0 && (1:Int) == 1 && (HT.sIx items.size items.size hi - HT.sIx items.size 0 lo) == items.size)=true then _ else _) _ _ s
  rw [if_pos hno]
  refine wpAny_bind (m:=Builtin.Tuple.tupleIsExact _) (wpAny_bind (wpAny_typeOf ht.typeIs (wpAny_pure ?_)))
  rw [if_pos (by decide)]
  exact wpAny_bind (wpAny_rule (wpAny_pure ⟨_,rfl,wpAny_pure h⟩))
def rSlTw (K:PySem.W.Frag):V→Option Int→Option Int→Hp→VK→Prop:=fun x lo hi H Q=>∃ a xs,x=.ref a∧H a=some (.tup xs)∧∀ (p:Addr) (H':Hp),Same H H'→H' p=some (.tup (cutV xs lo hi))→Q (.ref p) H'
theorem sl_tupW {X:Cx}:SlR X (rSlTw X.K):=by
  intro pins s σ H x v vl vu lo hi sl Q I rx hs pl pu h
  obtain ⟨a,xs,rfl,hx,q⟩:=h
  by_cases hw:HT.sIx xs.length 0 lo=0∧HT.sIx xs.length xs.length hi=xs.length
  · cases rx
    obtain ⟨its,r,ht,hz⟩:=I.tuple (SqT.of hx)
    have hlen:its.toArray.size=xs.length:=by rw [List.size_toArray]; exact r.length.symm
    refine ⟨"tuple",_,PyProof.Rows.slot_tuple_getitem.lookup,ht.typeIs,?_⟩
    refine getItem_tuple_all ht hs pl pu (by rw [hlen]; exact hw) ⟨.ref a,H,I,rfl,q a H (Same.refl H) ?_⟩
    rw [hx]
    unfold cutV
    rw [hw.1,hw.2,List.drop_zero,Nat.sub_zero,List.take_length]
  · exact sl_tup pins s σ H _ v vl vu lo hi sl Q I rx hs pl pu ⟨a,xs,rfl,SqT.of hx,hw,fun p hp=>q p _ (same_new hp _) upd_same⟩
end L2
set_option Elab.async false
set_option linter.all false
set_option maxRecDepth 100000
set_option maxHeartbeats 4000000
namespace L2
open PySem PySem.Spec PyProof.Rows
end L2
set_option Elab.async false
set_option linter.all false
set_option maxRecDepth 100000
set_option maxHeartbeats 4000000
namespace DR
open PySem PySem.W
open Sem (wp)
def Raw (g:Heap) (d:Addr) (es:Array DictEntry) (ep:Nat):Prop:=∃ o,g.get? d=some o∧o.ExactDict∧o.data=.dict es ep
section
variable {prog:Program} {w:World} {A:Around} {E:Value→Shared→Prop} {s:Shared} {it dd:Addr} {es:Array DictEntry} {i ep:Nat}
theorem Raw.typeIs (r:Raw s.heap dd es ep):s.TypeIs (.ref dd) "dict":=by
  obtain ⟨o,eo,ec,ed⟩:=r
  exact ⟨o,eo,ec.1⟩
theorem Raw.lt {g:Heap} (r:Raw g dd es ep):dd < g.objs.size:=by
  obtain ⟨o,eo,_⟩:=r
  exact Heap.lt_size eo
theorem Raw.at {g g':Heap} (r:Raw g dd es ep) (k:∀ o,g.get? dd=some o→g'.get? dd=some o):Raw g' dd es ep:=by
  obtain ⟨o,eo,x⟩:=r
  exact ⟨o,k o eo,x⟩
end
end DR
namespace L2
open PySem PySem.Spec PyProof.Rows
end L2
set_option Elab.async false
set_option linter.all false
set_option maxRecDepth 100000
set_option maxHeartbeats 4000000
namespace SX
open PySem PySem.Spec PyProof.Rows
def have_ {K:Type} [DecidableEq K] (val:Nat→K) (i:Nat) (k:K):Bool:=((List.range i).map val).any fun y=>decide (y=k)
theorem have_succ {K:Type} [DecidableEq K] (val:Nat→K) (i:Nat) (k:K):have_ val (i+1) k=(have_ val i k || decide (k=val i)):=by
  unfold have_
  rw [List.range_succ,List.map_append,List.any_append]
  congr 1
  simp [eq_comm]
def many {K:Type} [DecidableEq K] (val:Nat→K):Nat→Nat
  | 0=>0
  | i+1=>if have_ val i (val i)=true then many val i else many val i+1
theorem many_le {K:Type} [DecidableEq K] (val:Nat→K):∀ i,many val i≤i
  | 0=>Nat.le_refl _
  | i+1=>by
    have:=many_le val i
    unfold many
    split <;> omega
section
variable {prog:Program} {w:World} {A:Around} {R:Result→Shared→Prop} {I:Addr} {fp wr:List Addr} {G:Array GenState→Array GenState→Prop} {n:Nat} {P:Nat→Value→Prop} {St:Nat→Shared→Prop} {K:Type} [DecidableEq K] {knd:KeyKind prog w K}
theorem fill (W:WalksS prog w A.in1 I fp wr G n P St) (S:Addr) (nf:S ∉ fp) (val:Nat→K) (hv:∀ i v,P i v→knd.is (val i) v=true∧v.scannable=true) (room:n+1 < scanBound) :
    ∀ (k i:Nat) (s:Shared),n - i=k→i≤n→St i s→s.heap.SetOf knd S (have_ val i) (many val i)→(∀ s',Moved (S :: wr) G s s'→s'.heap.SetOf knd S (have_ val n) (many val n)→R (.ok (.ret .none)) s') →
      codeAny (model prog w) A (.builtin "set.update.loop" ⟨[.ref S,.ref I],[]⟩) R s:=by
  have nw:S ∉ wr:=fun z=>nf (W.sub _ z)
  have sub:∀ b∈wr,b∈S :: wr:=fun b z=>List.mem_cons_of_mem _ z
  intro k
  induction k with
  | zero =>
    intro i s ek le st hS q
    have e:i=n:=by omega
    subst e
    refine codeAny_builtin F.entry_set_update_loop ?_
    rw [Around.under_plainId F.plain_set_update_loop _]
    show wpAny _ A.in1 (pyNext (.ref I) >>= _) _ _ _
    refine wpAny_bind (W.done s _ _ st fun s' mv=>?_)
    show wpAny _ A.in1 (ret Value.none) _ _ _
    refine wpAny_pure (q s' (mv.mono sub) ?_)
    obtain ⟨o,es,ep,t,eo,rest⟩:=hS
    exact ⟨o,es,ep,t,mv.heap S _ nw eo,rest⟩
  | succ k ih =>
    intro i s ek le st hS q
    have lt:i < n:=by omega
    refine codeAny_builtin F.entry_set_update_loop ?_
    rw [Around.under_plainId F.plain_set_update_loop _]
    show wpAny _ A.in1 (pyNext (.ref I) >>= _) _ _ _
    refine wpAny_bind (W.item i s _ _ lt st fun v s' hP st' mv=>?_)
    obtain ⟨hk,hsc⟩:=hv i v hP
    have hS':s'.heap.SetOf knd S (have_ val i) (many val i):=by
      obtain ⟨o,es,ep,tb,eo,rest⟩:=hS
      exact ⟨o,es,ep,tb,mv.heap S _ nw eo,rest⟩
    show wpAny _ A.in1 (holding [v] (setAdd S v) >>= _) _ _ _
    refine wpAny_bind (wpAny_holding ?_)
    unfold setAdd
    refine wpAny_holding (wpAny_bind (knd.pyHash hk ?_))
    refine wpAny_setAddHashed_of (knd:=knd) (s:={ s' with toks:=s'.toks+1 }) hk hsc hS' (Nat.lt_of_le_of_lt (Nat.succ_le_succ (many_le val i)) (by omega)) fun g sb hS2=>?_
    have hSi:g.SetOf knd S (have_ val (i+1)) (many val (i+1)):=by
      have e:(fun k'=>have_ val i k' || decide (k'=val i))=have_ val (i+1):=funext fun k'=>(have_succ val i k').symm
      rw [← e]
      exact hS2
    refine wpAny_pure ⟨plainId_quiet F.plain_set_update_loop _,ih (i+1) _ (by omega) lt (W.frame _ s' _ _ st' (Nat.le_succ _) fun b hb o e=>?_) hSi fun s'' mv2 hS''=>?_⟩
    · rw [sb.2 b fun z=>nf (z ▸ hb)]
      exact e
    · refine q s'' (Moved.trans W.gtrans ((mv.mono sub).then_heap (Nat.le_succ _) fun b o hb e=>?_) mv2) hS''
      rw [sb.2 b fun z=>hb (by rw [z]; exact List.mem_cons_self)]
      exact e
end
end SX
set_option Elab.async false
set_option linter.all false
set_option maxRecDepth 100000
set_option maxHeartbeats 4000000
namespace L2
open PySem PySem.Spec PyProof.Rows
end L2
set_option Elab.async false
set_option linter.all false
set_option maxRecDepth 100000
set_option maxHeartbeats 4000000
namespace L2
open PySem PySem.Spec PyProof.Rows
theorem den_rel {X:Cx} {pins:List (Addr × Obj)} {σ:St} {H:Hp} {s:Shared} (I:Inv X pins σ H s):∀ (n:Nat) (d:D) (A:Around) (x y:V) (v u:Value),Shal n d→Den H x d→Den H y d→RelV x v→RelV y u→A.units+n < cLine→SeqAt.EqAt A s v u true
  | _,.non,A,x,y,v,u,hs,hx,hy,rx,ry,hu=>absurd rfl hs.ne
  | _,.bl b,A,x,y,v,u,hs,hx,hy,rx,ry,hu=>by
    have e1:x=.bl b:=hx
    have e2:y=.bl b:=hy
    subst e1
    subst e2
    cases rx
    cases ry
    exact SeqAt.EqAt.same _
  | _,.int i,A,x,y,v,u,hs,hx,hy,rx,ry,hu=>by
    have e1:x=.int i:=hx
    have e2:y=.int i:=hy
    subst e1
    subst e2
    obtain ⟨t,rfl⟩:=rx
    obtain ⟨t',rfl⟩:=ry
    have:=SeqAt.EqAt.int_int (A:=A) (s:=s) i t i t'
    simpa using this
  | _,.str z,A,x,y,v,u,hs,hx,hy,rx,ry,hu=>by
    have e1:x=.str z:=hx
    have e2:y=.str z:=hy
    subst e1
    subst e2
    obtain ⟨t,rfl⟩:=rx
    obtain ⟨t',rfl⟩:=ry
    have:=SeqAt.EqAt.str_str (A:=A) (s:=s) z t z t'
    simpa using this
  | 0,.tup ds,A,x,y,v,u,hs,hx,hy,rx,ry,hu=>absurd rfl (hs.2 ds)
  | n+1,.tup ds,A,x,y,v,u,hs,hx,hy,rx,ry,hu=>by
    obtain ⟨a,vs,rfl,ha,hda⟩:=den_tup hx
    obtain ⟨b,us,rfl,hb,hdb⟩:=den_tup hy
    cases rx
    cases ry
    by_cases hab:a=b
    · subst hab
      exact SeqAt.EqAt.same _
    · obtain ⟨its,r1,p1,_⟩:=I.tuple (SqT.of (K:=X.K) ha)
      obtain ⟨its2,r2,p2,_⟩:=I.tuple (SqT.of (K:=X.K) hb)
      have l1:=hda.len
      have l2:=hdb.len
      have m1:=r1.length
      have m2:=r2.length
      have key:=SeqAt.EqAt.of_refs hab (SeqAt.RcAt.tuples (A:=A) (s:=s) (e:=fun _=>true) p1 p2 (by omega) fun j h1 h2=>?_)
      · have e:((List.range (min its.toArray.size its2.toArray.size)).all (fun _=>true) && its.toArray.size == its2.toArray.size)=true:=by
          simp
          omega
        rw [e] at key
        exact key
      · have hj1:j < vs.length:=by simpa [m1] using h1
        have hj2:j < us.length:=by simpa [m2] using h2
        obtain ⟨d1,g1,b1⟩:=hda.at_ (List.getElem?_eq_getElem hj1)
        obtain ⟨d2,g2,b2⟩:=hdb.at_ (List.getElem?_eq_getElem hj2)
        rw [g1] at g2
        cases g2
        obtain ⟨w1,hw1,rw1⟩:=r1.get (List.getElem?_eq_getElem hj1)
        obtain ⟨w2,hw2,rw2⟩:=r2.get (List.getElem?_eq_getElem hj2)
        have q1:its.toArray[j]=w1:=by
          have:=(List.getElem?_eq_some_iff.mp hw1).2
          simpa using this
        have q2:its2.toArray[j]=w2:=by
          have:=(List.getElem?_eq_some_iff.mp hw2).2
          simpa using this
        rw [q1,q2]
        exact den_rel I n d1 A.in1 _ _ _ _ ((hs.2 ds rfl).2 d1 (List.mem_of_getElem? g1)) b1 b2 rw1 rw2 (by first | (simp only [Around.in1]; omega) | omega)
def rNeD:R2:=fun x y H Q=>∃ (ds:List D) (n:Nat),Den H x (.tup ds)∧Den H y (.tup ds)∧Shal n (.tup ds)∧n≤60∧Q (.bl false) H
theorem op_neD {X:Cx} (hu:X.A.units+64 < cLine):OpR X (compareOp .NotEq) rNeD:=by
  intro pins s σ H x y v u Q I rx ry h
  obtain ⟨ds,n,hx,hy,hs,hn,q⟩:=h
  obtain ⟨a,vs,rfl,ha,hda⟩:=den_tup hx
  obtain ⟨b,us,rfl,hb,hdb⟩:=den_tup hy
  cases rx
  cases ry
  cases n with
  | zero=>exact absurd rfl (hs.2 ds)
  | succ n =>
  obtain ⟨its,r1,p1,_⟩:=I.tuple (SqT.of (K:=X.K) ha)
  obtain ⟨its2,r2,p2,_⟩:=I.tuple (SqT.of (K:=X.K) hb)
  have l1:=hda.len
  have l2:=hdb.len
  have m1:=r1.length
  have m2:=r2.length
  have key:=SeqAt.RcNeAt.tuples (A:=X.A) (s:=s) (e:=fun _=>true) p1 p2 (by omega) fun j h1 h2=>?_
  · have e:(!((List.range (min its.toArray.size its2.toArray.size)).all (fun _=>true) && its.toArray.size == its2.toArray.size))=false:=by
      simp
      omega
    rw [e] at key
    exact key X.prog X.w _ _ ⟨.bl false,H,I,rfl,q⟩
  · have hj1:j < vs.length:=by simpa [m1] using h1
    have hj2:j < us.length:=by simpa [m2] using h2
    obtain ⟨d1,g1,b1⟩:=hda.at_ (List.getElem?_eq_getElem hj1)
    obtain ⟨d2,g2,b2⟩:=hdb.at_ (List.getElem?_eq_getElem hj2)
    rw [g1] at g2
    cases g2
    obtain ⟨w1,hw1,rw1⟩:=r1.get (List.getElem?_eq_getElem hj1)
    obtain ⟨w2,hw2,rw2⟩:=r2.get (List.getElem?_eq_getElem hj2)
    have q1:its.toArray[j]=w1:=by
      have:=(List.getElem?_eq_some_iff.mp hw1).2
      simpa using this
    have q2:its2.toArray[j]=w2:=by
      have:=(List.getElem?_eq_some_iff.mp hw2).2
      simpa using this
    rw [q1,q2]
    exact den_rel I n d1 X.A.in1 _ _ _ _ ((hs.2 ds rfl).2 d1 (List.mem_of_getElem? g1)) b1 b2 rw1 rw2 (by first | (simp only [Around.in1]; omega) | omega)
end L2
set_option Elab.async false
set_option linter.all false
set_option maxRecDepth 100000
set_option maxHeartbeats 4000000
namespace ZZ
open PySem
open Sem (wp)
section
variable {prog:Program} {w:World} {A:Around} {E:Value→Shared→Prop} {s:Shared}
end
end ZZ
namespace L2
open PySem PySem.Spec PyProof.Rows
end L2
set_option Elab.async false
set_option linter.all false
set_option maxRecDepth 100000
set_option maxHeartbeats 4000000
namespace L2
open PySem PySem.Spec PyProof.Rows
end L2
set_option Elab.async false
set_option linter.all false
set_option maxRecDepth 100000
set_option maxHeartbeats 4000000
namespace L2
open PySem PySem.Spec PyProof.Rows
end L2
set_option Elab.async false
set_option linter.all false
set_option maxRecDepth 100000
set_option maxHeartbeats 1000000
namespace SO
open PySem PySem.W PyProof.Rows
variable {O:KeyOrd} {key:Nat→O.α} {N:Nat}
def KN (key:Nat→O.α) (p:Array Nat) (i:Nat):O.α:=key (p.getD i 0)
def SortedN (key:Nat→O.α) (p:Array Nat) (k:Nat):Prop:=∀ i j,i≤j→j < k→O.kle (KN key p i) (KN key p j)
def InN (N:Nat) (p:Array Nat):Prop:=p.toList.Perm (List.range N)
theorem InN.size {p:Array Nat} (h:InN N p):p.size=N:=by simpa using h.length_eq
theorem InN.lt {p:Array Nat} (h:InN N p) {i:Nat} (hi:i < N):p.getD i 0 < N:=by
  have hs:i < p.size:=by rw [h.size]; exact hi
  have e:p.getD i 0=p[i]:=by simp [Array.getD,hs]
  rw [e]
  exact List.mem_range.mp (h.mem_iff.mp (by simp))
theorem InN.of {p q:Array Nat} (h:InN N p) (g:q.Perm p):InN N q:=(Array.perm_iff_toList_perm.mp g).trans h
section
variable {cmp:Nat→Nat→(Bool→Shared→Prop)→Shared→Prop} {s:Shared}
def Cmp (key:Nat→O.α) (N:Nat) (cmp:Nat→Nat→(Bool→Shared→Prop)→Shared→Prop) (s:Shared):Prop :=
  ∀ (i j:Nat) (C:Bool→Shared→Prop),i < N→j < N→C (O.blt (key i) (key j)) s→cmp i j C s
theorem ask {α:Type} {p:Array Nat} {i j:Nat} {k:Bool→KasT α} {G:α→Shared→Prop} (hc:Cmp key N cmp s) (hp:InN N p) (hi:i < N) (hj:j < N)
    (h:(k (O.blt (KN key p i) (KN key p j))).kasWp cmp G s):(KasT.ask (p.getD i 0) (p.getD j 0) k).kasWp cmp G s :=
  hc _ _ _ (hp.lt hi) (hp.lt hj) h
theorem place {p:Array Nat} {k:Nat} {G:Nat→Shared→Prop} (hc:Cmp key N cmp s) (hp:InN N p) (hk:k < N) (hs:SortedN key p k):∀ (f l r:Nat),l≤r→r≤k→r - l≤f →
    (∀ i,i < l→O.kle (KN key p i) (KN key p k))→(∀ i,r≤i→i < k→O.klt (KN key p k) (KN key p i)) →
    (∀ l,l≤k→(∀ i,i < l→O.kle (KN key p i) (KN key p k))→(∀ i,l≤i→i < k→O.klt (KN key p k) (KN key p i))→G l s)→(kas_place p k f l r).kasWp cmp G s
  | 0,l,r,hlr,hrk,hf,hlo,hhi,h=>by
    have e:l=r:=by omega
    subst e
    exact h l hrk hlo hhi
  | f+1,l,r,hlr,hrk,hf,hlo,hhi,h=>by
    unfold kas_place
    by_cases hge:l ≥ r
    · rw [if_pos hge]
      have e:l=r:=by omega
      subst e
      exact h l hrk hlo hhi
    · rw [if_neg hge]
      refine ask hc hp hk (by omega) ?_
      cases hl:O.blt (KN key p k) (KN key p ((l+r) / 2)) with
      | true =>
        rw [if_pos rfl]
        exact place hc hp hk hs f l ((l+r) / 2) (by omega) (by omega) (by omega) hlo (fun i a b=>KeyOrd.klt_of_klt_of_kle hl (hs _ _ a b)) h
      | false =>
        rw [if_neg (by simp)]
        exact place hc hp hk hs f ((l+r) / 2+1) r (by omega) (by omega) (by omega) (fun i a=>KeyOrd.kle_trans (hs i ((l+r) / 2) (by omega) (by omega)) hl) hhi h
end
section
variable {prog:Program} {w:World} {A:Around} {E:Value→Shared→Prop} {s:Shared}
def Keeps (h h':Heap):Prop:=∀ b o,h.get? b=some o→h'.get? b=some o
end
end SO
set_option Elab.async false
set_option linter.all false
set_option maxRecDepth 100000
set_option maxHeartbeats 4000000
namespace PySem.SeqAt
open AutoSeq1 (wpAny_loadPart')
open MeetsSeq MeetsSeq2 MeetsSeq3 SeqRoads2
def LtAt (A:Around) (s:Shared) (y x:Value) (b:Bool):Prop :=
  ∀ (prog:Program) (w:World) (E:Value→Shared→Prop) (Q:Value→Shared→Prop),Q (.bool b) s→wpAny (model prog w) A (richCompare .Lt y x) Q E s
def lexR (e f:Nat→Bool) (fin:Bool):List Nat→Bool
  | []=>fin
  | i :: r=>if e i=true then lexR e f fin r else f i
theorem tuple_ltAt (l b:Addr) (items items2:Array Value) (n n2:Nat) (dd dd2:Option Addr) (sl sl2:Array (Option Value)) (e f:Nat→Bool) :
    Meets (Builtin.«tuple.__lt__» ⟨[.ref l,.ref b],[]⟩)
      (fun A R s=>s.heap.get? l=some { cls:=.type "tuple",dict:=dd,data:=.seq items n,slots:=sl }∧s.heap.get? b=some { cls:=.type "tuple",dict:=dd2,data:=.seq items2 n2,slots:=sl2 } ∧
        (∀ j (h1:j < items.size) (h2:j < items2.size),EqAt A.in1 s items[j] items2[j] (e j))∧(∀ j (h1:j < items.size) (h2:j < items2.size),e j=false→LtAt A.in1 s items[j] items2[j] (f j)) ∧
        R (.ok (.ret (.bool (lexR e f (decide (items.size < items2.size)) (List.range (min items.size items2.size)))))) s) :=
  .of_wp fun prog w A R s h=>by
    obtain ⟨hp,g,d,tk,os⟩:=s; obtain ⟨hl,hb,he,hf,h⟩:=h
    have f2:=AutoSeq1.sub_tuple_tuple
    have hZ:(items.toList.zip items2.toList).length=min items.size items2.size:=by simp
    wp_walk using wpAny_loadPart' hl,wpAny_loadPart' hb,wpAny_forIn_list _ (fun rest b s'=>b.1=none∧s'=⟨hp,g,d,tk,os⟩∧∃ i,rest=(items.toList.zip items2.toList).drop i ∧
      R (.ok (.ret (.bool (lexR e f (decide (items.size < items2.size)) ((List.range (min items.size items2.size)).drop i))))) ⟨hp,g,d,tk,os⟩) _
    case turn =>
      rintro ⟨y,x⟩ rest b s' ⟨hb',rfl,i,hz,hR⟩
      have hlt:i < (items.toList.zip items2.toList).length:=by
        rcases Nat.lt_or_ge i (items.toList.zip items2.toList).length with h' | h'
        · exact h'
        · rw [List.drop_of_length_le h'] at hz; cases hz
      have hm:i < min items.size items2.size:=hZ ▸ hlt
      have h1:i < items.size:=Nat.lt_of_lt_of_le hm (Nat.min_le_left _ _)
      have h2:i < items2.size:=Nat.lt_of_lt_of_le hm (Nat.min_le_right _ _)
      rw [List.drop_eq_getElem_cons hlt] at hz
      injection hz with hyx hrest
      have hy:y=items[i]:=by have:=congrArg Prod.fst hyx; simpa using this
      have hx:x=items2[i]:=by have:=congrArg Prod.snd hyx; simpa using this
      subst hy hx
      have hd:(List.range (min items.size items2.size)).drop i=i :: (List.range (min items.size items2.size)).drop (i+1):=by simp [List.drop_eq_getElem_cons,hm]
      rw [hd] at hR
      refine wpAny_bind (he i h1 h2 prog w _ _ ?_)
      cases hy:e i with
      | true =>
        have hR':R (.ok (.ret (.bool (lexR e f (decide (items.size < items2.size)) ((List.range (min items.size items2.size)).drop (i+1)))))) ⟨hp,g,d,tk,os⟩:=by
          have:lexR e f (decide (items.size < items2.size)) (i :: (List.range (min items.size items2.size)).drop (i+1))=lexR e f (decide (items.size < items2.size)) ((List.range (min items.size items2.size)).drop (i+1)):=by
            show (if e i=true then _ else _)=_
            rw [if_pos hy]
          rw [this] at hR
          exact hR
        wp_walk
        exact ⟨rfl,rfl,i+1,hrest,hR'⟩
      | false =>
        have hR':R (.ok (.ret (.bool (f i)))) ⟨hp,g,d,tk,os⟩:=by
          have:lexR e f (decide (items.size < items2.size)) (i :: (List.range (min items.size items2.size)).drop (i+1))=f i:=by
            show (if e i=true then _ else _)=_
            rw [if_neg (by simp [hy])]
          rw [this] at hR
          exact hR
        simp only [Bool.not_false,if_true]
        refine wpAny_bind (wpAny_rule (wpAny_bind (hf i h1 h2 hy prog w _ _ ?_)))
        wp_walk
        exact ⟨_,rfl,hR'⟩
    case fin =>
      rintro ⟨b1,b2⟩ s' ⟨hb',rfl,i,hz,hR⟩
      simp only at hb'
      subst hb'
      have hge:min items.size items2.size≤i:=by
        rcases Nat.lt_or_ge i (items.toList.zip items2.toList).length with h' | h'
        · rw [List.drop_eq_getElem_cons h'] at hz; cases hz
        · exact hZ ▸ h'
      rw [List.drop_of_length_le (by simpa using hge)] at hR
      wp_walk
      exact ⟨_,rfl,by simpa [Builtin.Tuple.tupleCompareSizes,lexR] using hR⟩
    case h =>
      exact ⟨rfl,rfl,0,rfl,by simpa using h⟩
section
variable {A:Around} {s:Shared}
theorem LtAt.tuples {l b:Addr} {items items2:Array Value} {e f:Nat→Bool} (hl:s.heap.IsTuple l items) (hb:s.heap.IsTuple b items2) (hu:A.units < cLine)
    (he:∀ j (h1:j < items.size) (h2:j < items2.size),EqAt A.in1 s items[j] items2[j] (e j)) (hf:∀ j (h1:j < items.size) (h2:j < items2.size),e j=false→LtAt A.in1 s items[j] items2[j] (f j)) :
    LtAt A s (.ref l) (.ref b) (lexR e f (decide (items.size < items2.size)) (List.range (min items.size items2.size))):=fun prog w E Q h=>by
  obtain ⟨⟨cls,dd,data,sl⟩,ho,hc,n,hd⟩:=id hl
  obtain ⟨⟨cls2,dd2,data2,sl2⟩,ho2,hc2,n2,hd2⟩:=id hb
  simp only at hc hd hc2 hd2
  subst hc hd hc2 hd2
  exact richCompare_meets_room (op:=.Lt) ⟨_,ho,rfl⟩ ⟨_,ho2,rfl⟩ F.slot_tuple_lt F.entry_tuple_lt (F.args_tuple_lt_2 _ _) (tuple_ltAt l b items items2 n n2 dd dd2 sl sl2 e f)
    ⟨ho,ho2,he,hf,show Value.bool (lexR e f (decide (items.size < items2.size)) (List.range (min items.size items2.size)))≠Value.notImplemented∧Q (.bool (lexR e f (decide (items.size < items2.size)) (List.range (min items.size items2.size)))) s from ⟨(fun x=>nomatch x),h⟩⟩ hu
end
end PySem.SeqAt
set_option Elab.async false
set_option linter.all false
set_option maxRecDepth 100000
set_option maxHeartbeats 400000
namespace L2
open PySem PySem.Spec PyProof.Rows
def rankD:D→Nat
  | .non=>0 | .bl _=>1 | .int _=>2 | .str _=>3 | .tup _=>4
open Classical in
noncomputable def eqD (a b:D):Bool:=decide (a=b)
theorem eqD_eq {a b:D} (h:eqD a b=true):a=b:=@of_decide_eq_true _ (Classical.propDecidable _) h
theorem eqD_self (d:D):eqD d d=true:=@decide_eq_true _ (Classical.propDecidable _) rfl
theorem eqD_iff {a b:D}:eqD a b=true↔a=b:=⟨eqD_eq,fun h=>by subst h; exact eqD_self _⟩
mutual
noncomputable def dlt:D→D→Bool
  | .bl a,.bl b=>!a && b
  | .int a,.int b=>decide (a < b)
  | .str x,.str y=>decide (x.cps.toList < y.cps.toList)
  | .tup xs,.tup ys=>dltL xs ys
  | x,y=>decide (rankD x < rankD y)
noncomputable def dltL:List D→List D→Bool
  | [],[]=>false
  | [],_ :: _=>true
  | _ :: _,[]=>false
  | x :: xs,y :: ys=>if eqD x y=true then dltL xs ys else dlt x y
end
end L2
set_option Elab.async false
set_option linter.all false
set_option maxRecDepth 100000
set_option maxHeartbeats 200000
namespace L2
open PySem PySem.Spec PyProof.Rows
mutual
def Sim:D→D→Prop
  | .int _,.int _=>True
  | .str _,.str _=>True
  | .tup xs,.tup ys=>SimL xs ys
  | _,_=>False
def SimL:List D→List D→Prop
  | x :: xs,y :: ys=>Sim x y∧SimL xs ys
  | _,_=>True
end
theorem SimL.at_:∀ {xs ys:List D} {i:Nat} {x y:D},SimL xs ys→xs[i]?=some x→ys[i]?=some y→Sim x y
  | [],_,i,x,y,_,hx,_=>by simp at hx
  | _ :: _,[],i,x,y,_,_,hy=>by simp at hy
  | a :: xs,b :: ys,0,x,y,h,hx,hy=>by
    simp at hx hy
    subst hx; subst hy
    rw [SimL] at h
    exact h.1
  | a :: xs,b :: ys,i+1,x,y,h,hx,hy=>by
    rw [SimL] at h
    exact SimL.at_ (i:=i) h.2 (by simpa using hx) (by simpa using hy)
mutual
theorem Den.det {H:Hp}:∀ {d e:D} {v:V},Den H v d→Den H v e→d=e
  | .non,e,v,h1,h2=>by
    have:v=.non:=h1
    subst this
    cases e with
    | non=>rfl
    | tup ds=>obtain ⟨p,vs,z,_⟩:=den_tup h2; cases z
    | bl b=>exact absurd (show V.non=.bl b from h2) (fun z=>nomatch z)
    | int b=>exact absurd (show V.non=.int b from h2) (fun z=>nomatch z)
    | str b=>exact absurd (show V.non=.str b from h2) (fun z=>nomatch z)
  | .bl b,e,v,h1,h2=>by
    have:v=.bl b:=h1
    subst this
    cases e with
    | bl c=>have z:V.bl b=.bl c:=h2; cases z; rfl
    | tup ds=>obtain ⟨p,vs,z,_⟩:=den_tup h2; cases z
    | non=>exact absurd (show V.bl b=.non from h2) (fun z=>nomatch z)
    | int c=>exact absurd (show V.bl b=.int c from h2) (fun z=>nomatch z)
    | str c=>exact absurd (show V.bl b=.str c from h2) (fun z=>nomatch z)
  | .int b,e,v,h1,h2=>by
    have:v=.int b:=h1
    subst this
    cases e with
    | int c=>have z:V.int b=.int c:=h2; cases z; rfl
    | tup ds=>obtain ⟨p,vs,z,_⟩:=den_tup h2; cases z
    | non=>exact absurd (show V.int b=.non from h2) (fun z=>nomatch z)
    | bl c=>exact absurd (show V.int b=.bl c from h2) (fun z=>nomatch z)
    | str c=>exact absurd (show V.int b=.str c from h2) (fun z=>nomatch z)
  | .str b,e,v,h1,h2=>by
    have:v=.str b:=h1
    subst this
    cases e with
    | str c=>have z:V.str b=.str c:=h2; cases z; rfl
    | tup ds=>obtain ⟨p,vs,z,_⟩:=den_tup h2; cases z
    | non=>exact absurd (show V.str b=.non from h2) (fun z=>nomatch z)
    | bl c=>exact absurd (show V.str b=.bl c from h2) (fun z=>nomatch z)
    | int c=>exact absurd (show V.str b=.int c from h2) (fun z=>nomatch z)
  | .tup ds,e,v,h1,h2=>by
    obtain ⟨p,vs,rfl,hp,hd⟩:=den_tup h1
    cases e with
    | tup es =>
      obtain ⟨q,us,z,hq,he⟩:=den_tup h2
      cases z
      rw [hp] at hq
      cases hq
      rw [DenL.det hd he]
    | non=>exact absurd (show V.ref p=.non from h2) (fun z=>nomatch z)
    | bl c=>exact absurd (show V.ref p=.bl c from h2) (fun z=>nomatch z)
    | int c=>exact absurd (show V.ref p=.int c from h2) (fun z=>nomatch z)
    | str c=>exact absurd (show V.ref p=.str c from h2) (fun z=>nomatch z)
theorem DenL.det {H:Hp}:∀ {ds es:List D} {vs:List V},DenL H vs ds→DenL H vs es→ds=es
  | [],[],_,_,_=>rfl
  | [],_ :: _,[],_,h=>h.elim
  | [],_ :: _,_ :: _,h,_=>h.elim
  | _ :: _,[],[],h,_=>h.elim
  | _ :: _,[],_ :: _,_,h=>h.elim
  | _ :: _,_ :: _,[],h,_=>h.elim
  | d :: ds,e :: es,v :: vs,h1,h2=>by rw [Den.det h1.1 h2.1,DenL.det h1.2 h2.2]
end
open SeqAt (lexR)
theorem lexR_map (e f:Nat→Bool) (fin:Bool):∀ r:List Nat,lexR e f fin (r.map Nat.succ)=lexR (fun i=>e (i+1)) (fun i=>f (i+1)) fin r
  | []=>rfl
  | i :: r=>by
    show (if e (i+1)=true then lexR e f fin (r.map Nat.succ) else f (i+1))=_
    rw [lexR_map e f fin r]
    rfl
theorem lexR_dlt:∀ xs ys:List D,lexR (fun j=>eqD (xs.getD j .non) (ys.getD j .non)) (fun j=>dlt (xs.getD j .non) (ys.getD j .non)) (decide (xs.length < ys.length)) (List.range (min xs.length ys.length))=dltL xs ys
  | [],[]=>by simp [lexR,dltL]
  | [],y :: ys=>by simp [lexR,dltL]
  | x :: xs,[]=>by simp [lexR,dltL]
  | x :: xs,y :: ys=>by
    have ih:=lexR_dlt xs ys
    rw [dltL,show min (x :: xs).length (y :: ys).length=min xs.length ys.length+1 by simp only [List.length_cons]; omega,List.range_succ_eq_map]
    show (if eqD x y=true then lexR _ _ _ ((List.range (min xs.length ys.length)).map Nat.succ) else dlt x y)=_
    rw [lexR_map]
    have ed:decide ((x :: xs).length < (y :: ys).length)=decide (xs.length < ys.length):=by simp
    rw [ed]
    cases he:eqD x y with
    | true =>
      rw [if_pos rfl,if_pos rfl]
      simpa using ih
    | false =>
      rw [if_neg (by simp),if_neg (by simp)]
theorem allR_eq:∀ xs ys:List D,((List.range (min xs.length ys.length)).all (fun j=>eqD (xs.getD j .non) (ys.getD j .non)) && xs.length == ys.length)=eqD (.tup xs) (.tup ys):=by
  intro xs ys
  rw [Bool.eq_iff_iff,eqD_iff]
  constructor
  · intro h
    simp only [Bool.and_eq_true,List.all_eq_true,List.mem_range,beq_iff_eq] at h
    obtain ⟨h1,h2⟩:=h
    congr 1
    apply List.ext_getElem h2
    intro i a b
    have:=eqD_iff.mp (h1 i (by omega))
    simpa [List.getD_eq_getElem?_getD,a,b] using this
  · intro h
    injection h with h
    subst h
    simp [eqD_iff]
end L2
set_option Elab.async false
set_option linter.all false
set_option maxRecDepth 100000
set_option maxHeartbeats 200000
namespace L2
open PySem PySem.Spec PyProof.Rows
section
variable {X:Cx} {pins:List (Addr × Obj)} {σ:St} {H:Hp} {s:Shared}
theorem tup_keep {h h':Heap} {a:Addr} {its:Array Value} (k:SO.Keeps h h') (t:h.IsTuple a its):h'.IsTuple a its:=by
  obtain ⟨o,e,r⟩:=t
  exact ⟨o,k _ _ e,r⟩
theorem eq_intD {s':Shared} {i j:Int} {A:Around} {x y:V} {v u:Value} (hx:Den H x (.int i)) (hy:Den H y (.int j)) (rx:RelV x v) (ry:RelV y u):SeqAt.EqAt A s' v u (eqD (.int i) (.int j)):=by
  have e1:x=.int i:=hx
  have e2:y=.int j:=hy
  subst e1
  subst e2
  obtain ⟨t,rfl⟩:=rx
  obtain ⟨t',rfl⟩:=ry
  have key:=SeqAt.EqAt.int_int (A:=A) (s:=s') i t j t'
  have e:(i == j)=eqD (.int i) (.int j):=by
    rw [Bool.eq_iff_iff,eqD_iff,beq_iff_eq]
    exact ⟨fun z=>by rw [z],fun z=>by injection z⟩
  rw [← e]
  exact key
theorem eq_strD {s':Shared} {i j:Str} {A:Around} {x y:V} {v u:Value} (hx:Den H x (.str i)) (hy:Den H y (.str j)) (rx:RelV x v) (ry:RelV y u):SeqAt.EqAt A s' v u (eqD (.str i) (.str j)):=by
  have e1:x=.str i:=hx
  have e2:y=.str j:=hy
  subst e1
  subst e2
  obtain ⟨t,rfl⟩:=rx
  obtain ⟨t',rfl⟩:=ry
  have key:=SeqAt.EqAt.str_str (A:=A) (s:=s') i t j t'
  have e:(i == j)=eqD (.str i) (.str j):=by
    rw [Bool.eq_iff_iff,eqD_iff,beq_iff_eq]
    exact ⟨fun z=>by rw [z],fun z=>by injection z⟩
  rw [← e]
  exact key
theorem lt_intD {s':Shared} {i j:Int} {A:Around} {x y:V} {v u:Value} (hx:Den H x (.int i)) (hy:Den H y (.int j)) (rx:RelV x v) (ry:RelV y u):SeqAt.LtAt A s' v u (dlt (.int i) (.int j)):=by
  have e1:x=.int i:=hx
  have e2:y=.int j:=hy
  subst e1
  subst e2
  obtain ⟨t,rfl⟩:=rx
  obtain ⟨t',rfl⟩:=ry
  intro prog w E Q h
  rw [dlt] at h
  exact PyProof.Rows.lt_int h
theorem lt_strD {s':Shared} {i j:Str} {A:Around} {x y:V} {v u:Value} (hx:Den H x (.str i)) (hy:Den H y (.str j)) (rx:RelV x v) (ry:RelV y u):SeqAt.LtAt A s' v u (dlt (.str i) (.str j)):=by
  have e1:x=.str i:=hx
  have e2:y=.str j:=hy
  subst e1
  subst e2
  obtain ⟨t,rfl⟩:=rx
  obtain ⟨t',rfl⟩:=ry
  intro prog w E Q h
  rw [dlt] at h
  exact PyProof.Rows.lt_str h
def CmpD (H:Hp) (s':Shared) (n:Nat):Prop :=
  ∀ (d e:D) (A:Around) (x y:V) (v u:Value),Shal n d→Shal n e→Sim d e→Den H x d→Den H y e→RelV x v→RelV y u→A.units+n < cLine→SeqAt.EqAt A s' v u (eqD d e)∧SeqAt.LtAt A s' v u (dlt d e)
theorem cmpD_tup (I:Inv X pins σ H s) {s':Shared} (kp:SO.Keeps s.heap s'.heap) {n:Nat} (ih:CmpD H s' n) {ds es:List D} {A:Around} {x y:V} {v u:Value} (hs:Shal (n+1) (.tup ds)) (hs2:Shal (n+1) (.tup es))
    (hm:Sim (.tup ds) (.tup es)) (hx:Den H x (.tup ds)) (hy:Den H y (.tup es)) (rx:RelV x v) (ry:RelV y u) (hu:A.units+(n+1) < cLine):SeqAt.EqAt A s' v u (eqD (.tup ds) (.tup es))∧SeqAt.LtAt A s' v u (dlt (.tup ds) (.tup es)):=by
  obtain ⟨a,vs,rfl,ha,hda⟩:=den_tup hx
  obtain ⟨b,us,rfl,hb,hdb⟩:=den_tup hy
  cases rx
  cases ry
  obtain ⟨its,r1,p1,_⟩:=I.tuple (SqT.of (K:=X.K) ha)
  obtain ⟨its2,r2,p2,_⟩:=I.tuple (SqT.of (K:=X.K) hb)
  have l1:=hda.len
  have l2:=hdb.len
  have m1:=r1.length
  have m2:=r2.length
  rw [Sim] at hm
  have both:∀ j (h1:j < its.toArray.size) (h2:j < its2.toArray.size),SeqAt.EqAt A.in1 s' its.toArray[j] its2.toArray[j] (eqD (ds.getD j .non) (es.getD j .non))∧SeqAt.LtAt A.in1 s' its.toArray[j] its2.toArray[j] (dlt (ds.getD j .non) (es.getD j .non)):=by
    intro j h1 h2
    have hj1:j < vs.length:=by simpa [m1] using h1
    have hj2:j < us.length:=by simpa [m2] using h2
    obtain ⟨d1,g1,b1⟩:=hda.at_ (List.getElem?_eq_getElem hj1)
    obtain ⟨d2,g2,b2⟩:=hdb.at_ (List.getElem?_eq_getElem hj2)
    obtain ⟨w1,hw1,rw1⟩:=r1.get (List.getElem?_eq_getElem hj1)
    obtain ⟨w2,hw2,rw2⟩:=r2.get (List.getElem?_eq_getElem hj2)
    have q1:its.toArray[j]=w1:=by
      have:=(List.getElem?_eq_some_iff.mp hw1).2
      simpa using this
    have q2:its2.toArray[j]=w2:=by
      have:=(List.getElem?_eq_some_iff.mp hw2).2
      simpa using this
    rw [q1,q2]
    rw [List.getD_eq_getElem?_getD,List.getD_eq_getElem?_getD,g1,g2]
    have s1:=(hs.2 ds rfl).2 d1 (List.mem_of_getElem? g1)
    have s2:=(hs2.2 es rfl).2 d2 (List.mem_of_getElem? g2)
    exact ih d1 d2 A.in1 _ _ _ _ s1 s2 (hm.at_ g1 g2) b1 b2 rw1 rw2 (by first | (simp only [Around.in1]; omega) | omega)
  constructor
  · by_cases hab:a=b
    · subst hab
      have e:=Den.det hx hy
      rw [eqD_iff.mpr e]
      exact SeqAt.EqAt.same _
    · have key:=SeqAt.EqAt.of_refs hab (SeqAt.RcAt.tuples (A:=A) (s:=s') (e:=fun j=>eqD (ds.getD j .non) (es.getD j .non)) (tup_keep kp p1) (tup_keep kp p2) (by omega) fun j h1 h2=>(both j h1 h2).1)
      have q:=allR_eq ds es
      rw [show ds.length=its.toArray.size by simp; omega,show es.length=its2.toArray.size by simp; omega] at q
      rw [q] at key
      exact key
  · have key:=SeqAt.LtAt.tuples (A:=A) (s:=s') (e:=fun j=>eqD (ds.getD j .non) (es.getD j .non)) (f:=fun j=>dlt (ds.getD j .non) (es.getD j .non)) (tup_keep kp p1) (tup_keep kp p2) (by omega)
      (fun j h1 h2=>(both j h1 h2).1) (fun j h1 h2 _=>(both j h1 h2).2)
    have q:=lexR_dlt ds es
    rw [show ds.length=its.toArray.size by simp; omega,show es.length=its2.toArray.size by simp; omega] at q
    rw [q] at key
    rw [dlt]
    exact key
theorem sim_cases {P:D→D→Prop} (hi:∀ i j,P (.int i) (.int j)) (hs:∀ i j,P (.str i) (.str j)) (ht:∀ xs ys,SimL xs ys→P (.tup xs) (.tup ys)):∀ {d e:D},Sim d e→P d e:=by
  intro d e h
  cases d <;> cases e <;> first | exact hi _ _ | exact hs _ _ | (rw [Sim] at h; exact ht _ _ h) | (simp [Sim] at h)
theorem cmpD (I:Inv X pins σ H s) {s':Shared} (kp:SO.Keeps s.heap s'.heap):∀ n:Nat,CmpD H s' n:=by
  intro n
  induction n with
  | zero =>
    intro d e A x y v u hs hs2 hm
    revert hs hs2
    refine sim_cases (P:=fun d e=>Shal 0 d→Shal 0 e→Den H x d→Den H y e→RelV x v→RelV y u→A.units+0 < cLine→SeqAt.EqAt A s' v u (eqD d e)∧SeqAt.LtAt A s' v u (dlt d e)) ?_ ?_ ?_ hm
    · exact fun i j _ _ hx hy rx ry _=>⟨eq_intD hx hy rx ry,lt_intD hx hy rx ry⟩
    · exact fun i j _ _ hx hy rx ry _=>⟨eq_strD hx hy rx ry,lt_strD hx hy rx ry⟩
    · exact fun xs ys _ hs _ _ _ _ _ _=>absurd rfl (hs.2 xs)
  | succ n ih =>
    intro d e A x y v u hs hs2 hm
    revert hs hs2
    refine sim_cases (P:=fun d e=>Shal (n+1) d→Shal (n+1) e→Den H x d→Den H y e→RelV x v→RelV y u→A.units+(n+1) < cLine→SeqAt.EqAt A s' v u (eqD d e)∧SeqAt.LtAt A s' v u (dlt d e)) ?_ ?_ ?_ hm
    · exact fun i j _ _ hx hy rx ry _=>⟨eq_intD hx hy rx ry,lt_intD hx hy rx ry⟩
    · exact fun i j _ _ hx hy rx ry _=>⟨eq_strD hx hy rx ry,lt_strD hx hy rx ry⟩
    · exact fun xs ys hm hs hs2 hx hy rx ry hu=>cmpD_tup I kp ih hs hs2 (by rw [Sim]; exact hm) hx hy rx ry hu
end
end L2
set_option Elab.async false
set_option linter.all false
set_option maxRecDepth 100000
set_option maxHeartbeats 400000
namespace SO
open PySem PySem.W PyProof.Rows
section
variable {prog:Program} {w:World} {A:Around} {E:Value→Shared→Prop} {s:Shared}
end
end SO
namespace L2
open PySem PySem.Spec PyProof.Rows
open SeqAt (lexR)
section
variable {X:Cx} {pins:List (Addr × Obj)} {σ:St} {H:Hp} {s:Shared}
theorem at3 {vs:List V} {ds:List D} {its:List Value} (hd:DenL H vs ds) (r:Vals vs its) {i:Nat} (hi:i < ds.length):∃ (x:V) (v:Value),vs[i]?=some x∧its[i]?=some v∧its.getD i Value.none=v∧Den H x (ds.getD i .non)∧RelV x v∧ds.getD i .non∈ds:=by
  have hv:i < vs.length:=by rw [hd.len]; exact hi
  obtain ⟨d,g,b⟩:=hd.at_ (List.getElem?_eq_getElem hv)
  obtain ⟨u,hu,ru⟩:=r.get (List.getElem?_eq_getElem hv)
  have e:ds.getD i .non=d:=by rw [List.getD_eq_getElem?_getD,g]; rfl
  rw [e]
  exact ⟨_,u,List.getElem?_eq_getElem hv,hu,by rw [List.getD_eq_getElem?_getD,hu]; rfl,b,ru,List.mem_of_getElem? g⟩
end
end L2
set_option Elab.async false
set_option linter.all false
set_option maxRecDepth 100000
set_option maxHeartbeats 400000
namespace PySem.SeqAt
open AutoSeq1 (wpAny_loadPart')
open MeetsSeq MeetsSeq2 MeetsSeq3 SeqRoads2
end PySem.SeqAt
namespace L2
open PySem PySem.Spec PyProof.Rows
end L2
set_option Elab.async false
set_option linter.all false
set_option maxRecDepth 100000
set_option maxHeartbeats 400000
namespace L2
open PySem PySem.Spec PyProof.Rows
theorem foldl_repN (t:List Nat):∀ (k:Nat) (acc:List Nat),List.foldl (fun x1 x2=>x1++x2) acc.toArray (List.replicate k t.toArray)=(acc++(List.replicate k t).flatten).toArray
  | 0,acc=>by simp
  | k+1,acc=>by
    have e:acc.toArray++t.toArray=(acc++t).toArray:=by simp
    have e2:(acc++t)++(List.replicate k t).flatten=acc++(List.replicate (k+1) t).flatten:=by
      rw [List.replicate_succ,List.flatten_cons,List.append_assoc]
    rw [← e2,← foldl_repN t k (acc++t),← e,List.replicate_succ,List.foldl_cons]
theorem rep_nil (n:Nat):(List.replicate n ([]:List Nat)).flatten=[]:=by
  induction n with
  | zero=>rfl
  | succ n ih=>rw [List.replicate_succ,List.flatten_cons,ih]; rfl
theorem mul_rep (t:List Nat) (n:Nat):Txt.mul ⟨t.toArray⟩ (n:Int)=⟨(List.replicate n t).flatten.toArray⟩:=by
  unfold Txt.mul
  by_cases h1:(n:Int) < 1
  · rw [if_pos h1]
    have:n=0:=by omega
    subst this
    rfl
  · rw [if_neg h1]
    by_cases h2:(((n:Int) == 1 || (⟨t.toArray⟩:Str).length == 0)=true)
    · rw [if_pos h2]
      rw [Bool.or_eq_true,beq_iff_eq,beq_iff_eq] at h2
      rcases h2 with z | z
      · have:n=1:=by omega
        subst this
        simp
      · have z':t=[]:=by
          have:t.toArray.size=0:=z
          simpa using this
        subst z'
        rw [rep_nil]
    · rw [if_neg h2]
      have:=foldl_repN t n []
      simp only [List.nil_append] at this
      rw [← this]
      simp
def rMulS:R2:=fun x y H Q=>∃ (t:List Nat) (n:Nat),x=.str ⟨t.toArray⟩∧y=.int (n:Nat)∧n≤100000∧t.length * n≤100000∧Q (.str ⟨(List.replicate n t).flatten.toArray⟩) H
theorem op_mulS {X:Cx}:OpR X (binaryOp .Mult) rMulS:=by
  intro pins s σ H x y v u Q I rx ry h
  obtain ⟨t,n,rfl,rfl,hn,hl,q⟩:=h
  obtain ⟨t',rfl⟩:=rx
  obtain ⟨t'',rfl⟩:=ry
  have hlen:(⟨t.toArray⟩:Str).length=t.length:=by show t.toArray.size=_; simp
  refine SB.mul ⟨?_,fun h1 _=>?_,fun h1 _=>?_⟩ fun t3 k=>?_
  · simp only [Bool.or_eq_false_iff,decide_eq_false_iff_not]
    omega
  · rw [hlen]
    intro z
    have h0:0 < n:=by omega
    have z2:((2:Int) ^ 63 - 1) / (n:Int) < (t.length:Int):=z
    rw [Int.ediv_lt_iff_lt_mul (by omega)] at z2
    have e:((t.length:Int) * (n:Int))=((t.length * n:Nat):Int):=by push_cast; rfl
    rw [e] at z2
    omega
  · rw [hlen,Int.toNat_natCast]
    unfold Builtin.Str.tooLong
    exact decide_eq_false (by have:=sizeLine_big; omega)
  · rw [mul_rep]
    exact ⟨.str _,H,I.tok _,⟨_,rfl⟩,q⟩
end L2
set_option Elab.async false
set_option linter.all false
set_option maxRecDepth 100000
namespace L2
open PySem
structure Row70 (xs:List (List Nat)):Prop where
  len:xs.length=70
  nd:xs.Nodup
  nm:∀ x∈xs,isNm ⟨x.toArray⟩=true
end L2
set_option Elab.async false
set_option linter.all false
set_option maxRecDepth 100000
set_option maxHeartbeats 400000
namespace L2
open PySem PySem.Spec PyProof.Rows
end L2
set_option Elab.async false
set_option linter.all false
set_option maxRecDepth 100000
set_option maxHeartbeats 400000
namespace L2
open PySem PySem.Spec PyProof.Rows
end L2
set_option Elab.async false
set_option linter.all false
set_option maxRecDepth 100000
set_option maxHeartbeats 4000000
namespace L2
open PySem PySem.Spec PyProof.Rows
end L2
set_option linter.all false
namespace MN
open PySem
abbrev kwD (d:Value):List (Str × Value):=[(Str.ofString "default",d)]
theorem args_d (a v:Value):argsOk "min" ⟨[a],kwD v⟩:=by
  unfold argsOk kwD
  kernel_rfl
section
variable {prog:Program} {w:World} {A:Around} {R:Result→Shared→Prop} {It:Addr} {fp wr:List Addr} {n:Nat} {Pr:Nat→Value→Prop} {Sx:Nat→Heap→Prop}
theorem nm:(toString "min" ++ toString ".loop" : String) = "min.loop":=by decide
theorem on (W:Walks prog w A.in1 It fp wr n Pr Sx) (bt:Nat→Nat→Bool) (cm:CmpOf prog w A.in1 .Lt Pr bt) (B:Addr) (nB:B ∉ fp) (d:Value) :
    ∀ (k j:Nat) (s:Shared) (best:Value) (c:Nat),n - (j+1)=k→j+1≤n→Sx (j+1) s.heap→Pr (argBest bt j) best →
    s.heap.get? B=some { cls:=.type "list",dict:=none,data:=.seq #[best,best] c,slots:=#[] } →
    (∀ v h' tk,Pr (argBest bt (n - 1)) v→(∀ b o,b ∉ wr→b≠B→s.heap.get? b=some o→h'.get? b=some o)→R (.ok (.ret v)) { s with heap:=h',toks:=tk }) →
    codeAny (model prog w) A (.builtin "min.loop" ⟨[.ref It,.none,.ref B],kwD d⟩) R s:=by
  have nW:B ∉ wr:=fun z=>nB (W.sub _ z)
  intro k
  induction k with
  | zero =>
    intro j s best c ek ej st pb eB fin
    have en:j+1=n:=by omega
    refine codeAny_builtin PySem.F.entry_min_loop ?_
    rw [Around.under_plainId (PySem.F.plain_min_loop) _]
    show wpAny _ A.in1 (seqItems? (.ref B) >>= _) _ _ s
    refine wpAny_bind (wpAny_seqItems eB rfl ?_)
    show wpAny _ A.in1 (tryCatch (pyNext (.ref It)) _ >>= _) _ _ s
    refine wpAny_bind (wpAny_tryCatch (W.done s _ _ (en ▸ st) fun h' tk kp=>?_))
    have eB':=kp B _ nW eB
    show wpAny _ A.in1 (updateSeq B (fun _=>#[]) >>= _) _ _ _
    refine wpAny_bind ?_
    refine wpAny_updateSeq eB' rfl (wpAny_bind (wpAny_letGo (wpAny_pure ?_)))
    exact fin best _ tk (by rw [← en]; exact pb) fun b o nb nS e=>(Heap.get?_update_other _ _ (Ne.symm nS)).trans (kp b o nb e)
  | succ k ih =>
    intro j s best c ek ej st pb eB fin
    have lt:j+1 < n:=by omega
    refine codeAny_builtin PySem.F.entry_min_loop ?_
    rw [Around.under_plainId (PySem.F.plain_min_loop) _]
    show wpAny _ A.in1 (seqItems? (.ref B) >>= _) _ _ s
    refine wpAny_bind (wpAny_seqItems eB rfl ?_)
    show wpAny _ A.in1 (tryCatch (pyNext (.ref It)) _ >>= _) _ _ s
    refine wpAny_bind (wpAny_tryCatch (W.item (j+1) s _ _ lt st fun v h' tk pv st' kp=>?_))
    have eB':=kp B _ nW eB
    show wpAny _ A.in1 (tryCatch (holding [v,v] (richCompare .Lt v best >>= _)) _ >>= _) _ _ _
    refine wpAny_bind (wpAny_tryCatch (wpAny_holding (wpAny_bind (cm (j+1) (argBest bt j) v best _ _ _ pv pb ?_))))
    refine wpAny_bind (wpAny_holding (wpAny_truthy_bool ?_))
    refine wpAny_bind (wpAny_letGo (wpAny_pure ?_))
    cases eb:bt (j+1) (argBest bt j) with
    | true =>
      rw [if_pos rfl]
      refine wpAny_bind ?_
      refine wpAny_updateSeq eB' rfl (wpAny_bind (wpAny_letGo ?_))
      rw [nm]
      refine wpAny_pure ⟨plainId_quiet PySem.F.plain_min_loop _,ih (j+1) _ v _ (by omega) lt (W.frame _ _ _ st' fun b bf o e=>?_) (by simp only [argBest,eb,if_true]; exact pv) (Heap.get?_update_self _ eB' rfl) fun v' h2 tk2 pv' kp2=>?_⟩
      · exact (Heap.get?_update_other _ _ (fun z:B=b=>nB (by rw [z]; exact bf))).trans e
      · exact fin v' h2 tk2 pv' fun b o nb nS e=>kp2 b o nb nS ((Heap.get?_update_other _ _ (Ne.symm nS)).trans (kp b o nb e))
    | false =>
      rw [if_neg Bool.false_ne_true]
      refine wpAny_bind (wpAny_letGo ?_)
      rw [nm]
      refine wpAny_pure ⟨plainId_quiet PySem.F.plain_min_loop _,ih (j+1) _ best c (by omega) lt st' (by simp only [argBest,eb,Bool.false_eq_true,if_false]; exact pb) eB' fun v' h2 tk2 pv' kp2=>?_⟩
      exact fin v' h2 tk2 pv' fun b o nb nS e=>kp2 b o nb nS (kp b o nb e)
theorem begin_ (W:Walks prog w A.in1 It fp wr n Pr Sx) (bt:Nat→Nat→Bool) (cm:CmpOf prog w A.in1 .Lt Pr bt) (B:Addr) (nB:B ∉ fp) (d:Value) {s:Shared} {c:Nat} (st:Sx 0 s.heap)
    (eB:s.heap.get? B=some { cls:=.type "list",dict:=none,data:=.seq #[] c,slots:=#[] })
    (none_:n=0→∀ h' tk,(∀ b o,b ∉ wr→s.heap.get? b=some o→h'.get? b=some o)→R (.ok (.ret d)) { s with heap:=h',toks:=tk })
    (fin:0 < n→∀ v h' tk,Pr (argBest bt (n - 1)) v→(∀ b o,b ∉ wr→b≠B→s.heap.get? b=some o→h'.get? b=some o)→R (.ok (.ret v)) { s with heap:=h',toks:=tk }) :
    codeAny (model prog w) A (.builtin "min.loop" ⟨[.ref It,.none,.ref B],kwD d⟩) R s:=by
  have nW:B ∉ wr:=fun z=>nB (W.sub _ z)
  refine codeAny_builtin PySem.F.entry_min_loop ?_
  rw [Around.under_plainId (PySem.F.plain_min_loop) _]
  show wpAny _ A.in1 (seqItems? (.ref B) >>= _) _ _ s
  refine wpAny_bind (wpAny_seqItems eB rfl ?_)
  show wpAny _ A.in1 (tryCatch (pyNext (.ref It)) _ >>= _) _ _ s
  by_cases h0:n=0
  · refine wpAny_bind (wpAny_tryCatch (W.done s _ _ (h0 ▸ st) fun h' tk kp=>?_))
    show wpAny _ A.in1 (rule _ >>= _) _ _ _
    exact wpAny_bind (wpAny_rule (wpAny_pure (none_ h0 h' tk kp)))
  · have hn:0 < n:=by omega
    refine wpAny_bind (wpAny_tryCatch (W.item 0 s _ _ hn st fun v h' tk pv st' kp=>?_))
    have eB':=kp B _ nW eB
    show wpAny _ A.in1 (updateSeq B (fun _=>#[v,v]) >>= _) _ _ _
    refine wpAny_bind ?_
    refine wpAny_updateSeq eB' rfl ?_
    rw [nm]
    refine wpAny_pure ⟨plainId_quiet PySem.F.plain_min_loop _,on W bt cm B nB d _ 0 _ v _ rfl hn (W.frame _ _ _ st' fun b bf o e=>?_) pv (Heap.get?_update_self _ eB' rfl) fun v' h2 tk2 pv' kp2=>?_⟩
    · exact (Heap.get?_update_other _ _ (fun z:B=b=>nB (by rw [z]; exact bf))).trans e
    · exact fin hn v' h2 tk2 pv' fun b o nb nS e=>kp2 b o nb nS ((Heap.get?_update_other _ _ (Ne.symm nS)).trans (kp b o nb e))
end
section
variable {prog:Program} {w:World} {A:Around} {E:Value→Shared→Prop} {s:Shared}
theorem tree_kw {id:String} {b:Builtin} {args:List Value} {kw:List (Str × Value)} {Q:Value→Shared→Prop} (h1:builtinKind id=none) (h2:plainId id=true) (h3:entryFor table id=some b) (h4:argsOk id ⟨args,kw⟩)
    (h:wpAny (model prog w) A.in1 (b ⟨args,kw⟩) (fun fin s'=>match fin with
      | .done f=>(match (Except.ok f:Result) with | .ok (.ret v)=>Q v s' | .ok _=>False | .error e=>E e s')
      | .again c'=>c'.quiet=true∧codeAny (model prog w) A c' (fun r s'=>match r with | .ok (.ret v)=>Q v s' | .ok _=>False | .error e=>E e s') s') E s):wpAny (model prog w) A (call (.builtin id) args kw) Q E s:=by
  refine wpAny_call (codeAny_call_builtin h2 h3 ?_)
  simp only [checkBuiltinCall,h1]
  cases e:Manifest.signature? id with
  | none=>exact wpAny_pure h
  | some sg =>
    have h4':Bind.checkArgs id sg ⟨args,kw⟩=pure ():=by simpa only [argsOk,e] using h4
    simp only [h4']
    exact wpAny_pure h
theorem call {x d:Value} {Q:Value→Shared→Prop}
    (h:wpAny (model prog w) A.in1 (pyIter x) (fun it s2=>∃ I fp wr n Pr Sx bt,it=.ref I∧Walks prog w A.in1 I fp wr n Pr Sx∧Sx 0 s2.heap∧(∀ b∈fp,b < s2.heap.objs.size)∧CmpOf prog w A.in1 .Lt Pr bt ∧
      (n=0→∀ h' tk,(∀ b o,b ∉ wr→s2.heap.get? b=some o→h'.get? b=some o)→Q d { s2 with heap:=h',toks:=tk }) ∧
      (0 < n→∀ v h' tk,Pr (argBest bt (n - 1)) v→(∀ b o,b ∉ wr→s2.heap.get? b=some o→h'.get? b=some o)→Q v { s2 with heap:=h',toks:=tk })) E s) :
    wpAny (model prog w) A (PySem.call (.builtin "min") [x] (kwD d)) Q E s:=by
  refine tree_kw PySem.F.kind_min PySem.F.plain_min PySem.F.entry_min (args_d _ _) ?_
  show wpAny _ A.in1 (Builtin.Builtins.bindParams "min" ["key", "default"] 0 ⟨[],kwD d⟩ >>= _) _ _ s
  refine wpAny_bind (wpAny_of_eq (show Builtin.Builtins.bindParams "min" ["key", "default"] 0 ⟨[],kwD d⟩=pure [none,some d] from rfl) ?_)
  refine wpAny_bind (wpAny_pure ?_)
  refine wpAny_bind (wpAny_mono h (fun it s2 h2=>?_) fun _ _ e=>e)
  obtain ⟨I,fp,wr,n,Pr,Sx,bt,rfl,W,st,hf,cm,q0,q1⟩:=h2
  refine wpAny_bind (wpAny_newObj_type ?_)
  have nB:s2.heap.objs.size ∉ fp:=fun z=>Nat.lt_irrefl _ (hf _ z)
  rw [nm]
  refine wpAny_pure ⟨plainId_quiet PySem.F.plain_min_loop _,begin_ W bt cm s2.heap.objs.size nB d (W.frame _ _ _ st fun b _ o e=>Heap.get?_push_of_some _ e) (Heap.get?_push_size _ rfl) (fun z h' tk kp=>?_) fun z v h' tk pv kp=>?_⟩
  · exact q0 z h' tk fun b o nb e=>kp b o nb (Heap.get?_push_of_some _ e)
  · exact q1 z v h' tk pv fun b o nb e=>kp b o nb (Nat.ne_of_lt (Heap.lt_size e)) (Heap.get?_push_of_some _ e)
end
end MN
set_option Elab.async false
set_option linter.all false
set_option maxRecDepth 100000
set_option maxHeartbeats 4000000
namespace L2
open PySem PySem.Spec PyProof.Rows
theorem allInts_of {ns:List Int} {its:List Value} (r:Vals (ns.map V.int) its):∃ xs:Array (Int × Tok),its.toArray=intItems xs∧xs.toList.map (·.1)=ns:=by
  induction ns generalizing its with
  | nil =>
    cases r
    exact ⟨#[],by simp [intItems],rfl⟩
  | cons n ns ih =>
    cases r with
    | cons r1 r2 =>
      obtain ⟨t,rfl⟩:=r1
      obtain ⟨xs,e1,e2⟩:=ih r2
      refine ⟨((n,t) :: xs.toList).toArray,?_,?_⟩
      · have e3:_=(intItems xs).toList:=congrArg Array.toList e1
        simp only [intItems,Array.toList_map] at e3
        simp [intItems,e3]
      · simp [e2]
def rNeT0 (K:PySem.W.Frag):R2:=fun x y H Q=>∃ (l b:Addr) (xs:List V),x=.ref l∧y=.ref b∧SqT K H l xs∧SqT K H b []∧Q (.bl (!xs.isEmpty)) H
theorem op_neT0 {X:Cx} (hu:X.A.units < cLine):OpR X (compareOp .NotEq) (rNeT0 X.K):=by
  intro pins s σ H x y v u Q I rx ry h
  obtain ⟨l,b,xs,rfl,rfl,hl,hb,q⟩:=h
  cases rx
  cases ry
  obtain ⟨its,r1,p1,_⟩:=I.tuple hl
  obtain ⟨its2,r2,p2,_⟩:=I.tuple hb
  cases r2
  have m1:=r1.length
  have key:=SeqAt.RcNeAt.tuples (A:=X.A) (s:=s) (e:=fun _=>true) p1 p2 hu fun j h1 h2=>absurd h2 (by simp)
  have e:(!((List.range (min its.toArray.size ([]:List Value).toArray.size)).all (fun _=>true) && its.toArray.size == ([]:List Value).toArray.size))=!xs.isEmpty:=by
    cases xs with
    | nil =>
      cases r1
      rfl
    | cons a xs =>
      cases its with
      | nil=>simp at m1
      | cons=>simp
  rw [e] at key
  exact key X.prog X.w _ _ ⟨.bl _,H,I,rfl,q⟩
end L2
set_option Elab.async false
set_option linter.all false
set_option maxRecDepth 100000
set_option maxHeartbeats 4000000
namespace L2
open PySem PySem.Spec PyProof.Rows
end L2
set_option Elab.async false
set_option linter.all false
set_option maxRecDepth 100000
set_option maxHeartbeats 4000000
namespace L2
open PySem PySem.Spec PyProof.Rows
end L2
set_option Elab.async false
set_option linter.all false
set_option maxRecDepth 100000
set_option maxHeartbeats 4000000
namespace L2
open PySem PySem.Spec PyProof.Rows
open AutoSeq1 (wpAny_loadPart')
section
variable {prog:Program} {w:World} {A:Around} {E:Value→Shared→Prop} {s:Shared}
theorem collect_range {Q:List Value→Shared→Prop} {r:Addr} {a b c:Int} {t u v:Tok} {n:Nat} (hh:A.handled=none) (hr:IsRange s.heap r a b c t u v) (hsmall:Builtin.Range.small a b c=true)
    (hn:Builtin.Range.rangeSize a b c=n) (hlen:n≤2 ^ 24)
    (hQ:∀ h' tk acc,(∀ b o,s.heap.get? b=some o→h'.get? b=some o)→ItemsOf (fun i v=>∃ t,v=.int (a+i * c) t) acc n→Q acc.toList { s with heap:=h',toks:=tk }) :
    wpAny (model prog w) A (collect (.ref r)) Q E s:=by
  unfold collect
  refine wpAny_bind (wpAny_runValue (codeAny_builtin F.entry_proto_collect ?_))
  rw [Around.under_plainId F.plain_proto_collect _]
  show wpAny _ A.in1 (newList [] >>= fun l=>again (.builtin "list.__iadd__" ⟨[l,.ref r],[]⟩)) _ _ s
  refine wpAny_bind (wpAny_newObj_type ?_)
  refine wpAny_pure ⟨plainId_quiet F.plain_list_iadd _,codeAny_builtin F.entry_list_iadd ?_⟩
  rw [Around.under_plainId F.plain_list_iadd _]
  show wpAny _ A.in1 (Builtin.List.listExtendWith (.ref s.heap.objs.size) (.ref r) (.ref s.heap.objs.size)) _ _ _
  have hS:(s.heap.push { cls:=.type "list",data:=.seq ([]:List Value).toArray }).get? s.heap.objs.size=some { cls:=.type "list",data:=.seq #[] 0 }:=Heap.get?_push_size _ rfl
  have fin':∀ (h':Heap) (tk:Nat) (acc:Array Value) (c':Nat),(∀ b o,b≠s.heap.objs.size→(s.heap.push { cls:=.type "list",data:=.seq ([]:List Value).toArray }).get? b=some o→h'.get? b=some o) →
      h'.get? s.heap.objs.size=some { cls:=.type "list",dict:=none,data:=.seq acc c',slots:=#[] }→ItemsOf (fun i v=>∃ t,v=.int (a+i * c) t) acc n →
      wpAny (model prog w) A (match Value.ref s.heap.objs.size with
      | Value.ref a=>do
        match (← load a).data with
          | Data.seq xs _=>pure xs.toList
          | _=>unsupported "internal:collect"
      | _=>unsupported "internal:collect") Q E { s with heap:=h',toks:=tk }:=by
    intro h' tk acc c' hk hS' hacc
    show wpAny _ A (load s.heap.objs.size >>= _) _ _ _
    refine wpAny_bind (wpAny_load hS' ?_)
    refine wpAny_pure ?_
    exact hQ h' tk acc (fun b o e=>hk b o (Nat.ne_of_lt (Heap.lt_size e)) (Heap.get?_push_of_some _ e)) hacc
  refine wpAny_mono (wpAny_extend_range (A:=A) (R:=fun rr s'=>rr=.ok (.ret (.ref s.heap.objs.size))∧∃ (h':Heap) (tk:Nat) (acc:Array Value) (c':Nat),s'={ s with heap:=h',toks:=tk }∧(∀ b o,b≠s.heap.objs.size→(s.heap.push { cls:=.type "list",data:=.seq ([]:List Value).toArray }).get? b=some o→h'.get? b=some o) ∧
      h'.get? s.heap.objs.size=some { cls:=.type "list",dict:=none,data:=.seq acc c',slots:=#[] }∧ItemsOf (fun i v=>∃ t,v=.int (a+i * c) t) acc n)
    (s:={ s with heap:=s.heap.push { cls:=.type "list",data:=.seq ([]:List Value).toArray } }) hh (Heap.get?_push_of_some _ hr) hsmall hn hlen _ _ 0 hS (fun h' tk acc c' h1 h2 h3=>⟨rfl,h',tk,acc,c',rfl,h1,h2,h3⟩)) (fun fin s' h=>?_) (fun e s' h=>?_)
  · cases fin with
    | done f =>
      obtain ⟨e,h',tk,acc,c',rfl,h1,h2,h3⟩:=h
      cases e
      exact fin' h' tk acc c' h1 h2 h3
    | again c'=>exact ⟨h.1,codeAny_mono h.2 fun r s'' hr=>by obtain ⟨rfl,h',tk,acc,c',rfl,h1,h2,h3⟩:=hr; exact fin' h' tk acc c' h1 h2 h3⟩
  · exact absurd h.1 (by simp)
end
theorem meets_tuple_new_range (r:Addr) (a b c:Int) (t u v:Tok) (n:Nat) (hsmall:Builtin.Range.small a b c=true) (hn:Builtin.Range.rangeSize a b c=n) (hlen:n≤1000000) :
    Meets (Builtin.«tuple.__new__» ⟨[.type "tuple",.ref r],[]⟩)
      (fun A R s=>A.handled=none∧IsRange s.heap r a b c t u v∧∀ (h':Heap) (tk:Nat) (acc:Array Value),(∀ b o,s.heap.get? b=some o→h'.get? b=some o)→ItemsOf (fun i v=>∃ t,v=.int (a+i * c) t) acc n →
        R (.ok (.ret (.ref h'.objs.size))) { s with heap:=h'.push { cls:=.type "tuple",data:=.seq acc },toks:=tk }) :=
  .of_wp fun prog w A R s h=>by
    obtain ⟨hh,hr,h⟩:=h
    have hsub:=sub_tuple_self
    have hinit:=init_tuple_lookup
    have hmh:=madeHere_tuple
    have hT:s.TypeIs (.ref r) "range":=⟨_,hr,rfl⟩
    have hh1:A.in1.handled=none:=hh
    have hl24:n≤2 ^ 24:=by omega
    wp_walk using wpAny_typeOf hT,collect_range (t:=t) (u:=u) (v:=v) hh1 hr hsmall hn hl24
    intro h' tk acc hk hacc
    show wpAny _ _ (Builtin.Tuple.tupleExact acc.toList.toArray >>= fun v=>ret v) _ _ _
    unfold Builtin.Tuple.tupleExact
    refine wpAny_bind (wpAny_newObj_type ?_ (show acc.toList.toArray.size≤sizeLine by simp only [Array.toArray_toList]; rw [hacc.1]; exact Nat.le_trans hlen sizeLine_big))
    refine wpAny_pure ⟨_,rfl,?_⟩
    have e:acc.toList.toArray=acc:=by simp
    rw [e]
    exact h h' tk acc hk hacc
section
variable {prog:Program} {w:World} {A:Around} {E:Value→Shared→Prop} {s:Shared}
theorem call_tuple_range {Q:Value→Shared→Prop} {r:Addr} {a b c:Int} {t u v:Tok} {n:Nat} (hh:A.handled=none) (hr:IsRange s.heap r a b c t u v) (hsmall:Builtin.Range.small a b c=true)
    (hn:Builtin.Range.rangeSize a b c=n) (hlen:n≤1000000)
    (h:∀ (h':Heap) (tk:Nat) (acc:Array Value),(∀ b o,s.heap.get? b=some o→h'.get? b=some o)→ItemsOf (fun i v=>∃ t,v=.int (a+i * c) t) acc n→Q (.ref h'.objs.size) { s with heap:=h'.push { cls:=.type "tuple",data:=.seq acc },toks:=tk }) :
    wpAny (model prog w) A (call (.type "tuple") [.ref r]) Q E s:=by
  exact callType_new F.called_tuple (by decide) (F.typeCall_tuple_1 _) (F.newCall_tuple_1 _) (fun obj=>F.args_object_init_2 obj _) F.entry_tuple_new
    (meets_tuple_new_range r a b c t u v n hsmall hn hlen) ⟨hh,hr,fun h' tk acc hk hacc=>⟨⟨_,Heap.get?_push_size _ rfl,rfl⟩,h h' tk acc hk hacc⟩⟩
end
def rngL (i:Int) (n:Nat):List V:=(List.range n).map fun k=>V.int (i+(k:Nat))
theorem rngL_length (i:Int) (n:Nat):(rngL i n).length=n:=by unfold rngL; simp
theorem vals_ix:∀ {xs:List V} {us:List Value},xs.length=us.length→(∀ (i:Nat) x u,xs[i]?=some x→us[i]?=some u→RelV x u)→Vals xs us
  | [],[],_,_=>.nil
  | x :: xs,u :: us,h,k=>.cons (k 0 x u rfl rfl) (vals_ix (by simpa using h) fun i a b p q=>k (i+1) a b (by simpa using p) (by simpa using q))
  | [],_ :: _,h,_=>by simp at h
  | _ :: _,[],h,_=>by simp at h
theorem vals_rng {i:Int} {n:Nat} {acc:Array Value} (h:ItemsOf (fun k v=>∃ t,v=.int (i+k * 1) t) acc n):Vals (rngL i n) acc.toList:=by
  refine vals_ix (by rw [rngL_length,Array.length_toList,h.1]) fun j x u hx hu=>?_
  have hj:j < n:=by
    have:=(List.getElem?_eq_some_iff.mp hx).1
    rwa [rngL_length] at this
  obtain ⟨t,rfl⟩:=h.2 j u (by simpa using hu)
  have e:x=V.int (i+(j:Nat)):=by
    unfold rngL at hx
    rw [List.getElem?_map,List.getElem?_range hj] at hx
    exact (Option.some.inj hx).symm
  subst e
  rw [Int.mul_one]
  exact ⟨t,rfl⟩
section
variable {X:Cx}
theorem tup_range {pins:List (Addr × Obj)} {σ:St} {H:Hp} {s:Shared} {Q:VK} {lo hi:Int} {t u v:Tok} {tk:Nat} (hc:X.calm=true) (I:Inv X pins σ H s) (h1:-(2 ^ 62)≤lo) (h2:lo < 2 ^ 62) (h3:-(2 ^ 62)≤hi) (h4:hi < 2 ^ 62) (h5:(hi - lo).toNat≤1000000)
    (q:∀ p,H p=none→Q (.ref p) (upd H p (.tup (rngL lo (hi - lo).toNat)))):wpAny (model X.prog X.w) X.A (call (.type "tuple") [.ref s.heap.objs.size]) (EP X pins σ Q) X.xe { s with heap:=s.heap.push { cls:=.type "range",data:=.fields #[.int lo t,.int hi u,.int 1 v] },toks:=tk }:=by
  refine call_tuple_range (n:=(hi - lo).toNat) (I.ok.hd hc) (IsRange.new ..) (small_one h1 h2 h3 h4) (by rw [rangeSize_one]; split <;> omega) h5 fun h' tk' acc hk hacc=>?_
  have I1:Inv X pins σ H { s with heap:=h',toks:=tk' }:=I.kept fun b o e=>hk b o (Heap.get?_push_of_some _ e)
  have vv:=vals_rng hacc
  have I2:Inv X pins σ (upd H h'.objs.size (.tup (rngL lo (hi - lo).toNat))) { s with heap:=h'.push { cls:=.type "tuple",data:=.seq acc },toks:=tk' } :=
    I1.laid (t':=tk') (fun b o e=>Heap.get?_push_of_some _ e) (Nat.le_refl _) (show ObjOk X.prog X.w _ _ _ (.tup _) from ⟨by rw [rngL_length]; exact Nat.le_trans h5 sizeLine_big,acc.toList,vv,by have:=IsTup.new h' acc; simpa using this⟩)
  exact ⟨.ref h'.objs.size,_,I2,rfl,q _ (I1.hok.fresh (Nat.le_refl _))⟩
def tTupR (ta:TA):TE:=fun σ H Q=>ta σ H fun vs H1=>∃ i j:Int,vs=[.int i,.int j]∧(-(2 ^ 62)≤i∧i < 2 ^ 62∧-(2 ^ 62)≤j∧j < 2 ^ 62)∧(j - i).toNat≤1000000∧∀ p,H1 p=none→Q (.ref p) (upd H1 p (.tup (rngL i (j - i).toNat)))
theorem pe_tupR {a b:Expr} {ta:TA} {p p2 pos pos2:Pos} (hc:X.calm=true) (hgT:Gl X "tuple") (hmT:X.mg "tuple" = none) (hg:Gl X "range") (hm:X.mg "range" = none) (ha:PA X [a,b] ta)
    (hs0:starEach [.Call (.Name "range" p2) [a,b] [] pos2] X.env=(false,eval (.Call (.Name "range" p2) [a,b] [] pos2) X.env) :: starEach [] X.env:=by rfl)
    (hs:starEach [a,b] X.env=[(false,eval a X.env),(false,eval b X.env)]:=by rfl) (hs2:starEach [b] X.env=[(false,eval b X.env)]:=by rfl) :
    PE X (.Call (.Name "tuple" p) [.Call (.Name "range" p2) [a,b] [] pos2] [] pos) (tTupR ta):=by
  intro pins s σ H Q I h
  refine wpAny_Call_Name_kw (ld_blt I hgT hmT boot_tuple ?_ (by decide) (by decide))
  refine PyProof.Rows.callWith_type1 ?_ hs0 rfl
  rw [hs0]
  show wpAny _ _ (spliced ((false,eval _ X.env) :: backTo pos (starEach [] X.env))) _ _ s
  refine Calls.spliced_cons ?_
  refine Call_ (ld_blt I hg hm boot_range (PyProof.Rows.callWith_type1 (thn (ha pos2 pins s σ H _ I h) fun us s1 ⟨vs,H1,I1,r1,q1⟩=>?_) (by rw [hs,hs2]) (by rw [hs2]; rfl)))
  obtain ⟨i,j,e,⟨q1,q2,q3,q4⟩,q5,q⟩:=q1
  subst e
  cases r1 with
  | cons r rr =>
    cases rr with
    | cons r' rr =>
      cases rr
      obtain ⟨t,rfl⟩:=r
      obtain ⟨t',rfl⟩:=r'
      refine call_range_2 ?_
      refine Calls.spliced_nil ?_
      exact tup_range hc I1 q1 q2 q3 q4 q5 q
end
def rNeDt:R2:=fun x y H Q=>∃ (ds es:List D) (n:Nat),Den H x (.tup ds)∧Den H y (.tup es)∧Shal (n+1) (.tup ds)∧Shal (n+1) (.tup es)∧n≤50∧SimL ds es∧Q (.bl (!eqD (.tup ds) (.tup es))) H
theorem op_neDt {X:Cx} (hu:X.A.units+64 < cLine):OpR X (compareOp .NotEq) rNeDt:=by
  intro pins s σ H x y v u Q I rx ry h
  obtain ⟨ds,es,n,hx,hy,hs1,hs2,hn,hm,q⟩:=h
  have ih:=cmpD I (s':=s) (fun b o z=>z) n
  obtain ⟨a,vs,rfl,ha,hda⟩:=den_tup hx
  obtain ⟨b,us,rfl,hb,hdb⟩:=den_tup hy
  cases rx
  cases ry
  obtain ⟨its,r1,p1,_⟩:=I.tuple (SqT.of (K:=X.K) ha)
  obtain ⟨its2,r2,p2,_⟩:=I.tuple (SqT.of (K:=X.K) hb)
  have l1:=hda.len
  have l2:=hdb.len
  have m1:=r1.length
  have m2:=r2.length
  have e0:=allR_eq ds es
  rw [show ds.length=its.toArray.size by simp; omega,show es.length=its2.toArray.size by simp; omega] at e0
  have key:=SeqAt.RcNeAt.tuples (A:=X.A) (s:=s) (e:=fun j=>eqD (ds.getD j .non) (es.getD j .non)) p1 p2 (by omega) fun j h1 h2=>?_
  · rw [e0] at key
    exact key X.prog X.w _ _ ⟨.bl _,H,I,rfl,q⟩
  · have hj1:j < vs.length:=by simpa [m1] using h1
    have hj2:j < us.length:=by simpa [m2] using h2
    obtain ⟨d1,g1,b1⟩:=hda.at_ (List.getElem?_eq_getElem hj1)
    obtain ⟨d2,g2,b2⟩:=hdb.at_ (List.getElem?_eq_getElem hj2)
    obtain ⟨w1,hw1,rw1⟩:=r1.get (List.getElem?_eq_getElem hj1)
    obtain ⟨w2,hw2,rw2⟩:=r2.get (List.getElem?_eq_getElem hj2)
    have q1:its.toArray[j]=w1:=by
      have:=(List.getElem?_eq_some_iff.mp hw1).2
      simpa using this
    have q2:its2.toArray[j]=w2:=by
      have:=(List.getElem?_eq_some_iff.mp hw2).2
      simpa using this
    rw [q1,q2]
    rw [List.getD_eq_getElem?_getD,List.getD_eq_getElem?_getD,g1,g2]
    have s1:=(hs1.2 ds rfl).2 d1 (List.mem_of_getElem? g1)
    have s2:=(hs2.2 es rfl).2 d2 (List.mem_of_getElem? g2)
    exact (ih d1 d2 X.A.in1 _ _ _ _ s1 s2 (hm.at_ g1 g2) b1 b2 rw1 rw2 (by first | (simp only [Around.in1]; omega) | omega)).1
def rSumE (K:PySem.W.Frag):List V→Hp→VK→Prop:=fun xs H Q=>∃ (l:Addr) (ns:List Int),xs=[.ref l]∧SqL K H l (ns.map V.int)∧Q (.int ns.sum) H
theorem call_sumE {X:Cx} (hc:X.calm=true):CallR X (.builtin "sum") (rSumE X.K):=by
  intro pins s σ H xs us Q I r h
  obtain ⟨l,ns,rfl,hq,q⟩:=h
  obtain ⟨u,rfl,r1⟩:=vals1 r
  cases r1
  obtain ⟨its,rv,pl,hz⟩:=I.list hq
  obtain ⟨xs,e1,e2⟩:=allInts_of rv
  refine sum_intListG (I.ok.hd hc) (xs:=xs) (by rw [← e1]; exact pl.isList) fun h' tk t' hk=>?_
  rw [preSum_eq,List.take_of_length_le (by simp),e2]
  exact ⟨.int _,H,I.kept (t':=tk) hk,⟨_,rfl⟩,q⟩
end L2
set_option Elab.async false
set_option linter.all false
set_option maxRecDepth 100000
set_option maxHeartbeats 4000000
namespace ZTL
open PySem
open ZT (Apart tup_item tup_end)
open Sem (wp)
section
variable {prog:Program} {w:World} {A:Around} {E:Value→Shared→Prop} {s:Shared}
theorem zip_item {z TI TO i1 i2 t1 t2:Addr} {n1 n2:Nat} {us vs:Array Value} {x y a b:Value} {Q:Value→Shared→Prop} (D:Apart z TI TO i1 i2 t1 t2) (zz:IsZip s.heap z TI TO .none) (zi:IsPair s.heap TI (.ref i1) (.ref i2)) (zo:IsPair s.heap TO a b)
    (r1:s.heap.IsTupleIter i1 t1 n1) (r2:s.heap.IsListIter i2 t2 n2) (u1:s.heap.IsTuple t1 us) (u2:s.heap.IsList t2 vs) (x1:us[n1]?=some x) (x2:vs[n2]?=some y)
    (k:∀ g,IsZip g z TI TO (rawInt s.heap.objs.size)→IsPair g TO x y→g.IsTupleIter i1 t1 (n1+1)→g.IsListIter i2 t2 (n2+1)→IsPair g s.heap.objs.size x y→g.objs.size=s.heap.objs.size+1 →
      (∀ c o,c≠z→c≠TO→c≠i1→c≠i2→s.heap.get? c=some o→g.get? c=some o)→Q (.ref s.heap.objs.size) { s with heap:=g }) :
    wpAny (model prog w) A (Builtin.«zip.__next__» ⟨[.ref z],[]⟩) (fun fin s'=>∃ v,fin=.done (.ret v)∧Q v s') E s:=by
  show wpAny _ _ (field (.ref z) 2 >>= _) _ _ _
  refine wpAny_bind (wpAny_field zz rfl (x:=.bool false) rfl ?_)
  show wpAny _ _ (field (.ref z) 3 >>= _) _ _ _
  refine wpAny_bind (wpAny_field zz rfl (x:=.ref TI) rfl ?_)
  refine wpAny_bind (wpAny_seqItems zi rfl ?_)
  show wpAny _ _ (Builtin.SmallTypes.ownedTupleIsFree (.ref z) >>= _) _ _ _
  refine wpAny_bind ?_
  unfold Builtin.SmallTypes.ownedTupleIsFree
  refine wpAny_bind (wpAny_field zz rfl (x:=.none) rfl (wpAny_pure ?_))
  simp only [if_true]
  refine wpAny_bind (wpAny_rule ?_)
  refine wpAny_bind (wpAny_field zz rfl (x:=.ref TO) rfl ?_)
  refine wpAny_bind (wpAny_setField_rec zz (by simp) fun g1 zg1 s1=>?_)
  replace zg1:IsZip g1 z TI TO .ellipsis:=zg1
  refine wpAny_bind ?_
  simp only [List.zipIdx_cons,List.zipIdx_nil,List.forIn_cons,List.forIn_nil]
  refine wpAny_bind (wpAny_bind (wpAny_onRaise ?_))
  show wpAny _ _ (Builtin.SmallTypes.nextOf (.ref i1) >>= _) _ _ _
  refine wpAny_bind (tup_item (r1.extBut s1.extBut D.a3) (u1.extBut s1.extBut D.c1) x1 fun g2 rg2 s2=>wpAny_pure ?_)
  have zo2:IsPair g2 TO a b:=s2.extBut _ _ D.b4 (s1.extBut _ _ D.a2 zo)
  refine wpAny_bind (wpAny_seqItems zo2 rfl ?_)
  refine wpAny_bind (wpAny_updateSeq_pair zo2 fun g3 zo3 s3=>?_)
  replace zo3:IsPair g3 TO x b:=zo3
  refine wpAny_bind (wpAny_letGo (wpAny_pure ?_))
  refine wpAny_bind (wpAny_bind (wpAny_onRaise ?_))
  show wpAny _ _ (Builtin.SmallTypes.nextOf (.ref i2) >>= _) _ _ _
  refine wpAny_bind (wpAny_nextOf_list_item (((r2.extBut s1.extBut D.a4).extBut s2.extBut D.b6.symm).extBut s3.extBut D.b5.symm) (((u2.extBut s1.extBut D.d1).extBut s2.extBut D.d3).extBut s3.extBut D.d2) x2 fun g4 rg4 s4=>wpAny_pure ?_)
  have zo4:IsPair g4 TO x b:=s4.extBut _ _ D.b5 zo3
  refine wpAny_bind (wpAny_seqItems zo4 rfl ?_)
  refine wpAny_bind (wpAny_updateSeq_pair zo4 fun g5 zo5 s5=>?_)
  replace zo5:IsPair g5 TO x y:=zo5
  refine wpAny_bind (wpAny_letGo (wpAny_pure (wpAny_pure ?_)))
  refine wpAny_bind (wpAny_seqItems zo5 rfl ?_)
  refine wpAny_bind (wpAny_newTuple ?_)
  have sz:g5.objs.size=s.heap.objs.size:=by rw [s5.1,s4.1,s3.1,s2.1,s1.1]
  have zg5:IsZip g5 z TI TO .ellipsis:=s5.extBut _ _ D.a2.symm (s4.extBut _ _ D.a4.symm (s3.extBut _ _ D.a2.symm (s2.extBut _ _ D.a3.symm zg1)))
  have kk:∀ c o,c≠z→c≠TO→c≠i1→c≠i2→s.heap.get? c=some o→g5.get? c=some o:=fun c o e1 e2 e3 e4 e =>
    s5.extBut _ _ e2 (s4.extBut _ _ e4 (s3.extBut _ _ e2 (s2.extBut _ _ e3 (s1.extBut _ _ e1 e))))
  have rg5:g5.IsTupleIter i1 t1 (n1+1):=((rg2.extBut s3.extBut D.b4.symm).extBut s4.extBut D.b6).extBut s5.extBut D.b4.symm
  have qg5:g5.IsListIter i2 t2 (n2+1):=rg4.extBut s5.extBut D.b5.symm
  have lz:z < g5.objs.size:=Heap.lt_size zg5
  show wpAny _ _ (Builtin.SmallTypes.ownedTupleHandOut (.ref z) (.ref g5.objs.size) >>= _) _ _ _
  refine wpAny_bind ?_
  unfold Builtin.SmallTypes.ownedTupleHandOut
  have zg6:IsZip (g5.push { cls:=.type "tuple",data:=.seq #[x,y] }) z TI TO .ellipsis:=Heap.get?_push_of_some _ zg5
  refine wpAny_bind (wpAny_setField_rec zg6 (by simp) fun g7 zg7 s7=>?_)
  replace zg7:IsZip g7 z TI TO (rawInt g5.objs.size):=zg7
  refine wpAny_setField_rec zg7 (by simp) fun g8 zg8 s8=>?_
  replace zg8:IsZip g8 z TI TO (rawInt g5.objs.size):=zg8
  have up:∀ c o,c≠z→g5.get? c=some o→g8.get? c=some o:=fun c o e1 e=>s8.extBut _ _ e1 (s7.extBut _ _ e1 (Heap.get?_push_of_some _ e))
  have pg8:IsPair g8 g5.objs.size x y:=s8.extBut _ _ (Nat.ne_of_gt lz) (s7.extBut _ _ (Nat.ne_of_gt lz) (Heap.get?_push_size _ rfl))
  have sz8:g8.objs.size=g5.objs.size+1:=by rw [s8.1,s7.1,Heap.size_push]
  rw [sz] at zg8 pg8 sz8
  refine wpAny_pure ⟨_,rfl,?_⟩
  show Q (.ref g5.objs.size) _
  rw [sz]
  obtain ⟨o1,eo1,q1⟩:=rg5
  obtain ⟨o2,eo2,q2⟩:=qg5
  exact k g8 zg8 (up _ _ D.a2 zo5) ⟨o1,up _ _ D.a3 eo1,q1⟩ ⟨o2,up _ _ D.a4 eo2,q2⟩ pg8 sz8 fun c o e1 e2 e3 e4 e=>up c o e1 (kk c o e1 e2 e3 e4 e)
theorem next_item {z TI TO i1 i2 t1 t2:Addr} {n1 n2:Nat} {us vs:Array Value} {x y a b:Value} {Q:Option Value→Shared→Prop} (D:Apart z TI TO i1 i2 t1 t2) (zz:IsZip s.heap z TI TO .none) (zi:IsPair s.heap TI (.ref i1) (.ref i2)) (zo:IsPair s.heap TO a b)
    (r1:s.heap.IsTupleIter i1 t1 n1) (r2:s.heap.IsListIter i2 t2 n2) (u1:s.heap.IsTuple t1 us) (u2:s.heap.IsList t2 vs) (x1:us[n1]?=some x) (x2:vs[n2]?=some y)
    (k:∀ g,IsZip g z TI TO (rawInt s.heap.objs.size)→IsPair g TO x y→g.IsTupleIter i1 t1 (n1+1)→g.IsListIter i2 t2 (n2+1)→IsPair g s.heap.objs.size x y→g.objs.size=s.heap.objs.size+1 →
      (∀ c o,c≠z→c≠TO→c≠i1→c≠i2→s.heap.get? c=some o→g.get? c=some o)→Q (some (.ref s.heap.objs.size)) { s with heap:=g }) :
    wpAny (model prog w) A (pyNext (.ref z)) Q E s:=by
  have tz:s.TypeIs (.ref z) "zip":=⟨_,zz,rfl⟩
  unfold pyNext
  exact wpAny_bind (wpAny_attempt (wpAny_callSpecial?_slot (name:=Str.ofString "__next__") tz F.slot_zip_next (wpAny_call_entry F.slot_zip_next tz F.entry_zip_next
    (zip_item D zz zi zo r1 r2 u1 u2 x1 x2 fun g p1 p2 p3 p4 p5 p6 p7=>wpAny_pure (k g p1 p2 p3 p4 p5 p6 p7)) (F.args_zip_next_1 _))))
end
abbrev zh1 (h:Heap) (t1:Addr):Heap:=h.push { cls:=.type "tuple_iterator",data:=.fields #[.ref t1,.int 0 0] }
abbrev zh2 (h:Heap) (t1 t2:Addr):Heap:=(zh1 h t1).push { cls:=.type "list_iterator",data:=.fields #[.ref t2,.int 0 0] }
abbrev zh3 (h:Heap) (t1 t2:Addr):Heap:=(zh2 h t1 t2).push { cls:=.type "tuple",data:=.seq #[.ref h.objs.size,.ref (zh1 h t1).objs.size] }
abbrev zh4 (h:Heap) (t1 t2:Addr):Heap:=(zh3 h t1 t2).push { cls:=.type "tuple",data:=.seq #[.none,.none] }
abbrev zh5 (h:Heap) (t1 t2:Addr):Heap:=(zh4 h t1 t2).push { cls:=.type "zip",data:=.fields #[.none,.bool false,.bool false,.ref (zh2 h t1 t2).objs.size,.ref (zh3 h t1 t2).objs.size] }
theorem zip_new (t1 t2:Addr) (us vs:Array Value):Meets (Builtin.«zip.__new__» ⟨[.type "zip",.ref t1,.ref t2],[]⟩) (fun _ R s=>s.heap.IsTuple t1 us∧s.heap.IsList t2 vs ∧
      R (.ok (.ret (.ref (zh4 s.heap t1 t2).objs.size))) { s with heap:=zh5 s.heap t1 t2 }) :=
  .of_wp fun prog w A R s h=>by
    obtain ⟨hp,g,d,tk,os⟩:=s; obtain ⟨u1,u2,h⟩:=h
    have hsub:=sub_zip
    have v1:Heap.IsTuple (Shared.heap ⟨hp,g,d,tk,os⟩) t1 us:=u1
    have v2:Heap.IsList (Shared.heap ⟨zh1 hp t1,g,d,tk,os⟩) t2 vs:=Heap.IsList.push u2 _
    wp_walk using wpAny_pyIter_tuple v1,wpAny_pyIter_list v2
    exact ⟨_,rfl,h⟩
theorem call_zip {prog:Program} {w:World} {A:Around} {E:Value→Shared→Prop} {s:Shared} {t1 t2:Addr} {us vs:Array Value} {Q:Value→Shared→Prop} (u1:s.heap.IsTuple t1 us) (u2:s.heap.IsList t2 vs)
    (k:∀ g,IsZip g (s.heap.objs.size+4) (s.heap.objs.size+2) (s.heap.objs.size+3) .none→IsPair g (s.heap.objs.size+2) (.ref s.heap.objs.size) (.ref (s.heap.objs.size+1))→IsPair g (s.heap.objs.size+3) .none .none →
      g.IsTupleIter s.heap.objs.size t1 0→g.IsListIter (s.heap.objs.size+1) t2 0→g.objs.size=s.heap.objs.size+5→(∀ c o,s.heap.get? c=some o→g.get? c=some o)→Q (.ref (s.heap.objs.size+4)) { s with heap:=g }) :
    wpAny (model prog w) A (call (.type "zip") [.ref t1,.ref t2]) Q E s:=by
  refine callType_new F.called_zip (by decide) (F.typeCall_zip_2 _ _) (F.newCall_zip_2 _ _) (fun obj=>F.args_object_init_3 obj _ _) F.entry_zip_new (zip_new t1 t2 us vs) ⟨u1,u2,?_⟩
  have n1:(zh1 s.heap t1).objs.size=s.heap.objs.size+1:=Heap.size_push ..
  have n2:(zh2 s.heap t1 t2).objs.size=s.heap.objs.size+2:=by rw [Heap.size_push,n1]
  have n3:(zh3 s.heap t1 t2).objs.size=s.heap.objs.size+3:=by rw [Heap.size_push,n2]
  have n4:(zh4 s.heap t1 t2).objs.size=s.heap.objs.size+4:=by rw [Heap.size_push,n3]
  have n5:(zh5 s.heap t1 t2).objs.size=s.heap.objs.size+5:=by rw [Heap.size_push,n4]
  have p5:(zh5 s.heap t1 t2).get? (zh4 s.heap t1 t2).objs.size=some _:=Heap.get?_push_size _ rfl
  have p4:(zh5 s.heap t1 t2).get? (zh3 s.heap t1 t2).objs.size=some _:=Heap.get?_push_of_some _ (Heap.get?_push_size _ rfl)
  have p3:(zh5 s.heap t1 t2).get? (zh2 s.heap t1 t2).objs.size=some _:=Heap.get?_push_of_some _ (Heap.get?_push_of_some _ (Heap.get?_push_size _ rfl))
  have p2:(zh5 s.heap t1 t2).get? (zh1 s.heap t1).objs.size=some _:=Heap.get?_push_of_some _ (Heap.get?_push_of_some _ (Heap.get?_push_of_some _ (Heap.get?_push_size _ rfl)))
  have p1:(zh5 s.heap t1 t2).get? s.heap.objs.size=some _:=Heap.get?_push_of_some _ (Heap.get?_push_of_some _ (Heap.get?_push_of_some _ (Heap.get?_push_of_some _ (Heap.get?_push_size _ rfl))))
  show _∧_
  rw [n2,n3,n4] at p5
  rw [n1,n2] at p3
  rw [n3] at p4
  rw [n1] at p2
  rw [n4]
  exact ⟨⟨_,p5,rfl⟩,k _ p5 p3 p4 ⟨_,p1,rfl,rfl⟩ ⟨_,p2,rfl,rfl⟩ n5 fun c o q=>Heap.get?_push_of_some _ (Heap.get?_push_of_some _ (Heap.get?_push_of_some _ (Heap.get?_push_of_some _ (Heap.get?_push_of_some _ q))))⟩
end ZTL
namespace L2
open PySem PySem.Spec PyProof.Rows
def ItzL (K:PySem.W.Frag) (a b:Addr):It :=
  ⟨fun i H=>∃ xs ys x y,SqT K H a xs∧SqL K H b ys∧xs[i]?=some x∧ys[i]?=some y,
   fun i H v H'=>∃ t x y,v=.ref t∧H t=none∧H'=upd H t (.tup [x,y])∧(∀ xs,SqT K H a xs→xs[i]?=some x)∧∀ ys,SqL K H b ys→ys[i]?=some y,
   fun i H=>∃ xs,SqT K H a xs∧xs.length≤i⟩
theorem turn_zipL {P:Program} {w:World} {K:PySem.W.Frag} {elts:List Expr} {k1:Nat} {p1:Pos} (a b z TI TO i1 i2:Addr) (D:ZT.Apart z TI TO i1 i2 a b) :
    Turn P w K (.Tuple elts k1 p1) (ItzL K a b) [z,TI,TO,i1,i2] z (fun i h=>IsZip h z TI TO .none∧IsPair h TI (.ref i1) (.ref i2)∧(∃ u v,IsPair h TO u v)∧h.IsTupleIter i1 a i∧h.IsListIter i2 b i) where
  mem:=by simp
  obj:=fun i h st c hc=>by
    obtain ⟨z1,z2,⟨u,v,z3⟩,⟨o1,e1,c1,d1⟩,⟨o2,e2,c2,d2⟩⟩:=st
    have hc':c=z∨c=TI∨c=TO∨c=i1∨c=i2:=by simpa using hc
    rcases hc' with rfl | rfl | rfl | rfl | rfl
    · exact ⟨_,z1,fun v q=>by have q':Data.fields _=Data.cell v:=q; cases q'⟩
    · exact ⟨_,z2,fun v q=>by have q':Data.seq _ _=Data.cell v:=q; cases q'⟩
    · exact ⟨_,z3,fun v q=>by have q':Data.seq _ _=Data.cell v:=q; cases q'⟩
    · exact ⟨o1,e1,fun v q=>by rw [d1] at q; cases q⟩
    · exact ⟨o2,e2,fun v q=>by rw [d2] at q; cases q⟩
  keep:=fun i h h' st k=>by
    obtain ⟨z1,z2,⟨u,v,z3⟩,⟨o1,e1,r1⟩,⟨o2,e2,r2⟩⟩:=st
    exact ⟨k z (by simp) _ z1,k TI (by simp) _ z2,⟨u,v,k TO (by simp) _ z3⟩,⟨o1,k i1 (by simp) _ e1,r1⟩,⟨o2,k i2 (by simp) _ e2,r2⟩⟩
  item:=by
    intro X hP hw hK hc i pins s σ H E I hf st hg
    subst hP hw hK
    obtain ⟨xs,ys,x,y,ha,hb,hx,hy⟩:=hg
    obtain ⟨z1,z2,⟨u,v,z3⟩,r1,r2⟩:=st
    obtain ⟨ita,va,pa,_⟩:=I.tuple ha
    obtain ⟨itb,vb,pb,_⟩:=I.list hb
    obtain ⟨ux,eux,rx⟩:=va.get hx
    obtain ⟨uy,euy,ry⟩:=vb.get hy
    refine ZTL.next_item D z1 z2 z3 r1 r2 (show s.heap.IsTuple a ita.toArray from pa) pb.isList (x:=ux) (y:=uy) (by simpa using eux) (by simpa using euy) fun g g1 g2 g3 g4 g5 g6 g7=>?_
    refine ⟨_,rfl,wpAny_letOwnedTupleGo_zip g1 fun g' q1 q2=>?_⟩
    have q2':Heap.SameBut z g g':=q2
    have lz:z < s.heap.objs.size:=Heap.lt_size z1
    have I1:Inv X pins σ (upd H s.heap.objs.size (.tup [x,y])) { s with heap:=g',toks:=s.toks } :=
      I.turnedLT (ch:=[z,TO,i1,i2]) (its:=[ux,uy]) (fun c o hc q=>by
        have hc':¬ (c=z∨c=TO∨c=i1∨c=i2):=by simpa using hc
        exact q2'.extBut c o (fun e=>hc' (.inl e)) (g7 c o (fun e=>hc' (.inl e)) (fun e=>hc' (.inr (.inl e))) (fun e=>hc' (.inr (.inr (.inl e)))) (fun e=>hc' (.inr (.inr (.inr e)))) q))
        (fun c hc=>hf c (by
          have hc':c=z∨c=TO∨c=i1∨c=i2:=by simpa using hc
          rcases hc' with rfl | rfl | rfl | rfl <;> simp)) (.cons rx (.cons ry .nil)) (by show 2≤sizeLine; decide) (q2'.extBut _ _ (Nat.ne_of_gt lz) g5)
    obtain ⟨o1,e1,w1⟩:=id g3
    obtain ⟨o2,e2,w2⟩:=id g4
    have old:∀ c o,s.heap.get? c=some o→c≠s.heap.objs.size:=fun c o e=>Nat.ne_of_lt (Heap.lt_size e)
    refine ⟨.ref s.heap.objs.size,_,I1,rfl,⟨s.heap.objs.size,x,y,rfl,I.fresh,rfl,fun xs' h'=>by rw [I.tuple_inj h' ha]; exact hx,fun ys' h'=>by rw [I.list_inj h' hb]; exact hy⟩,
      ⟨q1,q2'.extBut _ _ D.a1 (g7 _ _ D.a1 D.b1 D.b2 D.b3 z2),⟨_,_,q2'.extBut _ _ D.a2 g2⟩,⟨o1,q2'.extBut _ _ D.a3 e1,w1⟩,⟨o2,q2'.extBut _ _ D.a4 e2,w2⟩⟩,fun c hc=>?_⟩
    have hc':c=z∨c=TI∨c=TO∨c=i1∨c=i2:=by simpa using hc
    have hn:c≠s.heap.objs.size:=by
      obtain ⟨p1,f1,_⟩:=r1
      obtain ⟨p2,f2,_⟩:=r2
      rcases hc' with rfl | rfl | rfl | rfl | rfl
      · exact old _ _ z1
      · exact old _ _ z2
      · exact old _ _ z3
      · exact old _ _ f1
      · exact old _ _ f2
    rw [upd_ne hn]
    exact (hf c hc).1
  done:=by
    intro X hP hw hK hc i pins s σ H E I hf st hg
    subst hP hw hK
    obtain ⟨xs,ha,hx⟩:=hg
    obtain ⟨z1,z2,⟨u,v,z3⟩,r1,r2⟩:=st
    obtain ⟨ita,va,pa,_⟩:=I.tuple ha
    have hl:=va.length
    refine ZT.next_end (I.ok.hd hc) D z1 z2 z3 r1 (show s.heap.IsTuple a ita.toArray from pa) (by simp; omega) fun g g7=>⟨rfl,?_⟩
    refine I.turnedL (t':=s.toks) (ch:=[z,TO,i1,i2]) (fun c o hc q=>?_) fun c hc=>hf c ?_
    · have hc':¬ (c=z∨c=TO∨c=i1∨c=i2):=by simpa using hc
      exact g7 c o (fun e=>hc' (.inl e)) (fun e=>hc' (.inr (.inl e))) (fun e=>hc' (.inr (.inr (.inl e)))) (fun e=>hc' (.inr (.inr (.inr e)))) q
    · have hc':c=z∨c=TO∨c=i1∨c=i2:=by simpa using hc
      rcases hc' with rfl | rfl | rfl | rfl <;> simp
  self:=fun A i s Q E st h=>wpAny_pyIter_zip st.1 h
def iZipL (K:PySem.W.Frag) (ta:TA):TI:=fun σ H R=>ta σ H fun vs H1=>∃ a b,vs=[.ref a,.ref b]∧(∃ xs,SqT K H1 a xs)∧(∃ ys,SqL K H1 b ys)∧R (ItzL K a b) H1
theorem pi_zipL {X:Cx} {elts:List Expr} {k1:Nat} {p1:Pos} {a b:Expr} {ta:TA} {p pos:Pos} (hg:Gl X "zip") (hm:X.mg "zip" = none) (ha:PA X [a,b] ta) (hs:starEach [a,b] X.env=[(false,eval a X.env),(false,eval b X.env)]:=by rfl)
    (hs2:starEach [b] X.env=[(false,eval b X.env)]:=by rfl):PI X (.Tuple elts k1 p1) (.Call (.Name "zip" p) [a,b] [] pos) (iZipL X.K ta):=by
  intro pins s σ H R I h
  refine Call_ (ld_blt I hg hm boot_zip' (PyProof.Rows.callWith_type1 (thn (ha pos pins s σ H _ I h) fun us s1 ⟨vs,H1,I1,r1,q1⟩=>?_) (by rw [hs,hs2]) (by rw [hs2]; rfl)))
  obtain ⟨l1,l2,e,⟨xs,hq⟩,⟨ys,hq'⟩,q⟩:=q1
  subst e
  cases r1 with
  | cons r rr =>
    cases rr with
    | cons r' rr =>
      cases rr
      cases r
      cases r'
      obtain ⟨ita,va,pa,_⟩:=I1.tuple hq
      obtain ⟨itb,vb,pb,_⟩:=I1.list hq'
      have la:l1 < s1.heap.objs.size:=pa.lt
      have lb:l2 < s1.heap.objs.size:=by obtain ⟨o,_,e,_⟩:=pb; exact Heap.lt_size e
      refine ZTL.call_zip (show s1.heap.IsTuple l1 ita.toArray from pa) pb.isList fun g g1 g2 g3 g4 g5 g6 g7=>?_
      refine wpAny_pyIter_zip g1 ?_
      have I2:Inv X pins σ H1 { s1 with heap:=g }:=I1.kept (t':=s1.toks) g7
      have D:ZT.Apart (s1.heap.objs.size+4) (s1.heap.objs.size+2) (s1.heap.objs.size+3) s1.heap.objs.size (s1.heap.objs.size+1) l1 l2:=by
        constructor <;> (apply ne_nat; first | exact Or.inl (by omega) | exact Or.inr (by omega) | exact Or.inl (Nat.lt_of_lt_of_le (by assumption) (by omega)))
      refine ⟨s1.heap.objs.size+4,_,_,_,H1,rfl,I2,turn_zipL l1 l2 _ _ _ _ _ D,⟨g1,g2,⟨_,_,g3⟩,g4,g5⟩,fun c hc=>?_,q⟩
      have hc':c=s1.heap.objs.size+4∨c=s1.heap.objs.size+2∨c=s1.heap.objs.size+3∨c=s1.heap.objs.size∨c=s1.heap.objs.size+1:=by simpa using hc
      have hle:s1.heap.objs.size≤c:=by rcases hc' with rfl | rfl | rfl | rfl | rfl <;> omega
      exact I1.fpOk hle (I1.hok.fresh hle)
end L2
namespace L2
open PySem PySem.Spec PyProof.Rows
theorem for_by {J:It} {g:TG} {tb:TS} {D:Ends} {σ:St} {H:Hp} (n:Nat) (Pv:Nat→St→Hp→Prop) (h0:Pv 0 σ H) (hstop:∀ σ H,Pv n σ H→J.stop n H∧D.nx σ H)
    (hgo:∀ i σ H,i < n→Pv i σ H→J.go i H∧∀ x H',J.yld i H x H'→g x σ H' fun σ2 H2=>tb { D with nx:=Pv (i+1),ct:=Pv (i+1),bk:=D.nx } σ2 H2) :
    ∃ W:Nat→Nat→St→Hp→Prop,(∃ m,W 0 m σ H)∧∀ i m σ H,W i m σ H →
      (J.stop i H∧D.nx σ H)∨(J.go i H∧∃ N:St→Hp→Prop,(∀ σ' H',N σ' H'→∃ m',m' < m∧W (i+1) m' σ' H')∧∀ x H',J.yld i H x H'→g x σ H' fun σ2 H2=>tb { D with nx:=N,ct:=N,bk:=D.nx } σ2 H2):=by
  refine ⟨fun i m σ H=>m=n - i∧i≤n∧Pv i σ H,⟨n,by simp,Nat.zero_le _,h0⟩,?_⟩
  rintro i m σ H ⟨rfl,hi,p⟩
  by_cases h:i < n
  · obtain ⟨g1,g2⟩:=hgo i σ H h p
    exact .inr ⟨g1,Pv (i+1),fun σ' H' q=>⟨n - (i+1),by omega,rfl,h,q⟩,g2⟩
  · have e:i=n:=by omega
    subst e
    exact .inl (hstop σ H p)
end L2
set_option Elab.async false
set_option linter.all false
set_option maxRecDepth 100000
set_option maxHeartbeats 4000000
namespace Mine
open PySem L2 PyProof.Rows
def top (i:Nat):Stmt:=PySem.Challenge.pw_twainkeep_k61_links_of_a_way.main.body.getD i (.Pass ⟨0,0,0,0⟩)
abbrev sNamesAt:Stmt:=top 1
abbrev sLinkDeeds:Stmt:=top 2
abbrev sNext:Stmt:=top 4
abbrev sState:Stmt:=top 5
abbrev sSteps:Stmt:=top 6
abbrev sOn:Stmt:=top 7
abbrev sAnyWay:Stmt:=top 8
abbrev sNames:Stmt:=top 9
abbrev sDue:Stmt:=top 10
abbrev sSame:Stmt:=top 11
abbrev sLaw:Stmt:=top 12
abbrev Lk:=List Nat × List Nat
abbrev Stp:=List Lk
abbrev Wy:=List Stp
def nD (xs:List Nat):D:=.tup (xs.map fun i=>D.int (i:Nat))
def lkD (p:Lk):D:=.tup [nD p.1,nD p.2]
def stD (s:Stp):D:=.tup (s.map lkD)
def wyD (w:Wy):D:=.tup (w.map stD)
def tsD (ns:List Str):D:=.tup (ns.map D.str)
def atN (ns:List Str) (is:List Nat):List Str:=is.map fun i=>ns.getD i Str.empty
def deedD (os rs:List Str) (t:Int) (p:Lk):D:=.tup [.str "link",.int t,tsD (atN os p.1),tsD (atN rs p.2)]
def isL (p:Lk):Bool:=!p.1.isEmpty && !p.2.isEmpty
structure LkOk (m n:Nat) (p:Lk):Prop where
  a:∀ i∈p.1,i < m
  b:∀ j∈p.2,j < n
  c:p.1.length≤3
  d:p.2.length≤3
structure StOk (m n:Nat) (s:Stp):Prop where
  l:s.length≤2
  p:∀ q∈s,LkOk m n q
structure WyOk (m n:Nat) (w:Wy):Prop where
  l:w.length≤40
  p:∀ s∈w,StOk m n s
def lks (w:Wy):List Lk:=w.flatten.filter isL
def deedsW (os rs:List Str) (t:Int) (w:Wy):List D:=(lks w).map (deedD os rs t)
theorem denN {H:Hp}:∀ {cs:List Nat} {vs:List V},DenL H vs (cs.map fun i=>D.int (i:Nat))→vs=cs.map fun i=>V.int (i:Nat)
  | [],[],_=>rfl
  | _ :: cs,v :: vs,h=>by
    have e:v=.int _:=h.1
    rw [e,denN h.2]
    rfl
  | [],_ :: _,h=>h.elim
  | _ :: _,[],h=>h.elim
theorem denN_of (H:Hp):∀ cs:List Nat,DenL H (cs.map fun i=>V.int (i:Nat)) (cs.map fun i=>D.int (i:Nat))
  | []=>trivial
  | _ :: cs=>⟨rfl,denN_of H cs⟩
theorem denS {H:Hp}:∀ {cs:List Str} {vs:List V},DenL H vs (cs.map D.str)→vs=cs.map V.str
  | [],[],_=>rfl
  | _ :: cs,v :: vs,h=>by
    have e:v=.str _:=h.1
    rw [e,denS h.2]
    rfl
  | [],_ :: _,h=>h.elim
  | _ :: _,[],h=>h.elim
theorem den_nD {H:Hp} {v:V} {is:List Nat} (h:Den H v (nD is)):∃ p,v=.ref p∧H p=some (.tup (is.map fun i=>V.int (i:Nat))):=by
  obtain ⟨p,vs,rfl,hp,d⟩:=den_tup h
  rw [denN d] at hp
  exact ⟨p,rfl,hp⟩
theorem den_tsD {H:Hp} {v:V} {ns:List Str} (h:Den H v (tsD ns)):∃ p,v=.ref p∧H p=some (.tup (ns.map V.str)):=by
  obtain ⟨p,vs,rfl,hp,d⟩:=den_tup h
  rw [denS d] at hp
  exact ⟨p,rfl,hp⟩
theorem den_lkD {H:Hp} {v:V} {q:Lk} (h:Den H v (lkD q)):∃ p a b,v=.ref p∧H p=some (.tup [.ref a,.ref b])∧H a=some (.tup (q.1.map fun i=>V.int (i:Nat)))∧H b=some (.tup (q.2.map fun i=>V.int (i:Nat))):=by
  obtain ⟨p,vs,rfl,hp,d⟩:=den_tup h
  match vs,d,hp with
  | [x,y],d,hp =>
    obtain ⟨a,rfl,ha⟩:=den_nD d.1
    obtain ⟨b,rfl,hb⟩:=den_nD d.2.1
    exact ⟨p,a,b,rfl,hp,ha,hb⟩
  | [],d,_=>exact d.elim
  | [_],d,_=>exact d.2.elim
  | _ :: _ :: _ :: _,d,_=>exact d.2.2.elim
theorem den_tsD_of {H:Hp} {p:Addr} {ns:List Str} (h:H p=some (.tup (ns.map V.str))):Den H (.ref p) (tsD ns):=⟨p,_,rfl,h,DenL.strs _⟩
theorem den_nD_of {H:Hp} {p:Addr} {is:List Nat} (h:H p=some (.tup (is.map fun i=>V.int (i:Nat)))):Den H (.ref p) (nD is):=⟨p,_,rfl,h,denN_of _ _⟩
theorem same_updN {H H':Hp} {l:Addr} {o:HO} (s:Same H H') (h:H l=none):Same H (upd H' l o):=fun c u z=>by
  rw [upd_ne (ne_of_none z h)]
  exact s c u z
theorem at_of {H:Hp} {vs:List V} {ds:List D} (d:DenL H vs ds) {i:Nat} {v:V} (h:vs[i]?=some v) {e:D} (he:ds[i]?=some e):Den H v e:=by
  obtain ⟨f,hf,k⟩:=d.at_ h
  rw [hf] at he
  cases he
  exact k
theorem ex_at {α:Type} {xs:List α} {i:Nat} (h:i < xs.length):xs[i]?=some xs[i]:=List.getElem?_eq_getElem h
theorem take_one {α:Type} {xs:List α} {i:Nat} {x:α} (h:xs[i]?=some x):xs.take (i+1)=xs.take i++[x]:=by rw [List.take_add_one,h]; rfl
theorem atN_getD {ns:List Str} {i:Nat} (h:i < ns.length):(ns.map V.str)[i]?=some (.str (ns.getD i Str.empty)):=by
  rw [List.getElem?_map,ex_at h,List.getD_eq_getElem?_getD,ex_at h]
  rfl
theorem at_walk {K:PySem.W.Frag} {p q l:Addr} {ns:List Str} {is:List Nat} {H:Hp} {R:Hp→Prop} (hp:H p=some (.tup (ns.map V.str))) (hq:H q=some (.tup (is.map fun i=>V.int (i:Nat)))) (hi:∀ i∈is,i < ns.length) (hn:is.length≤1000) (hl:H l=none)
    (hfin:∀ H',Same H H'→H' l=some (.lst ((atN ns is).map V.str))→R H') :
    ∃ W:Nat→Nat→L2.St→Hp→Prop,(∃ m,W 0 m [some (.ref p),none] (upd H l (.lst [])))∧∀ i m σ H,W i m σ H →
      ((Itt K q).stop i H∧R H)∨((Itt K q).go i H∧∃ N:L2.St→Hp→Prop,(∀ σ' H',N σ' H'→∃ m',m' < m∧W (i+1) m' σ' H') ∧
        ∀ x H',(Itt K q).yld i H x H'→gName 1 x σ H' fun σ2 H2=>tYes σ2 H2 fun b H3=>if b=true then tOp (rIxT K) (tVar 0) (tVar 1) σ2 H3 fun v H4=>∃ ys,H4 l=some (.lst ys)∧ys.length < sizeLine∧N σ2 (upd H4 l (.lst (ys++[v]))) else N σ2 H3):=by
  refine comp_by (J:=Itt K q) (l:=l) is.length (fun i σ' H'=>∃ v:Option V,σ'=[some (.ref p),v]∧Same H H'∧H' l=some (.lst ((atN ns (is.take i)).map V.str))) ⟨none,rfl,same_new hl _,upd_same⟩ ?_ ?_
  · rintro σ' H' ⟨v,rfl,s,e⟩
    rw [List.take_length] at e
    exact ⟨⟨_,SqT.of (s _ _ hq),by rw [List.length_map]; exact Nat.le_refl _⟩,hfin H' s e⟩
  · rintro i σ' H' hlt ⟨v,rfl,s,e⟩
    have hat:(is.map fun i=>V.int (i:Nat))[i]?=some (.int (is[i]:Nat)):=by rw [List.getElem?_map,ex_at hlt]; rfl
    refine ⟨⟨_,_,SqT.of (s _ _ hq),hat⟩,?_⟩
    rintro y H'' ⟨rfl,hy⟩
    have ey:y=.int (is[i]:Nat):=Option.some.inj ((hy _ (SqT.of (s _ _ hq))).symm.trans hat)
    subst ey
    have hb:=hi is[i] (List.getElem_mem hlt)
    refine gN (yesT (iteT ⟨_,rfl,_,rfl,p,_,_,_,rfl,rfl,SqT.of (s _ _ hp),atI_nat (atN_getD hb),_,e,?_,_,rfl,same_updN s hl,?_⟩))
    · rw [List.length_map]
      unfold atN
      rw [List.length_map,List.length_take]
      exact small1000 (by omega)
    · rw [upd_same,take_one (ex_at hlt)]
      unfold atN
      rw [List.map_append,List.map_append]
      rfl
def spNamesAt:Sp:=fun vs H Q _=>∃ (v u:V) (ns:List Str) (is:List Nat),vs=[v,u]∧Den H v (tsD ns)∧Den H u (nD is)∧(∀ i∈is,i < ns.length)∧is.length≤1000∧∀ (r:V) (H':Hp),Same H H'→Den H' r (tsD (atN ns is))→Q r H'
def spLinkDeeds:Sp:=fun vs H Q _=>∃ (v u x:V) (t:Int) (os rs:List Str) (w:Wy),vs=[v,u,x,.int t]∧Den H v (tsD os)∧Den H u (tsD rs)∧Den H x (wyD w)∧WyOk os.length rs.length w∧∀ (r:V) (H':Hp),Same H H'→Den H' r (.tup (deedsW os rs t w))→Q r H'
def spDue:Sp:=fun vs H Q _=>∃ (v u x:V) (t:Int) (os rs:List Str) (w:Wy),vs=[v,u,x,.int t]∧Den H v (tsD os)∧Den H u (tsD rs)∧Den H x (wyD w)∧WyOk os.length rs.length w∧∀ (l:Addr) (us:List V) (H':Hp),Same H H'→H' l=some (.lst us)→DenL H' us (deedsW os rs t w)→Q (.ref l) H'
theorem lks_snoc (w:Wy) (s:Stp):lks (w++[s])=lks w++s.filter isL:=by
  unfold lks
  rw [List.flatten_append,List.filter_append]
  simp
theorem lks_len {m n:Nat} {w:Wy} (h:WyOk m n w):(lks w).length≤80:=by
  have e:∀ v:Wy,(∀ s∈v,s.length≤2)→(v.flatten).length≤2 * v.length:=by
    intro v
    induction v with
    | nil=>intro _; simp
    | cons s v ih =>
      intro q
      have:=ih fun s hs=>q s (List.mem_cons_of_mem _ hs)
      have:=q s List.mem_cons_self
      rw [List.flatten_cons,List.length_append,List.length_cons]
      omega
  have h1:=e w fun s hs=>(h.p s hs).l
  have h2:=List.length_filter_le isL w.flatten
  have:=h.l
  unfold lks
  omega
theorem isL_iff {p:Lk}:isL p=true↔p.1≠[]∧p.2≠[]:=by
  obtain ⟨a,b⟩:=p
  cases a <;> cases b <;> simp [isL]
section
variable {P:Program} {w:World} {K:PySem.W.Frag} {mg:Str→Option Value} {base:Heap}
theorem scNamesAt:FnScope ["names", "places"] ["names", "places"] (defScope sNamesAt):=⟨rfl,rfl,rfl,by decide +kernel,rfl,by decide +kernel,by decide +kernel⟩
theorem c_names_at (h:Has K mg "names_at" sNamesAt ["names", "places"]) (m_tuple:mg "tuple" = none):Cal P w K mg base "names_at" 1 ["names", "places"] spNamesAt:=by
  refine h.mk' scNamesAt (fun vs H Q E hs=>?_) (fun f cdv A outer s H vs Q E hr hs=>?_)
  · obtain ⟨v,u,ns,is,rfl,_⟩:=hs
    rfl
  obtain ⟨v,u,ns,is,rfl,hv,hu,hi,hl,k⟩:=hs
  refine ⟨_,(pss_one (ps_ret (pe_callTy call_tuple_of rfl m_tuple boot_tuple (pa_cons (pe_compL ["names", "places"] (defScope sNamesAt) ["names", "place"] [some 0,none] rfl rfl rfl (pi_tup (pv 1)) rfl (by decide +kernel) (by decide +kernel) (by decide +kernel) (by decide +kernel) (hg:=fun cl C s H ex pn E=>(pg_name (i:=1) (by decide +kernel:(["names", "place"]:List Str).Nodup) rfl (Or.inl rfl))) (ht:=fun cl C s H ex pn E=>pifs_nil) (he:=fun cl C s H ex pn E=>(pe_ix (ix_tupK (K:=K) rfl) (pv 0) (pv 1) (fun _ _=>rfl)))) pa_nil)))),?_⟩
  obtain ⟨p,rfl,hp⟩:=den_tsD hv
  obtain ⟨q,rfl,hq⟩:=den_nD hu
  refine ⟨_,rfl,q,rfl,⟨_,SqT.of hq⟩,fun l hl0=>?_⟩
  refine at_walk hp hq hi hl hl0 fun H1 s1 e1=>?_
  exact ⟨l,_,rfl,.inl ⟨SqL.of e1,fun r hr=>k (.ref r) _ (s1.trans (same_new hr _)) (den_tsD_of upd_same)⟩⟩
theorem scLinkDeeds:FnScope ["ones", "others", "way", "t", "deeds", "step", "link"] ["ones", "others", "way", "t"] (defScope sLinkDeeds):=⟨rfl,rfl,rfl,by decide +kernel,rfl,by decide +kernel,by decide +kernel⟩
theorem c_link_deeds (h:Has K mg "link_deeds" sLinkDeeds ["ones", "others", "way", "t"]) (C_names_at:Cal P w K mg base "names_at" 1 ["names", "places"] spNamesAt) (m_len:mg "len" = none) (m_tuple:mg "tuple" = none):Cal P w K mg base "link_deeds" 2 ["ones", "others", "way", "t"] spLinkDeeds:=by
  refine h.mk' scLinkDeeds (fun vs H Q E hs=>?_) (fun f cdv A outer s H vs Q E hr hs=>?_)
  · obtain ⟨v,u,x,t,os,rs,w,rfl,_⟩:=hs
    rfl
  obtain ⟨v,u,x,t,os,rs,w,rfl,hv,hu,hx,ok,k⟩:=hs
  refine ⟨_,(pss_cons (ps_set (i:=4) scLinkDeeds.nd rfl (Or.inl rfl) (pe_lst pa_nil))
    (pss_cons (ps_for PassesOwn.never rfl (pi_tup (pv 2)) (pg_name (i:=5) scLinkDeeds.nd rfl (Or.inl rfl))
      (pss_one (ps_for PassesOwn.never rfl (pi_tup (pv 5)) (pg_name (i:=6) scLinkDeeds.nd rfl (Or.inl rfl))
      (pss_one (ps_if (PW.pt (pw_and (pt_cmpR op_gt (pe_callB call_len_seq rfl m_len PySem.boot_len (pa_cons (pe_ix ix_tup (pv 6) pe_int (fun _ _=>rfl)) pa_nil)) pe_int (nomark _)) (pw_and1 (pt_cmpR op_gt (pe_callB call_len_seq rfl m_len PySem.boot_len (pa_cons (pe_ix ix_tup (pv 6) pe_int (fun _ _=>rfl)) pa_nil)) pe_int (nomark _)))))
      (pss_one (ps_expr (pe_bm PySem.F.plainAttrs_list PySem.F.slot_list_append PySem.F.type_list_append mt_append (pv 4) (pa_cons (pe_tup (pa_cons pe_str (pa_cons (pv 3) (pa_cons (pe_cal C_names_at hr (by decide) rfl (pa_cons (pv 0) (pa_cons (pe_ix ix_tup (pv 6) pe_int (fun _ _=>rfl)) pa_nil))) (pa_cons (pe_cal C_names_at hr (by decide) rfl (pa_cons (pv 1) (pa_cons (pe_ix ix_tup (pv 6) pe_int (fun _ _=>rfl)) pa_nil))) pa_nil))))) pa_nil))))
      pss_nil)))))
    (pss_one (ps_ret (pe_callTy call_tuple_of rfl m_tuple boot_tuple (pa_cons (pv 4) pa_nil)))))),?_⟩
  obtain ⟨p,ws,rfl,hp,dw⟩:=den_tup hx
  have hwl:=dw.len
  rw [List.length_map] at hwl
  refine ⟨smn 0,fun l hl=>?_⟩
  refine gN ⟨_,rfl,p,rfl,⟨_,SqT.of (same_new hl _ _ _ hp)⟩,?_⟩
  refine for_tup (K:=K) (a:=p) (xs:=ws) (fun i σ H1=>∃ (v5 v6:Option V) (us:List V),σ=[some v,some u,some (.ref p),some (.int t),some (.ref l),v5,v6]∧Same H H1∧H1 l=some (.lst us)∧DenL H1 us ((lks (w.take i)).map (deedD os rs t))) ⟨_,_,[],rfl,same_new hl _,upd_same,trivial⟩ ?_ ?_ ?_
  · rintro i σ H1 _ ⟨_,_,_,_,s1,_⟩
    exact SqT.of (s1 _ _ hp)
  · rintro i y σ H1 hi ⟨v5,v6,us,rfl,s1,e1,d1⟩
    have hiw:i < w.length:=by have:=(List.getElem?_eq_some_iff.mp hi).1; omega
    have dy:Den H y (stD w[i]):=at_of dw hi (by rw [List.getElem?_map,ex_at hiw]; rfl)
    have oki:=ok.p w[i] (List.getElem_mem hiw)
    obtain ⟨q,ls,rfl,hq,dl⟩:=den_tup dy
    have hll:=dl.len
    rw [List.length_map] at hll
    refine gN ⟨_,rfl,q,rfl,⟨_,SqT.of (s1 _ _ hq)⟩,?_⟩
    refine for_tup (K:=K) (a:=q) (xs:=ls) (fun j σ H2=>∃ (v6:Option V) (us:List V),σ=[some v,some u,some (.ref p),some (.int t),some (.ref l),some (.ref q),v6]∧Same H H2∧H2 l=some (.lst us)∧DenL H2 us ((lks (w.take i)++(w[i].take j).filter isL).map (deedD os rs t))) ⟨_,us,rfl,s1,e1,by simpa using d1⟩ ?_ ?_ ?_
    · rintro j σ H2 _ ⟨_,_,_,s2,_⟩
      exact SqT.of (s2 _ _ hq)
    · rintro j y σ H2 hj ⟨v6,us,rfl,s2,e2,d2⟩
      have hjl:j < w[i].length:=by have:=(List.getElem?_eq_some_iff.mp hj).1; omega
      have dy:Den H y (lkD w[i][j]):=at_of dl hj (by rw [List.getElem?_map,ex_at hjl]; rfl)
      have okj:=oki.p w[i][j] (List.getElem_mem hjl)
      generalize hpr:w[i][j]=pr at dy okj
      obtain ⟨c,a,b,rfl,hc,ha,hb⟩:=den_lkD dy
      have hus:us.length≤1000:=by
        have h1:=d2.len
        rw [List.length_map,List.length_append] at h1
        have h2:=lks_len (w:=w.take i) (m:=os.length) (n:=rs.length) ⟨by have:=ok.l; rw [List.length_take]; omega,fun s hs=>ok.p s (List.mem_of_mem_take hs)⟩
        have h3:=List.length_filter_le isL (w[i].take j)
        have h4:=oki.l
        rw [List.length_take] at h3
        omega
      have hnx:(w[i].take (j+1)).filter isL=(w[i].take j).filter isL++(if isL pr=true then [pr] else []):=by
        rw [take_one (ex_at hjl),List.filter_append,hpr]
        by_cases h:isL pr=true
        · rw [if_pos h,List.filter_cons_of_pos h]; rfl
        · rw [if_neg h,List.filter_cons_of_neg h]; rfl
      have at0:atI [V.ref a,V.ref b] 0=some (.ref a):=atI_zero _ _
      have at1:atI [V.ref a,V.ref b] 1=some (.ref b):=atI_nat (xs:=[V.ref a,V.ref b]) (j:=1) rfl
      have hno:isL pr=false→∃ (v6:Option V) (us':List V),[some v,some u,some (.ref p),some (.int t),some (.ref l),some (.ref q),some (.ref c)]=[some v,some u,some (.ref p),some (.int t),some (.ref l),some (.ref q),v6]∧Same H H2∧H2 l=some (.lst us')∧DenL H2 us' ((lks (w.take i)++(w[i].take (j+1)).filter isL).map (deedD os rs t)):=fun z=>by
        refine ⟨_,us,rfl,s2,e2,?_⟩
        rw [hnx,z]
        simpa using d2
      refine gN ⟨_,rfl,c,_,_,_,rfl,rfl,SqT.of (s2 _ _ hc),at0,a,_,rfl,.inr (SqT.of (s2 _ _ ha)),_,_,rfl,rfl,_,rfl,?_⟩
      refine ite2 (fun z1=>?_) (fun z1=>?_)
      · refine ⟨_,rfl,c,_,_,_,rfl,rfl,SqT.of (s2 _ _ hc),at1,b,_,rfl,.inr (SqT.of (s2 _ _ hb)),_,_,rfl,rfl,_,rfl,?_⟩
        refine ite2 (fun z2=>?_) (fun z2=>?_)
        · have hyes:isL pr=true:=by
            rw [isL_iff]
            simp only [List.length_map,decide_eq_true_eq] at z1 z2
            exact ⟨fun e=>by rw [e] at z1; simp at z1,fun e=>by rw [e] at z2; simp at z2⟩
          refine ⟨_,rfl,.inl ⟨rfl,_,SqL.of e2⟩,_,rfl,_,rfl,_,rfl,c,_,_,_,rfl,rfl,SqT.of (s2 _ _ hc),at0,_,_,os,pr.1,rfl,hv.same s2,den_nD_of (s2 _ _ ha),okj.a,by have:=okj.c; omega,fun r3 H3 s3 d3=>?_⟩
          refine ⟨_,rfl,_,rfl,c,_,_,_,rfl,rfl,SqT.of (s3 _ _ (s2 _ _ hc)),at1,_,_,rs,pr.2,rfl,hu.same (s2.trans s3),den_nD_of (s3 _ _ (s2 _ _ hb)),okj.b,by have:=okj.d; omega,fun r4 H4 s4 d4=>?_⟩
          refine ⟨smn 4,fun f hf=>?_⟩
          have s5:=same_new hf (.tup [.str "link",.int t,r3,r4])
          have e5:(upd H4 f (.tup [.str "link",.int t,r3,r4])) l=some (.lst us):=s5 _ _ (s4 _ _ (s3 _ _ e2))
          have dn:Den (upd H4 f (.tup [.str "link",.int t,r3,r4])) (.ref f) (deedD os rs t pr):=⟨f,_,rfl,upd_same,rfl,rfl,d3.same (s4.trans s5),d4.same s5,trivial⟩
          have s25:=(s3.trans s4).trans s5
          generalize upd H4 f (.tup [.str "link",.int t,r3,r4])=H5 at e5 dn s25
          have d5:=d2.same s25
          have s05:=s2.trans s25
          refine ⟨l,_,_,rfl,rfl,e5,Nat.lt_of_le_of_lt hus (by decide),_,us++[.ref f],rfl,same_updN s05 hl,upd_same,?_⟩
          rw [hnx,if_pos hyes,← List.append_assoc,List.map_append]
          have kt:∀ (b:Addr) (vs:List V),H5 b=some (.tup vs)→(upd H5 l (.lst (us++[V.ref f]))) b=some (.tup vs):=fun b vs z=>by
            rw [upd_ne]
            · exact z
            · intro e
              rw [e,e5] at z
              cases z
          exact (d5.keepT kt).snoc (dn.keepT kt)
        · refine hno ?_
          cases hL:isL pr with
          | false=>rfl
          | true =>
            have:=(isL_iff.mp hL).2
            simp only [List.length_map,decide_eq_true_eq] at z2
            exact absurd (List.length_eq_zero_iff.mp (by omega)) this
      · refine iteF (hno ?_)
        cases hL:isL pr with
        | false=>rfl
        | true =>
          have:=(isL_iff.mp hL).1
          simp only [List.length_map,decide_eq_true_eq] at z1
          exact absurd (List.length_eq_zero_iff.mp (by omega)) this
    · rintro σ H2 ⟨v6,us,rfl,s2,e2,d2⟩
      rw [hll,List.take_length] at d2
      refine ⟨_,_,us,rfl,s2,e2,?_⟩
      rw [take_one (ex_at hiw),lks_snoc]
      exact d2
  · rintro σ H1 ⟨v5,v6,us,rfl,s1,e1,d1⟩
    rw [hwl,List.take_length] at d1
    exact ⟨_,rfl,l,_,rfl,.inl ⟨SqL.of e1,fun r hr=>k (.ref r) _ (s1.trans (same_new hr _)) ⟨r,_,rfl,upd_same,d1.same (same_new hr _)⟩⟩⟩
end
section
variable {P:Program} {w:World} {K:PySem.W.Frag} {mg:Str→Option Value} {base:Heap}
theorem scDue:FnScope ["_law_ones", "_law_others", "_law_way", "_law_t", "_law_deeds", "_law_step", "_law_left", "_law_right"] ["_law_ones", "_law_others", "_law_way", "_law_t"] (defScope sDue):=⟨rfl,rfl,rfl,by decide +kernel,rfl,by decide +kernel,by decide +kernel⟩
theorem c_due (h:Has K mg "_law_due" sDue ["_law_ones", "_law_others", "_law_way", "_law_t"]) (m_tuple:mg "tuple" = none):Cal P w K mg base "_law_due" 1 ["_law_ones", "_law_others", "_law_way", "_law_t"] spDue:=by
  refine h.mk' scDue (fun vs H Q E hs=>?_) (fun f cdv A outer s H vs Q E hr hs=>?_)
  · obtain ⟨v,u,x,t,os,rs,w,rfl,_⟩:=hs
    rfl
  obtain ⟨v,u,x,t,os,rs,w,rfl,hv,hu,hx,ok,k⟩:=hs
  refine ⟨_,(pss_cons (ps_set (i:=4) scDue.nd rfl (Or.inl rfl) (pe_lst pa_nil))
    (pss_cons (ps_for PassesOwn.never rfl (pi_tup (pv 2)) (pg_name (i:=5) scDue.nd rfl (Or.inl rfl))
      (pss_one (ps_for PassesOwn.never rfl (pi_tup (pv 5)) (pg_tup rfl (pgs_cons (pg_name (i:=6) scDue.nd rfl (Or.inl rfl)) (pgs_cons (pg_name (i:=7) scDue.nd rfl (Or.inl rfl)) pgs_nil)))
      (pss_one (ps_if (PW.pt (pw_and (pt_cmpR (op_neT0 hr.units0) (pv 6) (pe_tup pa_nil) (nomark _)) (pw_and1 (pt_cmpR (op_neT0 hr.units0) (pv 7) (pe_tup pa_nil) (nomark _)))))
      (pss_one (ps_expr (pe_bm PySem.F.plainAttrs_list PySem.F.slot_list_append PySem.F.type_list_append mt_append (pv 4) (pa_cons (pe_tup (pa_cons pe_str (pa_cons (pv 3) (pa_cons (pe_callTy call_tuple_of rfl m_tuple boot_tuple (pa_cons (pe_compL ["_law_ones", "_law_others", "_law_way", "_law_t", "_law_deeds", "_law_step", "_law_left", "_law_right"] (defScope sDue) ["_law_ones", "_law_i"] [some 0,none] rfl rfl rfl (pi_tup (pv 6)) rfl (by decide +kernel) (by decide +kernel) (by decide +kernel) (by decide +kernel) (hg:=fun cl C s H ex pn E=>(pg_name (i:=1) (by decide +kernel:(["_law_ones", "_law_i"]:List Str).Nodup) rfl (Or.inl rfl))) (ht:=fun cl C s H ex pn E=>pifs_nil) (he:=fun cl C s H ex pn E=>(pe_ix (ix_tupK (K:=K) rfl) (pv 0) (pv 1) (fun _ _=>rfl)))) pa_nil)) (pa_cons (pe_callTy call_tuple_of rfl m_tuple boot_tuple (pa_cons (pe_compL ["_law_ones", "_law_others", "_law_way", "_law_t", "_law_deeds", "_law_step", "_law_left", "_law_right"] (defScope sDue) ["_law_others", "_law_j"] [some 1,none] rfl rfl rfl (pi_tup (pv 7)) rfl (by decide +kernel) (by decide +kernel) (by decide +kernel) (by decide +kernel) (hg:=fun cl C s H ex pn E=>(pg_name (i:=1) (by decide +kernel:(["_law_others", "_law_j"]:List Str).Nodup) rfl (Or.inl rfl))) (ht:=fun cl C s H ex pn E=>pifs_nil) (he:=fun cl C s H ex pn E=>(pe_ix (ix_tupK (K:=K) rfl) (pv 0) (pv 1) (fun _ _=>rfl)))) pa_nil)) pa_nil))))) pa_nil))))
      pss_nil)))))
    (pss_one (ps_ret (pv 4))))),?_⟩
  obtain ⟨p,ws,rfl,hp,dw⟩:=den_tup hx
  obtain ⟨po,rfl,hpo⟩:=den_tsD hv
  obtain ⟨pu,rfl,hpu⟩:=den_tsD hu
  have hwl:=dw.len
  rw [List.length_map] at hwl
  refine ⟨smn 0,fun l hl=>?_⟩
  refine gN ⟨_,rfl,p,rfl,⟨_,SqT.of (same_new hl _ _ _ hp)⟩,?_⟩
  refine for_tup (K:=K) (a:=p) (xs:=ws) (fun i σ H1=>∃ (v5 v6 v7:Option V) (us:List V),σ=[some (.ref po),some (.ref pu),some (.ref p),some (.int t),some (.ref l),v5,v6,v7]∧Same H H1∧H1 l=some (.lst us)∧DenL H1 us ((lks (w.take i)).map (deedD os rs t))) ⟨_,_,_,[],rfl,same_new hl _,upd_same,trivial⟩ ?_ ?_ ?_
  · rintro i σ H1 _ ⟨_,_,_,_,_,s1,_⟩
    exact SqT.of (s1 _ _ hp)
  · rintro i y σ H1 hi ⟨v5,v6,v7,us,rfl,s1,e1,d1⟩
    have hiw:i < w.length:=by have:=(List.getElem?_eq_some_iff.mp hi).1; omega
    have dy:Den H y (stD w[i]):=at_of dw hi (by rw [List.getElem?_map,ex_at hiw]; rfl)
    have oki:=ok.p w[i] (List.getElem_mem hiw)
    obtain ⟨q,ls,rfl,hq,dl⟩:=den_tup dy
    have hll:=dl.len
    rw [List.length_map] at hll
    refine gN ⟨_,rfl,q,rfl,⟨_,SqT.of (s1 _ _ hq)⟩,?_⟩
    refine for_tup (K:=K) (a:=q) (xs:=ls) (fun j σ H2=>∃ (v6 v7:Option V) (us:List V),σ=[some (.ref po),some (.ref pu),some (.ref p),some (.int t),some (.ref l),some (.ref q),v6,v7]∧Same H H2∧H2 l=some (.lst us)∧DenL H2 us ((lks (w.take i)++(w[i].take j).filter isL).map (deedD os rs t))) ⟨_,_,us,rfl,s1,e1,by simpa using d1⟩ ?_ ?_ ?_
    · rintro j σ H2 _ ⟨_,_,_,_,s2,_⟩
      exact SqT.of (s2 _ _ hq)
    · rintro j y σ H2 hj ⟨v6,v7,us,rfl,s2,e2,d2⟩
      have hjl:j < w[i].length:=by have:=(List.getElem?_eq_some_iff.mp hj).1; omega
      have dy:Den H y (lkD w[i][j]):=at_of dl hj (by rw [List.getElem?_map,ex_at hjl]; rfl)
      have okj:=oki.p w[i][j] (List.getElem_mem hjl)
      generalize hpr:w[i][j]=pr at dy okj
      obtain ⟨c,a,b,rfl,hc,ha,hb⟩:=den_lkD dy
      have hus:us.length≤1000:=by
        have h1:=d2.len
        rw [List.length_map,List.length_append] at h1
        have h2:=lks_len (w:=w.take i) (m:=os.length) (n:=rs.length) ⟨by have:=ok.l; rw [List.length_take]; omega,fun s hs=>ok.p s (List.mem_of_mem_take hs)⟩
        have h3:=List.length_filter_le isL (w[i].take j)
        have h4:=oki.l
        rw [List.length_take] at h3
        omega
      have hnx:(w[i].take (j+1)).filter isL=(w[i].take j).filter isL++(if isL pr=true then [pr] else []):=by
        rw [take_one (ex_at hjl),List.filter_append,hpr]
        by_cases h:isL pr=true
        · rw [if_pos h,List.filter_cons_of_pos h]; rfl
        · rw [if_neg h,List.filter_cons_of_neg h]; rfl
      have hno:∀ H3,Same H2 H3→isL pr=false→∃ (v6 v7:Option V) (us':List V),[some (.ref po),some (.ref pu),some (.ref p),some (.int t),some (.ref l),some (.ref q),some (.ref a),some (.ref b)]=[some (.ref po),some (.ref pu),some (.ref p),some (.int t),some (.ref l),some (.ref q),v6,v7]∧Same H H3∧H3 l=some (.lst us')∧DenL H3 us' ((lks (w.take i)++(w[i].take (j+1)).filter isL).map (deedD os rs t)):=fun H3 s3 z=>by
        refine ⟨_,_,us,rfl,s2.trans s3,s3 _ _ e2,?_⟩
        rw [hnx,z]
        simpa using d2.same s3
      refine ⟨c,_,rfl,SqT.of (s2 _ _ hc),rfl,_,_,rfl,_,_,rfl,rfl,?_⟩
      refine ⟨_,rfl,smn 0,fun t1 ht1=>?_⟩
      have s3:=same_new ht1 (.tup [])
      refine ⟨a,t1,_,rfl,rfl,SqT.of (s3 _ _ (s2 _ _ ha)),SqT.of upd_same,_,rfl,?_⟩
      have s03:=s2.trans s3
      generalize upd H2 t1 (.tup [])=H3 at s3 s03
      refine ite2 (fun z1=>?_) (fun z1=>?_)
      · refine ⟨_,rfl,smn 0,fun t2 ht2=>?_⟩
        have s4:=same_new ht2 (.tup [])
        refine ⟨b,t2,_,rfl,rfl,SqT.of (s4 _ _ (s03 _ _ hb)),SqT.of upd_same,_,rfl,?_⟩
        have s24:=s3.trans s4
        have s04:=s03.trans s4
        generalize upd H3 t2 (.tup [])=H4 at s24 s04
        refine ite2 (fun z2=>?_) (fun z2=>?_)
        · have hyes:isL pr=true:=by
            rw [isL_iff]
            refine ⟨fun e=>?_,fun e=>?_⟩
            · rw [e] at z1; simp at z1
            · rw [e] at z2; simp at z2
          refine ⟨_,rfl,.inl ⟨rfl,_,SqL.of (s24 _ _ e2)⟩,_,rfl,_,rfl,a,rfl,⟨_,SqT.of (s04 _ _ ha)⟩,fun l1 hl1=>?_⟩
          refine at_walk (s04 _ _ hpo) (s04 _ _ ha) okj.a (by have:=okj.c; omega) hl1 fun H5 s5 e5=>?_
          refine ⟨l1,_,rfl,.inl ⟨SqL.of e5,fun r3 hr3=>?_⟩⟩
          have s6:=s5.trans (same_new hr3 (.tup ((atN os pr.1).map V.str)))
          have d3:Den (upd H5 r3 (.tup ((atN os pr.1).map V.str))) (.ref r3) (tsD (atN os pr.1)):=den_tsD_of upd_same
          generalize upd H5 r3 (.tup ((atN os pr.1).map V.str))=H6 at s6 d3
          have s06:=s04.trans s6
          refine ⟨_,rfl,b,rfl,⟨_,SqT.of (s06 _ _ hb)⟩,fun l2 hl2=>?_⟩
          refine at_walk (s06 _ _ hpu) (s06 _ _ hb) okj.b (by have:=okj.d; omega) hl2 fun H7 s7 e7=>?_
          refine ⟨l2,_,rfl,.inl ⟨SqL.of e7,fun r4 hr4=>?_⟩⟩
          have s8:=s7.trans (same_new hr4 (.tup ((atN rs pr.2).map V.str)))
          have d4:Den (upd H7 r4 (.tup ((atN rs pr.2).map V.str))) (.ref r4) (tsD (atN rs pr.2)):=den_tsD_of upd_same
          generalize upd H7 r4 (.tup ((atN rs pr.2).map V.str))=H8 at s8 d4
          have s28:=(s24.trans s6).trans s8
          refine ⟨smn 4,fun f hf=>?_⟩
          have s9:=same_new hf (.tup [.str "link",.int t,.ref r3,.ref r4])
          have e9:(upd H8 f (.tup [.str "link",.int t,.ref r3,.ref r4])) l=some (.lst us):=s9 _ _ (s28 _ _ e2)
          have dn:Den (upd H8 f (.tup [.str "link",.int t,.ref r3,.ref r4])) (.ref f) (deedD os rs t pr):=⟨f,_,rfl,upd_same,rfl,rfl,d3.same (s8.trans s9),d4.same s9,trivial⟩
          have s29:=s28.trans s9
          generalize upd H8 f (.tup [.str "link",.int t,.ref r3,.ref r4])=H9 at e9 dn s29
          have d9:=d2.same s29
          have s09:=s2.trans s29
          refine ⟨l,_,_,rfl,rfl,e9,Nat.lt_of_le_of_lt hus (by decide),_,_,us++[.ref f],rfl,same_updN s09 hl,upd_same,?_⟩
          rw [hnx,if_pos hyes,← List.append_assoc,List.map_append]
          have kt:∀ (b:Addr) (vs:List V),H9 b=some (.tup vs)→(upd H9 l (.lst (us++[V.ref f]))) b=some (.tup vs):=fun b vs z=>by
            rw [upd_ne]
            · exact z
            · intro e
              rw [e,e9] at z
              cases z
          exact (d9.keepT kt).snoc (dn.keepT kt)
        · refine hno H4 s24 ?_
          cases hL:isL pr with
          | false=>rfl
          | true =>
            have:=(isL_iff.mp hL).2
            exfalso
            apply z2
            obtain ⟨x,y⟩:=pr
            cases y with
            | nil=>exact absurd rfl this
            | cons _ _=>rfl
      · refine iteF (hno H3 s3 ?_)
        cases hL:isL pr with
        | false=>rfl
        | true =>
          have:=(isL_iff.mp hL).1
          exfalso
          apply z1
          obtain ⟨x,y⟩:=pr
          cases x with
          | nil=>exact absurd rfl this
          | cons _ _=>rfl
    · rintro σ H2 ⟨v6,v7,us,rfl,s2,e2,d2⟩
      rw [hll,List.take_length] at d2
      refine ⟨_,_,_,us,rfl,s2,e2,?_⟩
      rw [take_one (ex_at hiw),lks_snoc]
      exact d2
  · rintro σ H1 ⟨v5,v6,v7,us,rfl,s1,e1,d1⟩
    rw [hwl,List.take_length] at d1
    exact ⟨_,rfl,k l us H1 s1 e1 d1⟩
end
def PotAt (b:Addr) (H:Hp):Prop:=∃ (ns:List Int) (s:Int),H b=some (.lst ((ns++[s]).map V.int))∧ns.length≤64∧0≤s∧s < 2305843009213693951
theorem PotAt.same {b:Addr} {H H':Hp} (h:PotAt b H) (s:Same H H'):PotAt b H':=by
  obtain ⟨ns,x,e,r⟩:=h
  exact ⟨ns,x,s _ _ e,r⟩
theorem PotAt.ne {b c:Addr} {H:Hp} (h:PotAt b H) (hc:H c=none):c≠b:=by
  obtain ⟨ns,x,e,r⟩:=h
  exact (ne_of_none e hc).symm
def OldB (b:Addr) (H H':Hp):Prop:=∀ c o,H c=some o→c≠b→H' c=some o
theorem OldB.trans {b:Addr} {H H1 H2:Hp} (a:OldB b H H1) (c:OldB b H1 H2):OldB b H H2:=fun d o e h=>c d o (a d o e h) h
theorem OldB.of {b:Addr} {H H1:Hp} (s:Same H H1):OldB b H H1:=fun c o e _=>s c o e
theorem OldB.tup {b:Addr} {H H':Hp} (hp:PotAt b H) (o:OldB b H H'):∀ (c:Addr) (vs:List V),H c=some (.tup vs)→H' c=some (.tup vs):=fun c vs e=>by
  obtain ⟨ns,x,e1,r⟩:=hp
  refine o c _ e fun z=>?_
  rw [z,e1] at e
  cases e
theorem OldB.none {b c:Addr} {H H':Hp} (o:OldB b H H') (hp':PotAt b H') (hc:H' c=none):H c=none:=by
  cases e:H c with
  | none=>rfl
  | some u =>
    have:=o c u e (hp'.ne hc)
    rw [hc] at this
    cases this
def spNext:Sp:=fun vs H Q _=>∃ (b:Addr) (m:Int),vs=[.ref b,.int m]∧PotAt b H∧0 < m∧m < 2 ^ 64∧∀ (r:Int) (H':Hp),PotAt b H'→OldB b H H'→0≤r→r < m→Q (.int r) H'
def spState (K:PySem.W.Frag):Sp:=fun vs H Q _=>∃ (a:Addr) (ms:List Int),vs=[.ref a]∧SqL K H a (ms.map V.int)∧ms.length≤63∧∀ (l:Addr) (H':Hp),Same H H'→PotAt l H'→Q (.ref l) H'
theorem ixN0 {α:Type} (x:α) (r:List α):ixN (x :: r).length 0=some 0:=by
  unfold ixN
  rw [if_pos (Int.le_refl 0),if_pos (by simp)]
  rfl
theorem seqIx0 (n:Nat):seqIndex? 0 (n+1)=some 0:=by
  unfold seqIndex?
  simp
section
variable {P:Program} {w:World} {K:PySem.W.Frag} {mg:Str→Option Value} {base:Heap}
theorem scNext:FnScope ["_law_pot", "_law_many", "_law_digit"] ["_law_pot", "_law_many"] (defScope sNext):=⟨rfl,rfl,rfl,by decide +kernel,rfl,by decide +kernel,by decide +kernel⟩
theorem c_next (h:Has K mg "_law_next" sNext ["_law_pot", "_law_many"]) (m_len:mg "len" = none):Cal P w K mg base "_law_next" 1 ["_law_pot", "_law_many"] spNext:=by
  refine h.mk' scNext (fun vs H Q E hs=>?_) (fun f cdv A outer s H vs Q E hr hs=>?_)
  · obtain ⟨b,m,rfl,_⟩:=hs
    rfl
  obtain ⟨b,m,rfl,⟨ns,s,e,hl,s0,s1⟩,m0,m1,k⟩:=hs
  refine ⟨_,(pss_cons (ps_if (pt_cmpR op_gt (pe_callB call_len_seq rfl m_len PySem.boot_len (pa_cons (pv 0) pa_nil)) pe_int (nomark _))
      (pss_cons (ps_set (i:=2) scNext.nd rfl (Or.inl rfl) (pe_op op_mod (pe_ix ix_list (pv 0) pe_int (fun _ _=>rfl)) (pv 1)))
    (pss_cons (ps_asg (pe_op op_fdivB (pe_ix ix_list (pv 0) pe_int (fun _ _=>rfl)) (pv 1)) (pg_sub (pv 0) pe_int set_list))
    (pss_cons (ps_if (pt_cmpR op_eq (pe_ix ix_list (pv 0) pe_int (fun _ _=>rfl)) pe_int (nomark _))
      (pss_one (ps_expr (pe_bm PySem.F.plainAttrs_list PySem.F.slot_list_pop PySem.F.type_list_pop mt_popAt (pv 0) (pa_cons pe_int pa_nil))))
      pss_nil)
    (pss_one (ps_ret (pv 2))))))
      pss_nil)
    (pss_cons (ps_asg (pe_op op_mod (pe_op op_add (pe_op op_mul (pe_ix ix_list (pv 0) pe_int (fun _ _=>rfl)) pe_int) pe_int) pe_int) (pg_sub (pv 0) pe_int set_list))
    (pss_one (ps_ret (pe_op op_mod (pe_op op_fdivB (pe_ix ix_list (pv 0) pe_int (fun _ _=>rfl)) pe_int) (pv 1)))))),?_⟩
  cases ns with
  | nil =>
    have e0:H b=some (.lst [.int s]):=e
    have hz:∀ x:Int,atI [V.int x] 0=some (.int x):=fun x=>atI_zero _ _
    refine ⟨_,rfl,b,_,rfl,.inl (SqL.of e0),_,_,rfl,rfl,_,rfl,iteF ?_⟩
    refine ⟨_,rfl,b,_,_,_,rfl,rfl,SqL.of e0,hz s,_,_,rfl,rfl,.inl ⟨by omega,by omega⟩,_,_,rfl,rfl,_,_,rfl,rfl,by show (0:Int) < 2305843009213693951; decide,_,rfl,b,_,_,0,rfl,rfl,e0,rfl,?_⟩
    have hr:=Int.emod_nonneg (s * 3935559000370003845+2691343689449507681) (show (2305843009213693951:Int)≠0 by decide)
    have hr2:=Int.emod_lt_of_pos (s * 3935559000370003845+2691343689449507681) (show (0:Int) < 2305843009213693951 by decide)
    have e3:(upd H b (.lst ([V.int s].set 0 (.int ((s * 3935559000370003845+2691343689449507681) % 2305843009213693951))))) b=some (.lst [.int ((s * 3935559000370003845+2691343689449507681) % 2305843009213693951)]):=upd_same
    have o3:OldB b H (upd H b (.lst ([V.int s].set 0 (.int ((s * 3935559000370003845+2691343689449507681) % 2305843009213693951))))):=fun c o z h=>by
      rw [upd_ne h]
      exact z
    generalize upd H b (.lst ([V.int s].set 0 (.int ((s * 3935559000370003845+2691343689449507681) % 2305843009213693951))))=H3 at e3 o3
    generalize (s * 3935559000370003845+2691343689449507681) % 2305843009213693951=s' at e3 hr hr2
    refine ⟨_,rfl,b,_,_,_,rfl,rfl,SqL.of e3,hz s',_,_,rfl,rfl,⟨by decide,by decide⟩,_,rfl,_,_,rfl,rfl,m0,?_⟩
    exact k _ H3 ⟨[],s',e3,by decide,hr,hr2⟩ o3 (Int.emod_nonneg _ (by omega)) (Int.emod_lt_of_pos _ m0)
  | cons x r =>
    have e0:H b=some (.lst (.int x :: (r++[s]).map V.int)):=e
    have hz:∀ (x:Int) (q:List V),atI (V.int x :: q) 0=some (.int x):=fun x q=>atI_zero _ _
    have hz2:=ixN0 (V.int x) ((r++[s]).map V.int)
    have hlen:1 < (V.int x :: (r++[s]).map V.int).length:=by simp
    have hlr:r.length < 64:=by have:=hl; simp at this; omega
    refine ⟨_,rfl,b,_,rfl,.inl (SqL.of e0),_,_,rfl,rfl,_,rfl,?_⟩
    refine ite2 (fun _=>?_) (fun z=>absurd (decide_eq_true (by omega)) z)
    refine ⟨_,rfl,b,_,_,_,rfl,rfl,SqL.of e0,hz x _,_,rfl,_,_,rfl,rfl,m0,?_⟩
    have hr:=Int.emod_nonneg x (show m≠0 by omega)
    have hr2:=Int.emod_lt_of_pos x m0
    refine gN ⟨_,rfl,b,_,_,_,rfl,rfl,SqL.of e0,hz x _,_,rfl,_,_,rfl,rfl,⟨m0,m1⟩,_,rfl,b,_,_,0,rfl,rfl,e0,hz2,?_⟩
    have e3:(upd H b (.lst ((V.int x :: (r++[s]).map V.int).set 0 (.int (x / m))))) b=some (.lst (.int (x / m) :: (r++[s]).map V.int)):=upd_same
    have o3:OldB b H (upd H b (.lst ((V.int x :: (r++[s]).map V.int).set 0 (.int (x / m))))):=fun c o z h=>by
      rw [upd_ne h]
      exact z
    generalize upd H b (.lst ((V.int x :: (r++[s]).map V.int).set 0 (.int (x / m))))=H3 at e3 o3
    generalize x / m=y at e3
    refine ⟨_,rfl,b,_,_,_,rfl,rfl,SqL.of e3,hz y _,rfl,_,rfl,?_⟩
    refine ite2 (fun _=>?_) (fun _=>?_)
    · refine ⟨_,rfl,.inl ⟨rfl,_,SqL.of e3⟩,b,_,0,0,_,rfl,rfl,e3,by decide,by decide,seqIx0 _,rfl,?_⟩
      refine ⟨_,rfl,k _ _ ⟨r,s,upd_same,by omega,s0,s1⟩ (fun c o z h=>?_) hr hr2⟩
      rw [upd_ne h]
      exact o3 c o z h
    · exact ⟨_,rfl,k _ H3 ⟨y :: r,s,e3,by simp; omega,s0,s1⟩ o3 hr hr2⟩
theorem scState:FnScope ["_law_script", "_law_seed", "_law_cell"] ["_law_script"] (defScope sState):=⟨rfl,rfl,rfl,by decide +kernel,rfl,by decide +kernel,by decide +kernel⟩
theorem c_state (h:Has K mg "_law_state" sState ["_law_script"]) (m_abs:mg "abs" = none):Cal P w K mg base "_law_state" 1 ["_law_script"] (spState K):=by
  refine h.mk' scState (fun vs H Q E hs=>?_) (fun f cdv A outer s H vs Q E hr hs=>?_)
  · obtain ⟨a,ms,rfl,_⟩:=hs
    rfl
  obtain ⟨a,ms,rfl,hS,h63,k⟩:=hs
  refine ⟨_,(pss_cons (ps_set (i:=1) scState.nd rfl (Or.inl rfl) pe_int)
    (pss_cons (ps_for PassesOwn.never rfl (pi_list (pe_slice sl_list (pv 0) po_none (po_some pe_int))) (pg_name (i:=2) scState.nd rfl (Or.inl rfl))
      (pss_one (ps_set (i:=1) scState.nd rfl (Or.inl rfl) (pe_op op_mod (pe_op op_add (pe_op op_add (pe_op op_mul (pv 1) pe_int) (pe_op op_mod (pv 2) (pe_op op_pow pe_int pe_int))) pe_int) pe_int))))
    (pss_one (ps_ret (pe_op op_cat (pe_compL ["_law_script", "_law_seed", "_law_cell"] (defScope sState) ["_law_cell"] [none] rfl rfl rfl (pi_list (pe_slice sl_list (pv 0) po_none (po_some pe_int))) rfl (by decide +kernel) (by decide +kernel) (by decide +kernel) (by decide +kernel) (hg:=fun cl C s H ex pn E=>(pg_name (i:=0) (by decide +kernel:(["_law_cell"]:List Str).Nodup) rfl (Or.inl rfl))) (ht:=fun cl C s H ex pn E=>(pifs_one (pt_cmpR op_ge (pe_callB call_abs rfl m_abs boot_abs (pa_cons (pv 0) pa_nil)) (pe_op op_pow pe_int pe_int) (nomark _)))) (he:=fun cl C s H ex pn E=>(pe_callB call_abs rfl m_abs boot_abs (pa_cons (pv 0) pa_nil)))) (pe_lst (pa_cons (pv 1) pa_nil))))))),?_⟩
  obtain ⟨m2,em2,hm2⟩:=cutV_ints ms none (some 63)
  refine gN ⟨_,rfl,_,rfl,a,_,rfl,hS,fun lx hlx=>?_⟩
  rw [em2]
  have s2:=same_new hlx (.lst (m2.map V.int))
  have e2:(upd H lx (.lst (m2.map V.int))) lx=some (.lst (m2.map V.int)):=upd_same
  generalize upd H lx (.lst (m2.map V.int))=H2 at s2 e2
  refine ⟨lx,rfl,⟨_,SqL.of e2⟩,?_⟩
  refine for_list (K:=K) (a:=lx) (xs:=m2.map V.int) (fun i σ H3=>∃ (v2:Option V) (s:Int),σ=[some (.ref a),some (.int s),v2]∧H3=H2∧0≤s∧s < 2305843009213693951) ⟨_,7,rfl,rfl,by decide,by decide⟩ ?_ ?_ ?_
  · rintro i σ H3 _ ⟨_,_,_,rfl,_⟩
    exact SqL.of e2
  · rintro i y σ H3 hi ⟨v2,s,rfl,rfl,a0,a1⟩
    obtain ⟨c,rfl⟩:=map_int_at hi
    refine gN ⟨_,rfl,_,_,rfl,rfl,.inl ⟨by omega,by omega⟩,_,rfl,_,_,rfl,rfl,⟨by decide,by decide,by decide⟩,_,_,rfl,rfl,by show (0:Int) < 10 ^ 40; decide,_,_,rfl,rfl,_,_,rfl,rfl,_,_,rfl,rfl,by show (0:Int) < 2305843009213693951; decide,?_⟩
    exact ⟨_,_,rfl,rfl,Int.emod_nonneg _ (by decide),Int.emod_lt_of_pos _ (by decide)⟩
  · rintro σ H3 ⟨v2,s,rfl,rfl,a0,a1⟩
    refine ⟨_,rfl,_,rfl,a,_,rfl,s2.seq hS,fun ly hly=>?_⟩
    rw [em2]
    have s3:=s2.trans (same_new hly (.lst (m2.map V.int)))
    have e3:(upd H3 ly (.lst (m2.map V.int))) ly=some (.lst (m2.map V.int)):=upd_same
    generalize upd H3 ly (.lst (m2.map V.int))=H4 at s3 e3
    refine ⟨ly,rfl,⟨_,SqL.of e3⟩,fun lc hlc=>?_⟩
    refine comp_by (J:=Itl K ly) (l:=lc) m2.length (fun i σ' H'=>∃ (v:Option V) (ns:List Int),σ'=[v]∧Same H4 H'∧H' lc=some (.lst (ns.map V.int))∧ns.length≤i) ⟨none,[],rfl,same_new hlc _,upd_same,Nat.le_refl _⟩ ?_ ?_
    · rintro σ' H5 ⟨v,ns,rfl,s5,e5,hn⟩
      refine ⟨⟨_,SqL.of (s5 _ _ e3),by rw [List.length_map]; exact Nat.le_refl _⟩,?_⟩
      refine ⟨_,rfl,smn 1,fun l6 hl6=>?_⟩
      have s6:=same_new hl6 (.lst [.int s])
      refine ⟨lc,l6,_,_,rfl,rfl,s6 _ _ e5,upd_same,?_,fun l7 hl7=>?_⟩
      · rw [List.length_map]
        exact small (by simp; omega)
      · refine k l7 _ (((s3.trans s5).trans s6).trans (same_new hl7 _)) ⟨ns,s,?_,by omega,a0,a1⟩
        rw [upd_same,List.map_append]
        rfl
    · rintro i σ' H5 hi ⟨v,ns,rfl,s5,e5,hn⟩
      have hat:(m2.map V.int)[i]?=some (.int m2[i]):=by rw [List.getElem?_map,ex_at hi]; rfl
      refine ⟨⟨_,_,SqL.of (s5 _ _ e3),hat⟩,?_⟩
      rintro y H6 ⟨rfl,hy⟩
      have ey:y=.int m2[i]:=Option.some.inj ((hy _ (SqL.of (s5 _ _ e3))).symm.trans hat)
      subst ey
      refine gN ⟨_,rfl,_,rfl,_,_,rfl,rfl,⟨by decide,by decide,by decide⟩,_,_,rfl,rfl,_,rfl,?_⟩
      refine ite2 (fun _=>?_) (fun _=>?_)
      · refine ⟨_,rfl,_,rfl,_,e5,small1000 (by rw [List.length_map]; omega),_,ns++[if m2[i] < 0 then -m2[i] else m2[i]],rfl,same_updN s5 hlc,?_,by rw [List.length_append,List.length_singleton]; omega⟩
        rw [upd_same,List.map_append]
        rfl
      · exact ⟨_,ns,rfl,s5,e5,by omega⟩
end
def sz1 (s:Stp):Nat:=(s.map fun p=>p.1.length).sum
def sz2 (s:Stp):Nat:=(s.map fun p=>p.2.length).sum
structure GoodS (i j m n:Nat) (s:Stp):Prop where
  ok:StOk m n s
  a:i+sz1 s≤m
  b:j+sz2 s≤n
  c:1≤sz1 s+sz2 s
theorem rngL_nat (i a n:Nat) (h:n=a):rngL (i:Nat) n=(List.range' i a).map fun k=>V.int (k:Nat):=by
  subst h
  unfold rngL
  rw [List.range'_eq_map_range,List.map_map]
  refine List.map_congr_left fun k _=>?_
  show V.int _=V.int _
  congr 1
theorem good_one {i j m n a b:Nat} (h1:i+a≤m) (h2:j+b≤n) (ha:a≤3) (hb:b≤3) (h:1≤a+b):GoodS i j m n [(List.range' i a,List.range' j b)]:=by
  refine ⟨⟨by simp,fun q hq=>?_⟩,?_,?_,?_⟩
  · rw [List.mem_singleton.mp hq]
    refine ⟨fun k hk=>?_,fun k hk=>?_,by simpa using ha,by simpa using hb⟩
    · have:=List.mem_range'.mp hk
      obtain ⟨t,ht,e⟩:=this
      omega
    · have:=List.mem_range'.mp hk
      obtain ⟨t,ht,e⟩:=this
      omega
  · simpa [sz1] using h1
  · simpa [sz2] using h2
  · simpa [sz1,sz2] using h
theorem good_two {i j m n:Nat} (h1:i+2≤m) (h2:j+2≤n):GoodS i j m n [([i],[j+1]),([i+1],[j])]:=by
  refine ⟨⟨by simp,fun q hq=>?_⟩,by simpa [sz1] using h1,by simpa [sz2] using h2,by simp [sz1,sz2]⟩
  simp only [List.mem_cons,List.not_mem_nil,or_false] at hq
  rcases hq with rfl | rfl
  · exact ⟨fun k hk=>by simp at hk; omega,fun k hk=>by simp at hk; omega,by simp,by simp⟩
  · exact ⟨fun k hk=>by simp at hk; omega,fun k hk=>by simp at hk; omega,by simp,by simp⟩
def spSteps:Sp:=fun vs H Q _=>∃ (i j m n:Nat),vs=[.int (i:Nat),.int (j:Nat),.int (m:Nat),.int (n:Nat)]∧i≤m∧j≤n∧m≤1000∧n≤1000∧(i < m∨j < n) ∧
  ∀ (l:Addr) (us:List V) (ss:List Stp) (H':Hp),Same H H'→H l=none→H' l=some (.lst us)→DenL H' us (ss.map stD)→ss≠[]→ss.length≤100→(∀ s∈ss,GoodS i j m n s)→Q (.ref l) H'
def spOn:Sp:=fun vs H Q _=>∃ (v:V) (s:Stp) (i j:Int),vs=[v,.int i,.int j]∧Den H v (stD s)∧s.length≤2∧∀ (p:Addr) (H':Hp),Same H H'→H' p=some (.tup [.int (i+(sz1 s:Nat)),.int (j+(sz2 s:Nat))])→Q (.ref p) H'
theorem kt_of {H:Hp} {l:Addr} {us ws:List V} (e:H l=some (.lst us)):∀ (b:Addr) (vs:List V),H b=some (.tup vs)→(upd H l (.lst ws)) b=some (.tup vs):=fun b vs z=>by
  rw [upd_ne]
  · exact z
  · intro q
    rw [q,e] at z
    cases z
theorem denl_map_snoc {H:Hp} {us:List V} {v:V} {ss:List Stp} {s:Stp} (h:DenL H us (ss.map stD)) (hv:Den H v (stD s)):DenL H (us++[v]) ((ss++[s]).map stD):=by
  rw [List.map_append]
  exact h.snoc hv
section
variable {P:Program} {w:World} {K:PySem.W.Frag} {mg:Str→Option Value} {base:Heap}
theorem scSteps:FnScope ["_law_i", "_law_j", "_law_m", "_law_n", "_law_steps_here", "_law_a", "_law_b"] ["_law_i", "_law_j", "_law_m", "_law_n"] (defScope sSteps):=⟨rfl,rfl,rfl,by decide +kernel,rfl,by decide +kernel,by decide +kernel⟩
theorem c_steps (h:Has K mg "_law_steps" sSteps ["_law_i", "_law_j", "_law_m", "_law_n"]) (m_range:mg "range" = none) (m_min:mg "min" = none) (m_tuple:mg "tuple" = none):Cal P w K mg base "_law_steps" 1 ["_law_i", "_law_j", "_law_m", "_law_n"] spSteps:=by
  refine h.mk' scSteps (fun vs H Q E hs=>?_) (fun f cdv A outer s H vs Q E hr hs=>?_)
  · obtain ⟨i,j,m,n,rfl,_⟩:=hs
    rfl
  obtain ⟨i,j,m,n,rfl,him,hjn,hm,hn,hlt,k⟩:=hs
  refine ⟨_,(pss_cons (ps_set (i:=4) scSteps.nd rfl (Or.inl rfl) (pe_lst pa_nil))
    (pss_cons (ps_for PassesOwn.never rfl (pi_range1 rfl m_range (pa_cons pe_int pa_nil)) (pg_name (i:=5) scSteps.nd rfl (Or.inl rfl))
      (pss_one (ps_for PassesOwn.never rfl (pi_range1 rfl m_range (pa_cons pe_int pa_nil)) (pg_name (i:=6) scSteps.nd rfl (Or.inl rfl))
      (pss_one (ps_if (PW.pt (pw_and (pt_cmpR op_le (pe_op op_add (pv 0) (pv 5)) (pv 2) (nomark _)) (pw_and (pt_cmpR op_le (pe_op op_add (pv 1) (pv 6)) (pv 3) (nomark _)) (pw_and1 (PW.pt (pw_or (pt_cmpR op_eq (pe_op op_add (pv 5) (pv 6)) pe_int (nomark _)) (pw_or1 (pt_cmpR op_eq (pe_callB (call_min2 rfl) rfl m_min boot_min (pa_cons (pv 5) (pa_cons (pv 6) pa_nil))) pe_int (nomark _)))))))))
      (pss_one (ps_expr (pe_bm PySem.F.plainAttrs_list PySem.F.slot_list_append PySem.F.type_list_append mt_append (pv 4) (pa_cons (pe_tup (pa_cons (pe_tup (pa_cons (pe_tupR rfl rfl m_tuple rfl m_range (pa_cons (pv 0) (pa_cons (pe_op op_add (pv 0) (pv 5)) pa_nil))) (pa_cons (pe_tupR rfl rfl m_tuple rfl m_range (pa_cons (pv 1) (pa_cons (pe_op op_add (pv 1) (pv 6)) pa_nil))) pa_nil))) pa_nil)) pa_nil))))
      pss_nil)))))
    (pss_cons (ps_if (PW.pt (pw_and (pt_cmpR op_le (pe_op op_add (pv 0) pe_int) (pv 2) (nomark _)) (pw_and1 (pt_cmpR op_le (pe_op op_add (pv 1) pe_int) (pv 3) (nomark _)))))
      (pss_one (ps_expr (pe_bm PySem.F.plainAttrs_list PySem.F.slot_list_append PySem.F.type_list_append mt_append (pv 4) (pa_cons (pe_tup (pa_cons (pe_tup (pa_cons (pe_tup (pa_cons (pv 0) pa_nil)) (pa_cons (pe_tup (pa_cons (pe_op op_add (pv 1) pe_int) pa_nil)) pa_nil))) (pa_cons (pe_tup (pa_cons (pe_tup (pa_cons (pe_op op_add (pv 0) pe_int) pa_nil)) (pa_cons (pe_tup (pa_cons (pv 1) pa_nil)) pa_nil))) pa_nil))) pa_nil))))
      pss_nil)
    (pss_one (ps_ret (pv 4)))))),?_⟩
  refine ⟨smn 0,fun l hl=>?_⟩
  refine gN ⟨4,rfl,by omega,by omega,?_⟩
  refine for_range (lo:=0) (n:=4) (fun a σ H1=>∃ (v5 v6:Option V) (us:List V) (ss:List Stp),σ=[some (.int (i:Nat)),some (.int (j:Nat)),some (.int (m:Nat)),some (.int (n:Nat)),some (.ref l),v5,v6]∧Same H H1∧H1 l=some (.lst us)∧DenL H1 us (ss.map stD)∧(∀ s∈ss,GoodS i j m n s)∧ss.length≤4 * a∧(1≤a→j < n→ss≠[])∧(2≤a→i < m→ss≠[])) ⟨_,_,[],[],rfl,same_new hl _,upd_same,trivial,(fun s hs=>nomatch hs),Nat.zero_le _,fun z=>absurd z (by omega),fun z=>absurd z (by omega)⟩ ?_ ?_
  · rintro a σ H1 ha ⟨v5,v6,us,ss,rfl,s1,e1,d1,g1,l1,n1,n2⟩
    refine gN ⟨4,rfl,by omega,by omega,?_⟩
    refine for_range (lo:=0) (n:=4) (fun b σ H2=>∃ (v6:Option V) (us:List V) (ss:List Stp),σ=[some (.int (i:Nat)),some (.int (j:Nat)),some (.int (m:Nat)),some (.int (n:Nat)),some (.ref l),some (.int (0+(a:Nat))),v6]∧Same H H2∧H2 l=some (.lst us)∧DenL H2 us (ss.map stD)∧(∀ s∈ss,GoodS i j m n s)∧ss.length≤4 * a+b∧(1≤a→j < n→ss≠[])∧(2≤a→i < m→ss≠[])∧(a=0→2≤b→j < n→ss≠[])∧(a=1→1≤b→i < m→ss≠[])) ⟨_,us,ss,rfl,s1,e1,d1,g1,l1,n1,n2,fun _ z=>absurd z (by omega),fun _ z=>absurd z (by omega)⟩ ?_ ?_
    · rintro b σ H2 hb ⟨v6,us,ss,rfl,s2,e2,d2,g2,l2,m1,m2,m3,m4⟩
      have hno:¬ (i+a≤m∧j+b≤n∧(a+b=1∨min a b=1))→∃ (w6:Option V) (us':List V) (ss':List Stp),[some (.int (i:Nat)),some (.int (j:Nat)),some (.int (m:Nat)),some (.int (n:Nat)),some (.ref l),some (.int (0+(a:Nat))),some (.int (0+(b:Nat)))]=[some (.int (i:Nat)),some (.int (j:Nat)),some (.int (m:Nat)),some (.int (n:Nat)),some (.ref l),some (.int (0+(a:Nat))),w6]∧Same H H2∧H2 l=some (.lst us')∧DenL H2 us' (ss'.map stD)∧(∀ s∈ss',GoodS i j m n s)∧ss'.length≤4 * a+(b+1)∧(1≤a→j < n→ss'≠[])∧(2≤a→i < m→ss'≠[])∧(a=0→2≤b+1→j < n→ss'≠[])∧(a=1→1≤b+1→i < m→ss'≠[]):=fun z=>by
        refine ⟨_,us,ss,rfl,s2,e2,d2,g2,by omega,m1,m2,fun q1 q2 q3=>?_,fun q1 q2 q3=>?_⟩
        · by_cases h:2≤b
          · exact m3 q1 h q3
          · exact absurd ⟨by omega,by omega,.inl (by omega)⟩ z
        · by_cases h:1≤b
          · exact m4 q1 h q3
          · exact absurd ⟨by omega,by omega,.inl (by omega)⟩ z
      refine gN ⟨_,rfl,_,rfl,_,_,rfl,rfl,_,rfl,_,_,rfl,rfl,_,rfl,?_⟩
      refine ite2 (fun z1=>?_) (fun z1=>iteF (hno fun q=>z1 (decide_eq_true (by have:=q.1; omega))))
      have w1:=of_decide_eq_true z1
      refine ⟨_,rfl,_,rfl,_,_,rfl,rfl,_,rfl,_,_,rfl,rfl,_,rfl,?_⟩
      refine ite2 (fun z2=>?_) (fun z2=>iteF (hno fun q=>z2 (decide_eq_true (by have:=q.2.1; omega))))
      have w2:=of_decide_eq_true z2
      refine ⟨_,rfl,_,rfl,_,_,rfl,rfl,rfl,_,rfl,?_⟩
      refine (fun (hb':(a+b=1∨min a b=1)→_)=>ite2 (fun z3=>iteT (hb' (.inl (by have:=of_decide_eq_true z3; injection this with this; omega)))) (fun z3=>⟨_,rfl,_,rfl,_,_,rfl,rfl,_,rfl,ite2 (fun z4=>hb' (.inr (by
        have:=of_decide_eq_true z4
        injection this with this
        split at this <;> omega))) (fun z4=>hno fun q=>by
        rcases q.2.2 with q | q
        · exact z3 (decide_eq_true (by show V.int ((0+(a:Int))+(0+(b:Int)))=V.int 1; rw [show (0+(a:Int))+(0+(b:Int))=1 by omega]))
        · refine z4 (decide_eq_true ?_)
          show V.int (if (0+(b:Int)) < 0+(a:Int) then 0+(b:Int) else 0+(a:Int))=V.int 1
          rw [show (if (0+(b:Int)) < 0+(a:Int) then 0+(b:Int) else 0+(a:Int))=1 by split <;> omega])⟩)) ?_
      intro hc
      refine ⟨_,rfl,.inl ⟨rfl,_,SqL.of e2⟩,_,rfl,_,rfl,_,rfl,_,_,rfl,rfl,_,_,rfl,⟨by omega,by omega,by omega,by omega⟩,by omega,fun p hp=>?_⟩
      rw [rngL_nat i a _ (by omega)]
      refine ⟨_,rfl,_,rfl,_,rfl,_,_,rfl,rfl,_,_,rfl,⟨by omega,by omega,by omega,by omega⟩,by omega,fun q hq=>?_⟩
      rw [rngL_nat j b _ (by omega)]
      refine ⟨smn 2,fun c hc'=>⟨smn 1,fun f hf=>?_⟩⟩
      have t1:=same_new hp (.tup ((List.range' i a).map fun k=>V.int (k:Nat)))
      have t2:=same_new hq (.tup ((List.range' j b).map fun k=>V.int (k:Nat)))
      have t3:=same_new hc' (.tup [.ref p,.ref q])
      have t4:=same_new hf (.tup [.ref c])
      have dn:=den_nD_of (H:=upd H2 p (.tup ((List.range' i a).map fun k=>V.int (k:Nat)))) (p:=p) (is:=List.range' i a) upd_same
      generalize upd H2 p (.tup ((List.range' i a).map fun k=>V.int (k:Nat)))=Ha at t1 t2 t3 t4 dn
      have dn2:=den_nD_of (H:=upd Ha q (.tup ((List.range' j b).map fun k=>V.int (k:Nat)))) (p:=q) (is:=List.range' j b) upd_same
      generalize upd Ha q (.tup ((List.range' j b).map fun k=>V.int (k:Nat)))=Hb at t2 t3 t4 dn2
      have dn3:Den (upd Hb c (.tup [.ref p,.ref q])) (.ref c) (lkD (List.range' i a,List.range' j b)):=⟨c,_,rfl,upd_same,dn.same (t2.trans t3),dn2.same t3,trivial⟩
      generalize upd Hb c (.tup [.ref p,.ref q])=Hc at t3 t4 dn3
      have dn4:Den (upd Hc f (.tup [.ref c])) (.ref f) (stD [(List.range' i a,List.range' j b)]):=⟨f,_,rfl,upd_same,dn3.same t4,trivial⟩
      generalize upd Hc f (.tup [.ref c])=Hd at t4 dn4
      have t:=((t1.trans t2).trans t3).trans t4
      have e5:=t _ _ e2
      have hul:=d2.len
      rw [List.length_map] at hul
      refine ⟨l,_,_,rfl,rfl,e5,by rw [hul]; exact small1000 (by omega),_,us++[.ref f],ss++[[(List.range' i a,List.range' j b)]],rfl,same_updN (s2.trans t) hl,upd_same,denl_map_snoc ((d2.same t).keepT (kt_of e5)) (dn4.keepT (kt_of e5)),fun s hs=>?_,by rw [List.length_append,List.length_singleton]; omega,?_,?_,?_,?_⟩
      · rcases List.mem_append.mp hs with hs | hs
        · exact g2 s hs
        · rw [List.mem_singleton.mp hs]
          exact good_one (by omega) (by omega) (by omega) (by omega) (by rcases hc with h | h <;> omega)
      · intro _ _ z
        simp at z
      · intro _ _ z
        simp at z
      · intro _ _ _ z
        simp at z
      · intro _ _ _ z
        simp at z
    · rintro σ H2 ⟨v6,us,ss,rfl,s2,e2,d2,g2,l2,m1,m2,m3,m4⟩
      refine ⟨_,_,us,ss,rfl,s2,e2,d2,g2,by omega,fun q1 q2=>?_,fun q1 q2=>?_⟩
      · by_cases h:1≤a
        · exact m1 h q2
        · exact m3 (by omega) (by omega) q2
      · by_cases h:2≤a
        · exact m2 h q2
        · exact m4 (by omega) (by omega) q2
  · rintro σ H1 ⟨v5,v6,us,ss,rfl,s1,e1,d1,g1,l1,n1,n2⟩
    have hne:ss≠[]:=by
      rcases hlt with h | h
      · exact n2 (by omega) h
      · exact n1 (by omega) h
    refine ⟨_,rfl,_,_,rfl,rfl,_,rfl,_,_,rfl,rfl,_,rfl,?_⟩
    refine ite2 (fun z1=>?_) (fun z1=>iteF ⟨_,rfl,k l us ss H1 s1 hl e1 d1 hne (by omega) g1⟩)
    have w1:=of_decide_eq_true z1
    refine ⟨_,rfl,_,_,rfl,rfl,_,rfl,_,_,rfl,rfl,_,rfl,?_⟩
    refine ite2 (fun z2=>?_) (fun z2=>⟨_,rfl,k l us ss H1 s1 hl e1 d1 hne (by omega) g1⟩)
    have w2:=of_decide_eq_true z2
    refine ⟨_,rfl,.inl ⟨rfl,_,SqL.of e1⟩,_,rfl,smn 1,fun p1 hp1=>⟨_,rfl,_,_,rfl,rfl,smn 1,fun p2 hp2=>⟨smn 2,fun p3 hp3=>⟨_,rfl,_,_,rfl,rfl,smn 1,fun p4 hp4=>⟨_,rfl,smn 1,fun p5 hp5=>⟨smn 2,fun p6 hp6=>⟨smn 2,fun f hf=>?_⟩⟩⟩⟩⟩⟩⟩
    have t1:=same_new hp1 (.tup [.int (i:Nat)])
    have t2:=same_new hp2 (.tup [.int ((j:Nat)+1)])
    have t3:=same_new hp3 (.tup [.ref p1,.ref p2])
    have t4:=same_new hp4 (.tup [.int ((i:Nat)+1)])
    have t5:=same_new hp5 (.tup [.int (j:Nat)])
    have t6:=same_new hp6 (.tup [.ref p4,.ref p5])
    have t7:=same_new hf (.tup [.ref p3,.ref p6])
    have q1:=den_nD_of (H:=upd H1 p1 (.tup [.int (i:Nat)])) (p:=p1) (is:=[i]) upd_same
    generalize upd H1 p1 (.tup [.int (i:Nat)])=Ha at t1 t2 t3 t4 t5 t6 t7 q1
    have q2:=den_nD_of (H:=upd Ha p2 (.tup [.int ((j:Nat)+1)])) (p:=p2) (is:=[j+1]) upd_same
    generalize upd Ha p2 (.tup [.int ((j:Nat)+1)])=Hb at t2 t3 t4 t5 t6 t7 q2
    have q3:Den (upd Hb p3 (.tup [.ref p1,.ref p2])) (.ref p3) (lkD ([i],[j+1])):=⟨p3,_,rfl,upd_same,q1.same (t2.trans t3),q2.same t3,trivial⟩
    generalize upd Hb p3 (.tup [.ref p1,.ref p2])=Hc at t3 t4 t5 t6 t7 q3
    have q4:=den_nD_of (H:=upd Hc p4 (.tup [.int ((i:Nat)+1)])) (p:=p4) (is:=[i+1]) upd_same
    generalize upd Hc p4 (.tup [.int ((i:Nat)+1)])=Hd at t4 t5 t6 t7 q4
    have q5:=den_nD_of (H:=upd Hd p5 (.tup [.int (j:Nat)])) (p:=p5) (is:=[j]) upd_same
    generalize upd Hd p5 (.tup [.int (j:Nat)])=He at t5 t6 t7 q5
    have q6:Den (upd He p6 (.tup [.ref p4,.ref p5])) (.ref p6) (lkD ([i+1],[j])):=⟨p6,_,rfl,upd_same,q4.same (t5.trans t6),q5.same t6,trivial⟩
    generalize upd He p6 (.tup [.ref p4,.ref p5])=Hf at t6 t7 q6
    have q7:Den (upd Hf f (.tup [.ref p3,.ref p6])) (.ref f) (stD [([i],[j+1]),([i+1],[j])]):=⟨f,_,rfl,upd_same,q3.same (((t4.trans t5).trans t6).trans t7),q6.same t7,trivial⟩
    generalize upd Hf f (.tup [.ref p3,.ref p6])=Hg at t7 q7
    have t:=(((((t1.trans t2).trans t3).trans t4).trans t5).trans t6).trans t7
    have e5:=t _ _ e1
    have hul:=d1.len
    rw [List.length_map] at hul
    refine ⟨l,_,_,rfl,rfl,e5,by rw [hul]; exact small1000 (by omega),_,rfl,?_⟩
    refine k l (us++[.ref f]) (ss++[[([i],[j+1]),([i+1],[j])]]) _ (same_updN (s1.trans t) hl) hl upd_same (denl_map_snoc ((d1.same t).keepT (kt_of e5)) (q7.keepT (kt_of e5))) (by simp) (by rw [List.length_append,List.length_singleton]; omega) fun s hs=>?_
    rcases List.mem_append.mp hs with hs | hs
    · exact g1 s hs
    · rw [List.mem_singleton.mp hs]
      exact good_two (by omega) (by omega)
theorem scOn:FnScope ["_law_step", "_law_i", "_law_j"] ["_law_step", "_law_i", "_law_j"] (defScope sOn):=⟨rfl,rfl,rfl,by decide +kernel,rfl,by decide +kernel,by decide +kernel⟩
theorem c_on (h:Has K mg "_law_on" sOn ["_law_step", "_law_i", "_law_j"]) (m_sum:mg "sum" = none) (m_len:mg "len" = none):Cal P w K mg base "_law_on" 1 ["_law_step", "_law_i", "_law_j"] spOn:=by
  refine h.mk' scOn (fun vs H Q E hs=>?_) (fun f cdv A outer s H vs Q E hr hs=>?_)
  · obtain ⟨v,s,i,j,rfl,_⟩:=hs
    rfl
  obtain ⟨v,s,i,j,rfl,hv,hl2,k⟩:=hs
  refine ⟨_,(pss_one (ps_ret (pe_tup (pa_cons (pe_op op_add (pv 1) (pe_callB (call_sumE rfl) rfl m_sum boot_sum (pa_cons (pe_compL ["_law_step", "_law_i", "_law_j"] (defScope sOn) ["_law_ones", "_law_others"] [none,none] rfl rfl rfl (pi_tup (pv 0)) rfl (by decide +kernel) (by decide +kernel) (by decide +kernel) (by decide +kernel) (g:=gTup K 2 (gCons (gName 0) (gCons (gName 1) gNil))) (hg:=fun cl C s H ex pn E=>pg_tup (n:=2) rfl (pgs_cons (pg_name (i:=0) (by decide +kernel:(["_law_ones", "_law_others"]:List Str).Nodup) rfl (Or.inl rfl) (Or.inr rfl)) (pgs_cons (pg_name (i:=1) (by decide +kernel:(["_law_ones", "_law_others"]:List Str).Nodup) rfl (Or.inl rfl) (Or.inr rfl)) pgs_nil))) (ht:=fun cl C s H ex pn E=>pifs_nil) (he:=fun cl C s H ex pn E=>(pe_callB (call_len_seqK (K:=K) rfl) rfl m_len PySem.boot_len (pa_cons (pv 0) pa_nil)))) pa_nil))) (pa_cons (pe_op op_add (pv 2) (pe_callB (call_sumE rfl) rfl m_sum boot_sum (pa_cons (pe_compL ["_law_step", "_law_i", "_law_j"] (defScope sOn) ["_law_ones", "_law_others"] [none,none] rfl rfl rfl (pi_tup (pv 0)) rfl (by decide +kernel) (by decide +kernel) (by decide +kernel) (by decide +kernel) (g:=gTup K 2 (gCons (gName 0) (gCons (gName 1) gNil))) (hg:=fun cl C s H ex pn E=>pg_tup (n:=2) rfl (pgs_cons (pg_name (i:=0) (by decide +kernel:(["_law_ones", "_law_others"]:List Str).Nodup) rfl (Or.inl rfl) (Or.inr rfl)) (pgs_cons (pg_name (i:=1) (by decide +kernel:(["_law_ones", "_law_others"]:List Str).Nodup) rfl (Or.inl rfl) (Or.inr rfl)) pgs_nil))) (ht:=fun cl C s H ex pn E=>pifs_nil) (he:=fun cl C s H ex pn E=>(pe_callB (call_len_seqK (K:=K) rfl) rfl m_len PySem.boot_len (pa_cons (pv 1) pa_nil)))) pa_nil))) pa_nil))))),?_⟩
  obtain ⟨q,ls,rfl,hq,dl⟩:=den_tup hv
  have hll:=dl.len
  rw [List.length_map] at hll
  have hcst:∀ f:Lk→Nat,(s.map fun p=>((f p:Nat):Int)).sum=(((s.map f).sum:Nat):Int):=fun f=>by
    clear hv hl2 k dl hll
    induction s with
    | nil=>rfl
    | cons p r ih =>
      rw [List.map_cons,List.sum_cons,List.map_cons,List.sum_cons,ih]
      exact (Int.natCast_add _ _).symm
  refine ⟨_,rfl,_,rfl,q,rfl,⟨_,SqT.of hq⟩,fun l hl=>?_⟩
  refine comp_by (J:=Itt K q) (l:=l) s.length (fun i σ' H'=>∃ v0 v1:Option V,σ'=[v0,v1]∧Same H H'∧H' l=some (.lst (((s.take i).map fun p=>((p.1.length:Nat):Int)).map V.int))) ⟨none,none,rfl,same_new hl _,upd_same⟩ ?_ ?_
  · rintro σ' H1 ⟨v0,v1,rfl,s1,e1⟩
    rw [List.take_length] at e1
    refine ⟨⟨_,SqT.of (s1 _ _ hq),by omega⟩,l,_,rfl,SqL.of e1,_,_,rfl,rfl,?_⟩
    rw [hcst fun p=>p.1.length]
    refine ⟨_,rfl,_,rfl,q,rfl,⟨_,SqT.of (s1 _ _ hq)⟩,fun m hm=>?_⟩
    refine comp_by (J:=Itt K q) (l:=m) s.length (fun i σ' H'=>∃ v0 v1:Option V,σ'=[v0,v1]∧Same H1 H'∧H' m=some (.lst (((s.take i).map fun p=>((p.2.length:Nat):Int)).map V.int))) ⟨none,none,rfl,same_new hm _,upd_same⟩ ?_ ?_
    · rintro σ' H2 ⟨v0,v1,rfl,s2,e2⟩
      rw [List.take_length] at e2
      refine ⟨⟨_,SqT.of (s2 _ _ (s1 _ _ hq)),by omega⟩,m,_,rfl,SqL.of e2,_,_,rfl,rfl,?_⟩
      rw [hcst fun p=>p.2.length]
      refine ⟨smn 2,fun r hr=>?_⟩
      exact k r _ ((s1.trans s2).trans (same_new hr _)) upd_same
    · rintro x σ' H2 hx ⟨v0,v1,rfl,s2,e2⟩
      have hxl:x < ls.length:=by omega
      have hat:=ex_at hxl
      refine ⟨⟨_,_,SqT.of (s2 _ _ (s1 _ _ hq)),hat⟩,?_⟩
      rintro y H3 ⟨rfl,hy⟩
      have ey:y=ls[x]:=Option.some.inj ((hy _ (SqT.of (s2 _ _ (s1 _ _ hq)))).symm.trans hat)
      have dy:Den H y (lkD s[x]):=by rw [ey]; exact at_of dl hat (by rw [List.getElem?_map,ex_at hx]; rfl)
      obtain ⟨c,a,b,rfl,hc,ha,hb⟩:=den_lkD (dy.same (s1.trans s2))
      refine ⟨c,_,rfl,SqT.of hc,rfl,_,_,rfl,_,_,rfl,rfl,yesT (iteT ?_)⟩
      refine ⟨_,rfl,b,_,rfl,.inr (SqT.of hb),_,e2,?_,_,_,rfl,same_updN s2 hm,?_⟩
      · rw [List.length_map,List.length_map,List.length_take]
        exact small1000 (by omega)
      · rw [upd_same,take_one (ex_at hx),List.map_append,List.map_append,List.length_map]
        rfl
  · rintro x σ' H1 hx ⟨v0,v1,rfl,s1,e1⟩
    have hxl:x < ls.length:=by omega
    have hat:=ex_at hxl
    refine ⟨⟨_,_,SqT.of (s1 _ _ hq),hat⟩,?_⟩
    rintro y H3 ⟨rfl,hy⟩
    have ey:y=ls[x]:=Option.some.inj ((hy _ (SqT.of (s1 _ _ hq))).symm.trans hat)
    have dy:Den H y (lkD s[x]):=by rw [ey]; exact at_of dl hat (by rw [List.getElem?_map,ex_at hx]; rfl)
    obtain ⟨c,a,b,rfl,hc,ha,hb⟩:=den_lkD (dy.same s1)
    refine ⟨c,_,rfl,SqT.of hc,rfl,_,_,rfl,_,_,rfl,rfl,yesT (iteT ?_)⟩
    refine ⟨_,rfl,a,_,rfl,.inr (SqT.of ha),_,e1,?_,_,_,rfl,same_updN s1 hl,?_⟩
    · rw [List.length_map,List.length_map,List.length_take]
      exact small1000 (by omega)
    · rw [upd_same,take_one (ex_at hx),List.map_append,List.map_append,List.length_map]
      rfl
end
def spAnyWay:Sp:=fun vs H Q _=>∃ (b:Addr) (m n:Nat),vs=[.ref b,.int (m:Nat),.int (n:Nat)]∧PotAt b H∧m≤20∧n≤20∧∀ (r:V) (w:Wy) (H':Hp),PotAt b H'→OldB b H H'→Den H' r (wyD w)→WyOk m n w→Q r H'
def wayI (H:Hp) (b l:Addr) (m n:Nat) (k:Nat) (σ:L2.St) (H1:Hp):Prop:=∃ (v6:Option V) (i j:Nat) (us:List V) (w:Wy),σ=[some (.ref b),some (.int (m:Nat)),some (.int (n:Nat)),some (.ref l),some (.int (i:Nat)),some (.int (j:Nat)),v6] ∧
  k+(i+j)=m+n∧PotAt b H1∧OldB b H H1∧H1 l=some (.lst us)∧DenL H1 us (w.map stD)∧(∀ s∈w,StOk m n s)∧i≤m∧j≤n∧w.length≤i+j
theorem shal_ij (i j:Int):Shal 1 (.tup [.int i,.int j]):=⟨(fun z=>nomatch z),fun ds e=>by
  injection e with e
  subst e
  refine ⟨by simp,fun d hd=>?_⟩
  simp only [List.mem_cons,List.not_mem_nil,or_false] at hd
  rcases hd with rfl | rfl <;> exact shal_int _⟩
theorem sim_ij (i j m n:Int):SimL [.int i,.int j] [.int m,.int n]:=⟨trivial,trivial,trivial⟩
section
variable {P:Program} {w:World} {K:PySem.W.Frag} {mg:Str→Option Value} {base:Heap}
theorem scAnyWay:FnScope ["_law_pot", "_law_m", "_law_n", "_law_way", "_law_i", "_law_j", "_law_steps_here"] ["_law_pot", "_law_m", "_law_n"] (defScope sAnyWay):=⟨rfl,rfl,rfl,by decide +kernel,rfl,by decide +kernel,by decide +kernel⟩
theorem c_any_way (h:Has K mg "_law_any_way" sAnyWay ["_law_pot", "_law_m", "_law_n"]) (C_steps:Cal P w K mg base "_law_steps" 1 ["_law_i", "_law_j", "_law_m", "_law_n"] spSteps) (C_next:Cal P w K mg base "_law_next" 1 ["_law_pot", "_law_many"] spNext) (C_on:Cal P w K mg base "_law_on" 1 ["_law_step", "_law_i", "_law_j"] spOn) (m_len:mg "len" = none) (m_tuple:mg "tuple" = none):Cal P w K mg base "_law_any_way" 2 ["_law_pot", "_law_m", "_law_n"] spAnyWay:=by
  refine h.mk' scAnyWay (fun vs H Q E hs=>?_) (fun f cdv A outer s H vs Q E hr hs=>?_)
  · obtain ⟨b,m,n,rfl,_⟩:=hs
    rfl
  obtain ⟨b,m,n,rfl,hp,hm,hn,k⟩:=hs
  refine ⟨_,(pss_cons (ps_set (i:=3) scAnyWay.nd rfl (Or.inl rfl) (pe_lst pa_nil))
    (pss_cons (ps_asg (pe_tup (pa_cons pe_int (pa_cons pe_int pa_nil))) (pg_tup rfl (pgs_cons (pg_name (i:=4) scAnyWay.nd rfl (Or.inl rfl)) (pgs_cons (pg_name (i:=5) scAnyWay.nd rfl (Or.inl rfl)) pgs_nil))))
    (pss_cons (ps_while PassesOwn.never (pt_cmpR (op_neDt hr.units) (pe_tup (pa_cons (pv 4) (pa_cons (pv 5) pa_nil))) (pe_tup (pa_cons (pv 1) (pa_cons (pv 2) pa_nil))) (nomark _))
      (pss_cons (ps_set (i:=6) scAnyWay.nd rfl (Or.inl rfl) (pe_cal C_steps hr (by decide) rfl (pa_cons (pv 4) (pa_cons (pv 5) (pa_cons (pv 1) (pa_cons (pv 2) pa_nil))))))
    (pss_cons (ps_expr (pe_bm PySem.F.plainAttrs_list PySem.F.slot_list_append PySem.F.type_list_append mt_append (pv 3) (pa_cons (pe_ix ix_list (pv 6) (pe_cal C_next hr (by decide) rfl (pa_cons (pv 0) (pa_cons (pe_callB call_len_seq rfl m_len PySem.boot_len (pa_cons (pv 6) pa_nil)) pa_nil))) (fun _ _=>rfl)) pa_nil)))
    (pss_one (ps_asg (pe_cal C_on hr (by decide) rfl (pa_cons (pe_ix ix_list (pv 3) (pe_un un_neg pe_int) (fun _ _=>rfl)) (pa_cons (pv 4) (pa_cons (pv 5) pa_nil)))) (pg_tup rfl (pgs_cons (pg_name (i:=4) scAnyWay.nd rfl (Or.inl rfl)) (pgs_cons (pg_name (i:=5) scAnyWay.nd rfl (Or.inl rfl)) pgs_nil))))))))
    (pss_one (ps_ret (pe_callTy call_tuple_of rfl m_tuple boot_tuple (pa_cons (pv 3) pa_nil))))))),?_⟩
  refine ⟨smn 0,fun l hl=>?_⟩
  have nlb:l≠b:=hp.ne hl
  refine gN ⟨smn 2,fun tz htz=>⟨tz,_,rfl,SqT.of upd_same,rfl,_,_,rfl,_,_,rfl,rfl,?_⟩⟩
  have s0:=(same_new hl (.lst [])).trans (same_new htz (.tup [.int 0,.int 0]))
  have e0:(upd (upd H l (.lst [])) tz (.tup [.int 0,.int 0])) l=some (.lst []):=same_new htz _ _ _ upd_same
  generalize upd (upd H l (.lst [])) tz (.tup [.int 0,.int 0])=H0 at s0 e0
  refine ⟨wayI H b l m n,⟨m+n,_,0,0,[],[],rfl,rfl,hp.same s0,.of s0,e0,trivial,(fun s hs=>nomatch hs),Nat.zero_le _,Nat.zero_le _,Nat.le_refl _⟩,?_⟩
  rintro kk σ H1 ⟨v6,i,j,us,w,rfl,hk,p1,o1,e1,d1,g1,him,hjn,hwl⟩
  refine ⟨_,rfl,_,rfl,smn 2,fun ta hta=>⟨_,rfl,_,rfl,smn 2,fun tb htb=>?_⟩⟩
  have t1:=same_new hta (.tup [.int (i:Nat),.int (j:Nat)])
  have t2:=same_new htb (.tup [.int (m:Nat),.int (n:Nat)])
  have da:Den (upd H1 ta (.tup [.int (i:Nat),.int (j:Nat)])) (.ref ta) (.tup [.int (i:Nat),.int (j:Nat)]):=⟨ta,_,rfl,upd_same,rfl,rfl,trivial⟩
  generalize upd H1 ta (.tup [.int (i:Nat),.int (j:Nat)])=Ha at t1 t2 da
  have db:Den (upd Ha tb (.tup [.int (m:Nat),.int (n:Nat)])) (.ref tb) (.tup [.int (m:Nat),.int (n:Nat)]):=⟨tb,_,rfl,upd_same,rfl,rfl,trivial⟩
  have da2:=da.same t2
  have t:=t1.trans t2
  generalize upd Ha tb (.tup [.int (m:Nat),.int (n:Nat)])=H2 at t2 t db da2
  refine ⟨_,_,0,da2,db,shal_ij _ _,shal_ij _ _,by decide,sim_ij _ _ _ _,_,rfl,?_⟩
  have p2:=p1.same t
  have e2:=t _ _ e1
  have d2:=d1.same t
  have o2:OldB b H H2:=o1.trans (.of t)
  refine ite2 (fun z=>?_) (fun z=>?_)
  · have hlt:i < m∨j < n:=by
      by_cases h:i=m∧j=n
      · obtain ⟨rfl,rfl⟩:=h
        rw [eqD_self] at z
        exact absurd z (by decide)
      · omega
    refine ⟨fun σ' H'=>∃ m',m' < kk∧wayI H b l m n m' σ' H',fun _ _ q=>q,?_⟩
    refine ⟨_,rfl,_,rfl,_,rfl,_,rfl,i,j,m,n,rfl,him,hjn,by omega,by omega,hlt,fun l3 us3 ss H3 s3 hf3 e3 d3 ne3 len3 g3=>?_⟩
    have n3b:l3≠b:=p2.ne hf3
    have hul:=d3.len
    rw [List.length_map] at hul
    have hpos:0 < ss.length:=List.length_pos_iff.mpr ne3
    refine gN ⟨_,rfl,.inl ⟨rfl,_,SqL.of (s3 _ _ e2)⟩,_,rfl,_,rfl,_,rfl,l3,_,rfl,.inl (SqL.of e3),b,_,rfl,p2.same s3,by omega,by omega,fun r H4 p4 o4 r0 r1=>?_⟩
    have e4:=o4 _ _ e3 n3b
    have hr:r.toNat < us3.length:=by omega
    have er:((r.toNat:Nat):Int)=r:=by omega
    have hat:atI us3 r=some us3[r.toNat]:=by
      have:=atI_nat (ex_at hr)
      rwa [er] at this
    have hrs:r.toNat < ss.length:=by omega
    have kt4:∀ (c:Addr) (vs:List V),H3 c=some (.tup vs)→H4 c=some (.tup vs):=o4.tup (p2.same s3)
    have dc:Den H3 us3[r.toNat] (stD ss[r.toNat]):=at_of d3 (ex_at hr) (by rw [List.getElem?_map,ex_at hrs]; rfl)
    have gc:=g3 ss[r.toNat] (List.getElem_mem hrs)
    generalize us3[r.toNat]=vc at hat dc
    generalize ss[r.toNat]=sc at dc gc
    have dc4:=dc.keepT kt4
    have el4:H4 l=some (.lst us):=o4 _ _ (s3 _ _ e2) nlb
    have d4:DenL H4 us (w.map stD):=(d2.same s3).keepT kt4
    have hus:us.length≤40:=by
      have:=d1.len
      rw [List.length_map] at this
      omega
    refine ⟨l3,_,_,_,rfl,rfl,SqL.of e4,hat,l,_,_,rfl,rfl,el4,small1000 (by omega),?_⟩
    have e5:(upd H4 l (.lst (us++[vc]))) l=some (.lst (us++[vc])):=upd_same
    have kt5:=kt_of (ws:=us++[vc]) el4
    have p5:PotAt b (upd H4 l (.lst (us++[vc]))):=by
      obtain ⟨ns,s,e,r⟩:=p4
      exact ⟨ns,s,(upd_ne nlb.symm).trans e,r⟩
    have o5:OldB b H (upd H4 l (.lst (us++[vc]))):=fun c o q h=>by
      rw [upd_ne (ne_of_none q hl)]
      exact o4 _ _ (s3 _ _ (o2 c o q h)) h
    have d5:=denl_map_snoc (d4.keepT kt5) (dc4.keepT kt5)
    have dc5:=dc4.keepT kt5
    generalize upd H4 l (.lst (us++[vc]))=H5 at e5 p5 o5 d5 dc5
    refine ⟨_,rfl,_,rfl,l,_,_,_,rfl,rfl,SqL.of e5,atI_last us vc,_,rfl,_,rfl,vc,sc,_,_,rfl,dc5,gc.ok.l,fun q6 H6 s6 e6=>?_⟩
    refine ⟨q6,_,rfl,SqT.of e6,rfl,_,_,rfl,_,_,rfl,rfl,?_⟩
    have h1:=gc.a
    have h2:=gc.b
    have h3:=gc.c
    refine ⟨m+n - ((i+sz1 sc)+(j+sz2 sc)),by omega,_,i+sz1 sc,j+sz2 sc,us++[vc],w++[sc],rfl,by omega,p5.same s6,o5.trans (.of s6),s6 _ _ e5,d5.same s6,fun s hs=>?_,h1,h2,by rw [List.length_append,List.length_singleton]; omega⟩
    rcases List.mem_append.mp hs with hs | hs
    · exact g1 s hs
    · rw [List.mem_singleton.mp hs]
      exact gc.ok
  · exact ⟨_,rfl,l,_,rfl,.inl ⟨SqL.of e2,fun r hr=>k (.ref r) w _ (p2.same (same_new hr _)) (o2.trans (.of (same_new hr _))) ⟨r,_,rfl,upd_same,d2.same (same_new hr _)⟩ ⟨by omega,g1⟩⟩⟩
end
def spNames:Sp:=fun vs H Q _=>∃ (b:Addr) (m:Nat),vs=[.ref b,.int (m:Nat)]∧PotAt b H∧m≤1000∧∀ (p:Addr) (ns:List Str) (H':Hp),PotAt b H'→OldB b H H'→H' p=some (.tup (ns.map V.str))→ns.length=m→Q (.ref p) H'
theorem slen {a b:Str}:(a++b).length=a.length+b.length:=by
  show (a.cps++b.cps).size=a.cps.size+b.cps.size
  exact Array.size_append
section
variable {P:Program} {w:World} {K:PySem.W.Frag} {mg:Str→Option Value} {base:Heap}
theorem scNames:FnScope ["_law_pot", "_law_many", "_law_letters", "_law_stem", "_law_at", "_law_first", "_law_names_here", "_law_k", "_law_letter"] ["_law_pot", "_law_many"] (defScope sNames):=⟨rfl,rfl,rfl,by decide +kernel,rfl,by decide +kernel,by decide +kernel⟩
theorem c_names (h:Has K mg "_law_names" sNames ["_law_pot", "_law_many"]) (C_next:Cal P w K mg base "_law_next" 1 ["_law_pot", "_law_many"] spNext) (m_range:mg "range" = none) (m_len:mg "len" = none) (m_int:mg "int" = none) (m_tuple:mg "tuple" = none):Cal P w K mg base "_law_names" 2 ["_law_pot", "_law_many"] spNames:=by
  refine h.mk' scNames (fun vs H Q E hs=>?_) (fun f cdv A outer s H vs Q E hr hs=>?_)
  · obtain ⟨b,m,rfl,_⟩:=hs
    rfl
  obtain ⟨b,m,rfl,hp,hm,k⟩:=hs
  refine ⟨_,(pss_cons (ps_set (i:=2) scNames.nd rfl (Or.inr rfl) pe_str)
    (pss_cons (ps_set (i:=3) scNames.nd rfl (Or.inl rfl) (pe_bm PySem.F.plainAttrs_str PySem.F.slot_str_join PySem.F.type_str_join mt_join pe_str (pa_cons (pe_compL ["_law_pot", "_law_many", "_law_letters", "_law_stem", "_law_at", "_law_first", "_law_names_here", "_law_k", "_law_letter"] (defScope sNames) ["_law_pot", "_law_letters", "_law_k"] [some 0,some 2,none] rfl rfl rfl (pi_range1 rfl m_range (pa_cons (pe_cal C_next hr (by decide) rfl (pa_cons (pv 0) (pa_cons pe_int pa_nil))) pa_nil)) rfl (by decide +kernel) (by decide +kernel) (by decide +kernel) (by decide +kernel) (hg:=fun cl C s H ex pn E=>(pg_name (i:=2) (by decide +kernel:(["_law_pot", "_law_letters", "_law_k"]:List Str).Nodup) rfl (Or.inl rfl))) (ht:=fun cl C s H ex pn E=>pifs_nil) (he:=fun cl C s H ex pn E=>(pe_ix ix_str (pv 1) (pe_cal C_next hr (by decide) rfl (pa_cons (pv 0) (pa_cons pe_int pa_nil))) (fun _ _=>rfl)))) pa_nil)))
    (pss_cons (ps_set (i:=4) scNames.nd rfl (Or.inl rfl) (pe_cal C_next hr (by decide) rfl (pa_cons (pv 0) (pa_cons (pe_op op_add (pe_callB call_len_str rfl m_len PySem.boot_len (pa_cons (pv 3) pa_nil)) pe_int) pa_nil))))
    (pss_cons (ps_set (i:=5) scNames.nd rfl (Or.inl rfl) (pe_cal C_next hr (by decide) rfl (pa_cons (pv 0) (pa_cons pe_int pa_nil))))
    (pss_cons (ps_set (i:=6) scNames.nd rfl (Or.inl rfl) (pe_lst pa_nil))
    (pss_cons (ps_for PassesOwn.never rfl (pi_range1 rfl m_range (pa_cons (pv 1) pa_nil)) (pg_name (i:=7) scNames.nd rfl (Or.inl rfl))
      (pss_cons (ps_set (i:=8) scNames.nd rfl (Or.inl rfl) (pe_ix ix_str (pv 2) (pe_op op_mod (pe_op op_add (pv 5) (pe_op op_mul pe_int (pv 7))) pe_int) (fun _ _=>rfl)))
    (pss_one (ps_expr (pe_bm PySem.F.plainAttrs_list PySem.F.slot_list_append PySem.F.type_list_append mt_append (pv 6) (pa_cons (pe_ix ix_list (pe_lst (pa_cons (pe_op op_add_str (pe_op op_add_str (pe_slice sl_str (pv 3) po_none (po_some (pv 4))) (pv 8)) (pe_slice sl_str (pv 3) (po_some (pv 4)) po_none)) (pa_cons (pe_op op_mulS (pv 8) (pe_op op_add pe_int (pe_op op_mod (pv 7) pe_int))) pa_nil))) (pe_callTy call_int1 rfl m_int boot_int (pa_cons (pe_cmpR op_eq (pe_op op_mod (pv 7) pe_int) pe_int (nomark _)) pa_nil)) (fun _ _=>rfl)) pa_nil))))))
    (pss_one (ps_ret (pe_callTy call_tuple_of rfl m_tuple boot_tuple (pa_cons (pv 6) pa_nil)))))))))),?_⟩
  have e26:(Str.cps "abcdefghijklmnopqrstuvwxyz").toList.length=26:=by decide +kernel
  have h26:(Str.length "abcdefghijklmnopqrstuvwxyz")≤1000:=by decide +kernel
  refine gN ⟨rfl,_,rfl,b,7,rfl,hp,by decide,by decide,fun r1 H1 p1 o1 r10 r11=>⟨r1,rfl,by omega,by omega,fun l hl=>?_⟩⟩
  have nlb:l≠b:=p1.ne hl
  refine comp_by (J:=Itr 0 r1.toNat) (l:=l) r1.toNat (fun i σ' H'=>∃ (cs:List Nat) (v:Option V),cs.length=i∧σ'=[some (.ref b),some (.str "abcdefghijklmnopqrstuvwxyz"),v]∧H' l=some (.lst (cs.map fun c=>V.str ⟨#[c]⟩))∧PotAt b H'∧OldB b H H') ⟨[],none,rfl,rfl,upd_same,p1.same (same_new hl _),o1.trans (.of (same_new hl _))⟩ ?_ ?_
  · rintro σ' H2 ⟨cs,v,hcs,rfl,hl2,p2,o2⟩
    refine ⟨Nat.le_refl _,_,l,cs.map (fun c=>(⟨#[c]⟩:Str)),rfl,rfl,SqL.of (by rw [List.map_map]; exact hl2),join_fits (by decide +kernel) cs (by omega),?_⟩
    have hjl:=join_len (y:=Str.mk #[]) rfl cs
    have hst:(Str.join "" (cs.map fun c=>(⟨#[c]⟩:Str))).length≤6:=by
      rw [join_len (by decide +kernel)]
      omega
    generalize Str.join "" (cs.map fun c=>(⟨#[c]⟩:Str))=st at hst
    refine gN ⟨_,rfl,_,rfl,st,rfl,small (by omega),_,_,rfl,rfl,b,_,rfl,p2,by omega,by omega,fun r3 H3 p3 o3 r30 r31=>?_⟩
    refine gN ⟨_,rfl,b,26,rfl,p3,by decide,by decide,fun r4 H4 p4 o4 r40 r41=>?_⟩
    refine gN ⟨smn 0,fun ln hln=>?_⟩
    have o04:=(o2.trans o3).trans o4
    have nnb:ln≠b:=p4.ne hln
    have hlnH:H ln=none:=o04.none p4 hln
    refine gN ⟨_,rfl,_,rfl,by omega,by omega,?_⟩
    refine for_range (lo:=0) (n:=m) (fun i σ H5=>∃ (v7 v8:Option V) (ns:List Str),σ=[some (.ref b),some (.int (m:Nat)),some (.str "abcdefghijklmnopqrstuvwxyz"),some (.str st),some (.int r3),some (.int r4),some (.ref ln),v7,v8]∧PotAt b H5∧OldB b H H5∧H5 ln=some (.lst (ns.map V.str))∧ns.length=i) ⟨_,_,[],rfl,p4.same (same_new hln _),o04.trans (.of (same_new hln _)),upd_same,rfl⟩ ?_ ?_
    · rintro i σ H5 hi ⟨v7,v8,ns,rfl,p5,o5,e5,hn5⟩
      have x0:=Int.emod_nonneg (r4+5 * (0+(i:Nat))) (show (26:Int)≠0 by decide)
      have x1:=Int.emod_lt_of_pos (r4+5 * (0+(i:Nat))) (show (0:Int) < 26 by decide)
      refine gN ⟨_,rfl,_,rfl,_,rfl,_,_,rfl,rfl,.inl ⟨by decide,by decide⟩,_,_,rfl,rfl,_,_,rfl,rfl,by show (0:Int) < 26; decide,?_⟩
      obtain ⟨c,hc,_⟩:=atI_lt (xs:=(Str.cps "abcdefghijklmnopqrstuvwxyz").toList) x0 (by rw [e26]; exact x1)
      refine ⟨_,_,c,rfl,rfl,small h26,hc,?_⟩
      have hsl:∀ lo hi,(Txt.slice st lo hi).length≤6:=fun lo hi=>Nat.le_trans (Txt.slice_le st lo hi) hst
      have hc1:(⟨#[c]⟩:Str).length=1:=rfl
      have h1:=hsl none (some r3)
      have h2:=hsl (some r3) none
      refine gN ⟨_,rfl,.inl ⟨rfl,_,SqL.of e5⟩,_,rfl,_,rfl,_,rfl,st,rfl,small (by omega),_,rfl,_,_,rfl,rfl,small (by omega),_,rfl,_,rfl,_,rfl,st,rfl,small (by omega),_,_,rfl,rfl,small (by rw [slen]; omega),_,rfl,_,rfl,_,_,rfl,rfl,by show (0:Int) < 8; decide,_,_,rfl,rfl,?_⟩
      have y0:=Int.emod_nonneg (0+(i:Nat):Int) (show (8:Int)≠0 by decide)
      have y1:=Int.emod_lt_of_pos (0+(i:Nat):Int) (show (0:Int) < 8 by decide)
      have ey:(1:Int)+(0+(i:Nat)) % 8=((1+((0+(i:Nat):Int) % 8).toNat:Nat):Int):=by omega
      refine ⟨[c],1+((0+(i:Nat):Int) % 8).toNat,rfl,congrArg V.int ey,by omega,by simp; omega,?_⟩
      refine ⟨smn 2,fun lt hlt=>?_⟩
      refine ⟨_,rfl,_,_,rfl,rfl,by show (0:Int) < 3; decide,rfl,.inr ⟨_,rfl,?_⟩⟩
      have s6:=same_new hlt (.lst [.str (Txt.slice st none (some r3)++⟨#[c]⟩++Txt.slice st (some r3) none),.str ⟨(List.replicate (1+((0+(i:Nat):Int) % 8).toNat) [c]).flatten.toArray⟩])
      generalize (⟨(List.replicate (1+((0+(i:Nat):Int) % 8).toNat) [c]).flatten.toArray⟩:Str)=tx2 at s6
      generalize (Txt.slice st none (some r3)++⟨#[c]⟩++Txt.slice st (some r3) none:Str)=tx1 at s6
      have hpick:∀ q:Bool,∃ tx,atI [V.str tx1,V.str tx2] (if q then 1 else 0)=some (.str tx):=fun q=>by
        cases q
        · exact ⟨tx1,atI_zero _ _⟩
        · exact ⟨tx2,atI_nat (xs:=[V.str tx1,V.str tx2]) (j:=1) rfl⟩
      obtain ⟨tx,htx⟩:=hpick (decide (V.int ((0+(i:Nat):Int) % 3)=V.int 1))
      refine ⟨lt,_,_,_,rfl,rfl,SqL.of upd_same,htx,?_⟩
      refine ⟨ln,_,_,rfl,rfl,s6 _ _ e5,by rw [List.length_map]; exact small1000 (by omega),_,_,ns++[tx],rfl,?_,?_,?_,by rw [List.length_append,List.length_singleton,hn5]⟩
      · obtain ⟨q1,q2,q3,q4⟩:=p5
        exact ⟨q1,q2,(upd_ne nnb.symm).trans (s6 _ _ q3),q4⟩
      · intro c' o z h
        rw [upd_ne (ne_of_none z hlnH)]
        exact s6 _ _ (o5 c' o z h)
      · rw [upd_same,List.map_append]
        rfl
    · rintro σ H5 ⟨v7,v8,ns,rfl,p5,o5,e5,hn5⟩
      exact ⟨_,rfl,ln,_,rfl,.inl ⟨SqL.of e5,fun r hr=>k r ns _ (p5.same (same_new hr _)) (o5.trans (.of (same_new hr _))) upd_same hn5⟩⟩
  · rintro i σ' H2 hi ⟨cs,v,hcs,rfl,hl2,p2,o2⟩
    refine ⟨hi,?_⟩
    rintro x H3 ⟨rfl,rfl⟩
    refine gN (yesT (iteT ?_))
    refine ⟨_,rfl,_,rfl,b,26,rfl,p2,by decide,by decide,fun r5 H5 p5 o5 r50 r51=>?_⟩
    obtain ⟨c,hc,_⟩:=atI_lt (xs:=(Str.cps "abcdefghijklmnopqrstuvwxyz").toList) r50 (by rw [e26]; exact r51)
    refine ⟨_,r5,c,rfl,rfl,small h26,hc,?_⟩
    have hlH:H l=none:=o1.none p1 hl
    refine ⟨cs.map (fun c=>V.str ⟨#[c]⟩),o5 _ _ hl2 nlb,by rw [List.length_map]; exact small1000 (by omega),cs++[c],_,by rw [List.length_append,hcs]; rfl,rfl,?_,?_,?_⟩
    · rw [upd_same,List.map_append]
      rfl
    · obtain ⟨q1,q2,q3,q4⟩:=p5
      exact ⟨q1,q2,(upd_ne nlb.symm).trans q3,q4⟩
    · intro c' o z h
      rw [upd_ne (ne_of_none z hlH)]
      exact o5 _ _ (o2 c' o z h) h
end
def spSm:Sp:=fun vs H Q _=>∃ (v:V) (l:Addr) (us:List V) (os rs:List Str) (t:Int) (w:Wy) (m n:Nat),vs=[v,.ref l]∧Den H v (.tup (deedsW os rs t w))∧H l=some (.lst us)∧DenL H us (deedsW os rs t w)∧WyOk m n w∧∀ H',Same H H'→Q (.bl true) H'
theorem shal_ts {ns:List Str} (h:ns.length≤1000):Shal 1 (tsD ns):=shal_strs (by omega)
theorem shal_deed {os rs:List Str} {t:Int} {p:Lk} {m n:Nat} (h:LkOk m n p):Shal 2 (deedD os rs t p):=by
  refine ⟨(fun z=>nomatch z),fun ds e=>?_⟩
  injection e with e
  subst e
  refine ⟨by simp,fun d hd=>?_⟩
  simp only [List.mem_cons,List.not_mem_nil,or_false] at hd
  rcases hd with rfl | rfl | rfl | rfl
  · exact (shal_str _).up
  · exact (shal_int _).up
  · refine shal_ts ?_
    unfold atN
    rw [List.length_map]
    have:=h.c
    omega
  · refine shal_ts ?_
    unfold atN
    rw [List.length_map]
    have:=h.d
    omega
theorem den_deed {H:Hp} {v:V} {os rs:List Str} {t:Int} {p:Lk} (h:Den H v (deedD os rs t p)):∃ (q a b:Addr) (xs ys:List V),v=.ref q∧H q=some (.tup [.str "link",.int t,.ref a,.ref b])∧H a=some (.tup xs)∧H b=some (.tup ys):=by
  obtain ⟨q,vs,rfl,hq,d⟩:=den_tup h
  match vs,d,hq with
  | [x,y,z,u],d,hq =>
    obtain ⟨d1,d2,d3,d4,_⟩:=d
    have e1:x=.str "link":=d1
    have e2:y=.int t:=d2
    subst e1
    subst e2
    obtain ⟨a,rfl,ha⟩:=den_tsD d3
    obtain ⟨b,rfl,hb⟩:=den_tsD d4
    exact ⟨q,a,b,_,_,rfl,hq,ha,hb⟩
  | [],d,_=>exact d.elim
  | [_],d,_=>exact d.2.elim
  | [_,_],d,_=>exact d.2.2.elim
  | [_,_,_],d,_=>exact d.2.2.2.elim
  | _ :: _ :: _ :: _ :: _ :: _,d,_=>exact d.2.2.2.2.elim
theorem lks_mem {m n:Nat} {w:Wy} (h:WyOk m n w) {p:Lk} (hp:p∈lks w):LkOk m n p:=by
  have:=(List.mem_filter.mp hp).1
  obtain ⟨s,hs,hp⟩:=List.mem_flatten.mp this
  exact (h.p s hs).p p hp
section
variable {P:Program} {w:World} {K:PySem.W.Frag} {mg:Str→Option Value} {base:Heap}
theorem scSame:FnScope ["_law_told", "_law_due_here", "_law_deed", "_law_other"] ["_law_told", "_law_due_here"] (defScope sSame):=⟨rfl,rfl,rfl,by decide +kernel,rfl,by decide +kernel,by decide +kernel⟩
theorem c_same (h:Has K mg "_law_same" sSame ["_law_told", "_law_due_here"]) (m_len:mg "len" = none) (m_isinstance:mg "isinstance" = none) (m_tuple:mg "tuple" = none) (m_zip:mg "zip" = none) (m_bool:mg "bool" = none):Cal P w K mg base "_law_same" 1 ["_law_told", "_law_due_here"] spSm:=by
  refine h.mk' scSame (fun vs H Q E hs=>?_) (fun f cdv A outer s H vs Q E hr hs=>?_)
  · obtain ⟨v,l,us,os,rs,t,w,m,n,rfl,_⟩:=hs
    rfl
  obtain ⟨v,l,us,os,rs,t,w,m,n,rfl,hv,hl,du,ok,k⟩:=hs
  refine ⟨_,(pss_cons (ps_if (PW.pt (pw_or (pt_not (pt_val (pe_callB call_isinst rfl m_isinstance boot_isinstance (pa_cons (pv 0) (pa_cons (pe_bltn (v:=.ty "tuple") rfl m_tuple boot_tuple rfl) pa_nil))))) (pw_or1 (pt_cmpR op_ne (pe_callB call_len_seq rfl m_len PySem.boot_len (pa_cons (pv 0) pa_nil)) (pe_callB call_len_seq rfl m_len PySem.boot_len (pa_cons (pv 1) pa_nil)) (nomark _)))))
      (pss_one (ps_ret pe_bl))
      pss_nil)
    (pss_cons (ps_for PassesOwn.never rfl (pi_zipL rfl m_zip (pa_cons (pv 0) (pa_cons (pv 1) pa_nil))) (pg_tup rfl (pgs_cons (pg_name (i:=2) scSame.nd rfl (Or.inl rfl)) (pgs_cons (pg_name (i:=3) scSame.nd rfl (Or.inl rfl)) pgs_nil)))
      (pss_cons (ps_if (PW.pt (pw_or (pt_not (pt_val (pe_callB call_isinst rfl m_isinstance boot_isinstance (pa_cons (pv 2) (pa_cons (pe_bltn (v:=.ty "tuple") rfl m_tuple boot_tuple rfl) pa_nil))))) (pw_or (pt_cmpR (op_neD hr.units) (pv 2) (pv 3) (nomark _)) (pw_or1 (pt_val (pe_callB call_isinst rfl m_isinstance boot_isinstance (pa_cons (pe_ix ix_tup (pv 2) pe_int (fun _ _=>rfl)) (pa_cons (pe_bltn (v:=.ty "bool") rfl m_bool boot_bool rfl) pa_nil))))))))
      (pss_one (ps_ret pe_bl))
      pss_nil)
    (pss_one (ps_if (PW.pt (pw_or (pt_not (pt_val (pe_callB call_isinst rfl m_isinstance boot_isinstance (pa_cons (pe_ix ix_tup (pv 2) pe_int (fun _ _=>rfl)) (pa_cons (pe_bltn (v:=.ty "tuple") rfl m_tuple boot_tuple rfl) pa_nil))))) (pw_or1 (pt_not (pt_val (pe_callB call_isinst rfl m_isinstance boot_isinstance (pa_cons (pe_ix ix_tup (pv 2) pe_int (fun _ _=>rfl)) (pa_cons (pe_bltn (v:=.ty "tuple") rfl m_tuple boot_tuple rfl) pa_nil))))))))
      (pss_one (ps_ret pe_bl))
      pss_nil))))
    (pss_one (ps_ret pe_bl)))),?_⟩
  obtain ⟨p,vs,rfl,hp,dv⟩:=den_tup hv
  have l1:=dv.len
  have l2:=du.len
  have hwl:(deedsW os rs t w).length=(lks w).length:=List.length_map _
  refine ⟨_,rfl,_,_,_,true,rfl,.tup hp,kit_tuple_tuple K,_,rfl,iteF ?_⟩
  refine ⟨_,rfl,p,_,rfl,.inr (SqT.of hp),_,rfl,l,_,rfl,.inl (SqL.of hl),rfl,_,rfl,?_⟩
  refine ite2 (fun z=>?_) (fun _=>?_)
  · exfalso
    rw [show decide (V.int ((vs.length:Nat):Int)=V.int ((us.length:Nat):Int))=true from decide_eq_true (by rw [l1,l2])] at z
    exact absurd z (by decide)
  refine ⟨_,rfl,_,rfl,p,l,rfl,⟨_,SqT.of hp⟩,⟨_,SqL.of hl⟩,?_⟩
  refine for_by (J:=ItzL K p l) vs.length (fun i σ H1=>∃ v2 v3:Option V,σ=[some (.ref p),some (.ref l),v2,v3]∧Same H H1) ⟨_,_,rfl,Same.refl _⟩ ?_ ?_
  · rintro σ H1 ⟨v2,v3,rfl,s1⟩
    exact ⟨⟨_,SqT.of (s1 _ _ hp),Nat.le_refl _⟩,k H1 s1⟩
  · rintro i σ H1 hi ⟨v2,v3,rfl,s1⟩
    have hiu:i < us.length:=by omega
    have hid:i < (lks w).length:=by omega
    refine ⟨⟨_,_,_,_,SqT.of (s1 _ _ hp),SqL.of (s1 _ _ hl),ex_at hi,ex_at hiu⟩,?_⟩
    rintro y H2 ⟨tp,x1,x2,rfl,hn,rfl,hx1,hx2⟩
    have e1:x1=vs[i]:=Option.some.inj ((hx1 _ (SqT.of (s1 _ _ hp))).symm.trans (ex_at hi))
    have e2:x2=us[i]:=Option.some.inj ((hx2 _ (SqL.of (s1 _ _ hl))).symm.trans (ex_at hiu))
    have hda:(deedsW os rs t w)[i]?=some (deedD os rs t (lks w)[i]):=by
      unfold deedsW
      rw [List.getElem?_map,ex_at hid]
      rfl
    have d1:Den H x1 (deedD os rs t (lks w)[i]):=by rw [e1]; exact at_of dv (ex_at hi) hda
    have d2:Den H x2 (deedD os rs t (lks w)[i]):=by rw [e2]; exact at_of du (ex_at hiu) hda
    have sh:=shal_deed (os:=os) (rs:=rs) (t:=t) (lks_mem ok (List.getElem_mem hid))
    clear e1 e2 hx1 hx2 hda
    generalize (lks w)[i]=pr at d1 d2 sh
    have s2:=s1.trans (same_new hn (.tup [x1,x2]))
    have et:(upd H1 tp (.tup [x1,x2])) tp=some (.tup [x1,x2]):=upd_same
    generalize upd H1 tp (.tup [x1,x2])=H3 at s2 et
    have d1':=d1.same s2
    have d2':=d2.same s2
    obtain ⟨q,a,b,xs,ys,rfl,hq,ha,hb⟩:=den_deed d1'
    refine ⟨tp,_,rfl,SqT.of et,rfl,_,_,rfl,_,_,rfl,rfl,?_⟩
    have at1:atI [V.str "link",V.int t,V.ref a,V.ref b] 1=some (.int t):=atI_nat (xs:=[V.str "link",V.int t,V.ref a,V.ref b]) (j:=1) rfl
    have at2:atI [V.str "link",V.int t,V.ref a,V.ref b] 2=some (.ref a):=atI_nat (xs:=[V.str "link",V.int t,V.ref a,V.ref b]) (j:=2) rfl
    have at3:atI [V.str "link",V.int t,V.ref a,V.ref b] 3=some (.ref b):=atI_nat (xs:=[V.str "link",V.int t,V.ref a,V.ref b]) (j:=3) rfl
    refine ⟨_,rfl,_,_,_,true,rfl,.tup hq,kit_tuple_tuple K,_,rfl,iteF ?_⟩
    refine ⟨_,rfl,_,rfl,_,2,d1',d2',sh,by decide,_,rfl,iteF ?_⟩
    refine ⟨_,rfl,q,_,_,_,rfl,rfl,SqT.of hq,at1,_,_,_,false,rfl,.int _,kit_int_bool K,_,rfl,iteF ?_⟩
    refine ⟨_,rfl,q,_,_,_,rfl,rfl,SqT.of hq,at2,_,_,_,true,rfl,.tup ha,kit_tuple_tuple K,_,rfl,iteF ?_⟩
    refine ⟨_,rfl,q,_,_,_,rfl,rfl,SqT.of hq,at3,_,_,_,true,rfl,.tup hb,kit_tuple_tuple K,_,rfl,iteF ?_⟩
    exact ⟨_,_,rfl,s2⟩
end
def spLaw (K:PySem.W.Frag):Sp:=fun vs H Q _=>∃ (a:Addr) (ns:List Int),vs=[.ref a]∧SqL K H a (ns.map V.int)∧ns.length≤63∧∀ H',Q (.bl true) H'
theorem cut_upto {xs:List Str} {r:Nat} (h:r≤xs.length):cutV (xs.map V.str) none (some (r:Int))=(xs.take r).map V.str:=by
  unfold cutV
  rw [HT.sIx_nat,HT.sIx_none,List.length_map,Nat.min_eq_left h,List.map_take]
  simp
theorem cut_from {xs:List Str} {r:Nat} (h:r≤xs.length):cutV (xs.map V.str) (some (r:Int)) none=(xs.drop r).map V.str:=by
  unfold cutV
  rw [HT.sIx_nat,HT.sIx_none,List.length_map,Nat.min_eq_left h,List.map_drop]
  exact List.take_of_length_le (by rw [List.length_drop,List.length_map]; omega)
section
variable {P:Program} {w:World} {K:PySem.W.Frag} {mg:Str→Option Value} {base:Heap}
theorem scLaw:FnScope ["_law_script", "_law_pot", "_law_m", "_law_n", "_law_names_here", "_law_ones", "_law_others", "_law_ways", "_law_moments", "_law_k", "_law_due_here"] ["_law_script"] (defScope sLaw):=⟨rfl,rfl,rfl,by decide +kernel,rfl,by decide +kernel,by decide +kernel⟩
theorem ok_law {f:Addr} {fd:FuncData} (F:Fun K "law" "law" sLaw f fd) (C_state:Cal P w K mg base "_law_state" 1 ["_law_script"] (spState K)) (C_next:Cal P w K mg base "_law_next" 1 ["_law_pot", "_law_many"] spNext) (C_names:Cal P w K mg base "_law_names" 2 ["_law_pot", "_law_many"] spNames) (C_any_way:Cal P w K mg base "_law_any_way" 2 ["_law_pot", "_law_m", "_law_n"] spAnyWay) (C_due:Cal P w K mg base "_law_due" 1 ["_law_ones", "_law_others", "_law_way", "_law_t"] spDue) (C_same:Cal P w K mg base "_law_same" 1 ["_law_told", "_law_due_here"] spSm) (C_link_deeds:Cal P w K mg base "link_deeds" 2 ["ones", "others", "way", "t"] spLinkDeeds):FnOk P w K mg base CX0 4 f fd ["_law_script"] (spLaw K):=by
  refine F.ok scLaw (fun vs H Q E hs=>?_) (fun cdv A outer s H vs Q E hr hs=>?_)
  · obtain ⟨a,ns,rfl,_⟩:=hs
    rfl
  obtain ⟨a,ns,rfl,hS,h63,k⟩:=hs
  refine ⟨_,(pss_cons (ps_set (i:=1) scLaw.nd rfl (Or.inl rfl) (pe_cal C_state hr (by decide) rfl (pa_cons (pv 0) pa_nil)))
    (pss_cons (ps_par (i:=2) (j:=3) rfl scLaw.nd rfl rfl (by decide) rfl rfl (pa_cons (pe_cal C_next hr (by decide) rfl (pa_cons (pv 1) (pa_cons pe_int pa_nil))) (pa_cons (pe_cal C_next hr (by decide) rfl (pa_cons (pv 1) (pa_cons pe_int pa_nil))) pa_nil)) rfl)
    (pss_cons (ps_set (i:=4) scLaw.nd rfl (Or.inl rfl) (pe_cal C_names hr (by decide) rfl (pa_cons (pv 1) (pa_cons (pe_op op_add (pv 2) (pv 3)) pa_nil))))
    (pss_cons (ps_par (i:=5) (j:=6) rfl scLaw.nd rfl rfl (by decide) rfl rfl (pa_cons (pe_slice sl_tupW (pv 4) po_none (po_some (pv 2))) (pa_cons (pe_slice sl_tupW (pv 4) (po_some (pv 2)) po_none) pa_nil)) rfl)
    (pss_cons (ps_set (i:=7) scLaw.nd rfl (Or.inl rfl) (pe_lst (pa_cons (pe_cal C_any_way hr (by decide) rfl (pa_cons (pv 1) (pa_cons (pv 2) (pa_cons (pv 3) pa_nil)))) (pa_cons (pe_cal C_any_way hr (by decide) rfl (pa_cons (pv 1) (pa_cons (pv 2) (pa_cons (pv 3) pa_nil)))) pa_nil))))
    (pss_cons (ps_set (i:=8) scLaw.nd rfl (Or.inl rfl) (pe_lst (pa_cons (pe_cal C_next hr (by decide) rfl (pa_cons (pv 1) (pa_cons (pe_op op_add (pe_op op_pow pe_int pe_int) pe_int) pa_nil))) (pa_cons (pe_cal C_next hr (by decide) rfl (pa_cons (pv 1) (pa_cons pe_int pa_nil))) pa_nil))))
    (pss_cons (ps_for PassesOwn.never rfl (pi_tup (pe_tup (pa_cons pe_int (pa_cons pe_int (pa_cons pe_int pa_nil))))) (pg_name (i:=9) scLaw.nd rfl (Or.inl rfl))
      (pss_cons (ps_set (i:=10) scLaw.nd rfl (Or.inl rfl) (pe_cal C_due hr (by decide) rfl (pa_cons (pv 5) (pa_cons (pv 6) (pa_cons (pe_ix ix_list (pv 7) (pv 9) (fun _ _=>rfl)) (pa_cons (pe_ix ix_list (pv 8) (pv 9) (fun _ _=>rfl)) pa_nil))))))
    (pss_one (ps_if (pt_not (pt_val (pe_cal C_same hr (by decide) rfl (pa_cons (pe_cal C_link_deeds hr (by decide) rfl (pa_cons (pv 5) (pa_cons (pv 6) (pa_cons (pe_ix ix_list (pv 7) (pv 9) (fun _ _=>rfl)) (pa_cons (pe_ix ix_list (pv 8) (pv 9) (fun _ _=>rfl)) pa_nil))))) (pa_cons (pv 10) pa_nil)))))
      (pss_one (ps_ret pe_bl))
      pss_nil))))
    (pss_one (ps_ret pe_bl))))))))),?_⟩
  refine ⟨_,rfl,a,ns,rfl,hS,h63,fun b H1 s1 p1=>?_⟩
  refine gN ⟨_,rfl,b,10,rfl,p1,by decide,by decide,fun r1 H2 p2 o2 r10 r11=>⟨_,rfl,b,10,rfl,p2,by decide,by decide,fun r2 H3 p3 o3 r20 r21=>⟨_,_,rfl,?_⟩⟩⟩
  obtain ⟨m,rfl⟩:=Int.eq_ofNat_of_zero_le r10
  obtain ⟨n,rfl⟩:=Int.eq_ofNat_of_zero_le r20
  have hm:m≤9:=by omega
  have hn:n≤9:=by omega
  clear r10 r11 r20 r21 o2 o3
  refine ⟨_,rfl,_,rfl,_,rfl,_,_,rfl,rfl,b,m+n,rfl,p3,by omega,fun q4 nm H4 p4 o4 e4 hl4=>?_⟩
  refine gN ⟨_,rfl,_,rfl,_,rfl,q4,_,rfl,e4,fun q5 H5 s5 e5=>⟨_,rfl,_,rfl,_,rfl,q4,_,rfl,s5 _ _ e4,fun q6 H6 s6 e6=>⟨_,_,rfl,?_⟩⟩⟩
  rw [cut_upto (by omega)] at e5
  rw [cut_from (by omega)] at e6
  have do6:Den H6 (.ref q5) (tsD (nm.take m)):=den_tsD_of (s6 _ _ e5)
  have dr6:Den H6 (.ref q6) (tsD (nm.drop m)):=den_tsD_of e6
  have lo:(nm.take m).length=m:=by rw [List.length_take]; omega
  have lr:(nm.drop m).length=n:=by rw [List.length_drop]; omega
  generalize nm.take m=os at do6 lo
  generalize nm.drop m=rs at dr6 lr
  have p6:=(p4.same s5).same s6
  clear e5 e6 s5 s6 e4 p4 o4
  refine ⟨_,rfl,_,rfl,_,rfl,b,m,n,rfl,p6,by omega,by omega,fun v7 w7 H7 p7 o7 d7 ok7=>⟨_,rfl,_,rfl,_,rfl,b,m,n,rfl,p7,by omega,by omega,fun v8 w8 H8 p8 o8 d8 ok8=>⟨smn 2,fun lw hlw=>?_⟩⟩⟩
  have do8:=(do6.keepT (o7.tup p6)).keepT (o8.tup p7)
  have dr8:=(dr6.keepT (o7.tup p6)).keepT (o8.tup p7)
  have d78:=d7.keepT (o8.tup p7)
  have s9:=same_new hlw (.lst [v7,v8])
  have nwb:lw≠b:=p8.ne hlw
  have e9:(upd H8 lw (.lst [v7,v8])) lw=some (.lst [v7,v8]):=upd_same
  have p9:=p8.same s9
  have do9:=do8.same s9
  have dr9:=dr8.same s9
  have dw1:=d78.same s9
  have dw2:=d8.same s9
  generalize upd H8 lw (.lst [v7,v8])=H9 at s9 e9 p9 do9 dr9 dw1 dw2
  refine gN ⟨_,rfl,_,_,rfl,rfl,⟨by decide,by decide,by decide⟩,_,_,rfl,rfl,b,_,rfl,p9,by decide,by decide,fun t1 Ha pa oa t10 t11=>⟨_,rfl,b,4,rfl,pa,by decide,by decide,fun t2 Hb pb ob t20 t21=>⟨smn 2,fun lm hlm=>?_⟩⟩⟩
  have kt:∀ (c:Addr) (vs:List V),H9 c=some (.tup vs)→Hb c=some (.tup vs):=fun c vs z=>ob.tup pa c vs (oa.tup p9 c vs z)
  have doB:=do9.keepT kt
  have drB:=dr9.keepT kt
  have dB1:=dw1.keepT kt
  have dB2:=dw2.keepT kt
  have eB:=ob _ _ (oa _ _ e9 nwb) nwb
  have sc:=same_new hlm (.lst [.int t1,.int t2])
  have ec:(upd Hb lm (.lst [.int t1,.int t2])) lm=some (.lst [.int t1,.int t2]):=upd_same
  have eC:=sc _ _ eB
  replace doB:=doB.same sc
  replace drB:=drB.same sc
  replace dB1:=dB1.same sc
  replace dB2:=dB2.same sc
  generalize upd Hb lm (.lst [.int t1,.int t2])=Hc at sc ec eC doB drB dB1 dB2
  refine gN ⟨smn 3,fun pk hpk=>?_⟩
  have sd:=same_new hpk (.tup [.int 0,.int 1,.int 0])
  have ed:(upd Hc pk (.tup [.int 0,.int 1,.int 0])) pk=some (.tup [.int 0,.int 1,.int 0]):=upd_same
  generalize upd Hc pk (.tup [.int 0,.int 1,.int 0])=Hd at sd ed
  refine ⟨pk,rfl,⟨_,SqT.of ed⟩,?_⟩
  refine for_tup (K:=K) (a:=pk) (xs:=[.int 0,.int 1,.int 0]) (fun i σ He=>∃ v9 v10:Option V,σ=[some (.ref a),some (.ref b),some (.int (m:Nat)),some (.int (n:Nat)),some (.ref q4),some (.ref q5),some (.ref q6),some (.ref lw),some (.ref lm),v9,v10]∧Same Hc He∧He pk=some (.tup [.int 0,.int 1,.int 0])) ⟨_,_,rfl,sd,ed⟩ ?_ ?_ ?_
  · rintro i σ He _ ⟨_,_,_,_,ee⟩
    exact SqT.of ee
  · rintro i y σ He hi ⟨v9,v10,rfl,se,ee⟩
    have hpick:∃ (kk:Int) (x:V) (ww:Wy) (t:Int),y=.int kk∧atI [v7,v8] kk=some x∧atI [V.int t1,V.int t2] kk=some (.int t)∧Den Hc x (wyD ww)∧WyOk m n ww:=by
      have h0:∃ (kk:Int) (x:V) (ww:Wy) (t:Int),V.int 0=.int kk∧atI [v7,v8] kk=some x∧atI [V.int t1,V.int t2] kk=some (.int t)∧Den Hc x (wyD ww)∧WyOk m n ww:=⟨0,v7,w7,t1,rfl,atI_zero _ _,atI_zero _ _,dB1,ok7⟩
      have h1:∃ (kk:Int) (x:V) (ww:Wy) (t:Int),V.int 1=.int kk∧atI [v7,v8] kk=some x∧atI [V.int t1,V.int t2] kk=some (.int t)∧Den Hc x (wyD ww)∧WyOk m n ww:=⟨1,v8,w8,t2,rfl,atI_nat (xs:=[v7,v8]) (j:=1) rfl,atI_nat (xs:=[V.int t1,V.int t2]) (j:=1) rfl,dB2,ok8⟩
      have hm:=List.mem_of_getElem? hi
      simp only [List.mem_cons,List.not_mem_nil,or_false] at hm
      rcases hm with rfl | rfl | rfl
      · exact h0
      · exact h1
      · exact h0
    obtain ⟨kk,x,ww,t,rfl,hx,ht,dx,okx⟩:=hpick
    have okx':WyOk os.length rs.length ww:=by rw [lo,lr]; exact okx
    refine gN ⟨_,rfl,_,rfl,_,rfl,_,rfl,lw,_,_,_,rfl,rfl,SqL.of (se _ _ eC),hx,_,rfl,_,rfl,lm,_,_,_,rfl,rfl,SqL.of (se _ _ ec),ht,_,_,x,t,os,rs,ww,rfl,doB.same se,drB.same se,dx.same se,okx',fun ld us Hf sf ef df=>?_⟩
    have sf':=se.trans sf
    refine gN ⟨_,rfl,_,rfl,_,rfl,_,rfl,lw,_,_,_,rfl,rfl,SqL.of (sf' _ _ eC),hx,_,rfl,_,rfl,lm,_,_,_,rfl,rfl,SqL.of (sf' _ _ ec),ht,_,_,x,t,os,rs,ww,rfl,doB.same sf',drB.same sf',dx.same sf',okx',fun r Hg sg dg=>?_⟩
    refine ⟨_,rfl,r,ld,us,os,rs,t,ww,_,_,rfl,dg,sg _ _ ef,df.same sg,okx,fun Hh sh=>⟨_,rfl,iteF ?_⟩⟩
    exact ⟨_,_,rfl,(sf'.trans sg).trans sh,sh _ _ (sg _ _ (sf _ _ ee))⟩
  · rintro σ He ⟨v9,v10,rfl,se,ee⟩
    exact k He
end
theorem all_mk {l:PySem.W.OpenLaw} {w:World} {K:PySem.W.Frag} {h:Heap} {mg:Str→Option Value} {fa f1 f2 f3 f4 f5 f6 f7 f8 f9 f10 f11:Addr} (X:K.In h) (G:h.Ns mainGlobals mg) (hfa:mg "law" = some (.ref fa))
    {od1 an1 od2 an2 od3 an3 od4 an4 od5 an5 od6 an6 od7 an7 od8 an8 od9 an9 od10 an10 od11 an11:Option Addr} {sl1 sl2 sl3 sl4 sl5 sl6 sl7 sl8 sl9 sl10 sl11:Array (Option Value)} {oc1 kV1 dc1 pm1 cd1 ct1 oc2 kV2 dc2 pm2 cd2 ct2 oc3 kV3 dc3 pm3 cd3 ct3 oc4 kV4 dc4 pm4 cd4 ct4 oc5 kV5 dc5 pm5 cd5 ct5 oc6 kV6 dc6 pm6 cd6 ct6 oc7 kV7 dc7 pm7 cd7 ct7 oc8 kV8 dc8 pm8 cd8 ct8 oc9 kV9 dc9 pm9 cd9 ct9 oc10 kV10 dc10 pm10 cd10 ct10 oc11 kV11 dc11 pm11 cd11 ct11:Value}
    (a1:PySem.W.nsIn K mainGlobals "names_at" = some (some (.ref f1))) (l1:K.lookup f1=some ⟨oc1,od1,.func (PySem.W.fnOf "names_at" "names_at" (defArgs sNamesAt) (defBody sNamesAt) (defScope sNamesAt) .none kV1 dc1 pm1 an1 cd1 ct1),sl1⟩) (c1:PySem.W.codeIn K cd1 "names_at" = true) (k1:PySem.W.keepIn K (.ref f1)=true)
    (a2:PySem.W.nsIn K mainGlobals "link_deeds" = some (some (.ref f2))) (l2:K.lookup f2=some ⟨oc2,od2,.func (PySem.W.fnOf "link_deeds" "link_deeds" (defArgs sLinkDeeds) (defBody sLinkDeeds) (defScope sLinkDeeds) .none kV2 dc2 pm2 an2 cd2 ct2),sl2⟩) (c2:PySem.W.codeIn K cd2 "link_deeds" = true) (k2:PySem.W.keepIn K (.ref f2)=true)
    (a3:PySem.W.nsIn K mainGlobals "_law_next" = some (some (.ref f3))) (l3:K.lookup f3=some ⟨oc3,od3,.func (PySem.W.fnOf "_law_next" "_law_next" (defArgs sNext) (defBody sNext) (defScope sNext) .none kV3 dc3 pm3 an3 cd3 ct3),sl3⟩) (c3:PySem.W.codeIn K cd3 "_law_next" = true) (k3:PySem.W.keepIn K (.ref f3)=true)
    (a4:PySem.W.nsIn K mainGlobals "_law_state" = some (some (.ref f4))) (l4:K.lookup f4=some ⟨oc4,od4,.func (PySem.W.fnOf "_law_state" "_law_state" (defArgs sState) (defBody sState) (defScope sState) .none kV4 dc4 pm4 an4 cd4 ct4),sl4⟩) (c4:PySem.W.codeIn K cd4 "_law_state" = true) (k4:PySem.W.keepIn K (.ref f4)=true)
    (a5:PySem.W.nsIn K mainGlobals "_law_steps" = some (some (.ref f5))) (l5:K.lookup f5=some ⟨oc5,od5,.func (PySem.W.fnOf "_law_steps" "_law_steps" (defArgs sSteps) (defBody sSteps) (defScope sSteps) .none kV5 dc5 pm5 an5 cd5 ct5),sl5⟩) (c5:PySem.W.codeIn K cd5 "_law_steps" = true) (k5:PySem.W.keepIn K (.ref f5)=true)
    (a6:PySem.W.nsIn K mainGlobals "_law_on" = some (some (.ref f6))) (l6:K.lookup f6=some ⟨oc6,od6,.func (PySem.W.fnOf "_law_on" "_law_on" (defArgs sOn) (defBody sOn) (defScope sOn) .none kV6 dc6 pm6 an6 cd6 ct6),sl6⟩) (c6:PySem.W.codeIn K cd6 "_law_on" = true) (k6:PySem.W.keepIn K (.ref f6)=true)
    (a7:PySem.W.nsIn K mainGlobals "_law_any_way" = some (some (.ref f7))) (l7:K.lookup f7=some ⟨oc7,od7,.func (PySem.W.fnOf "_law_any_way" "_law_any_way" (defArgs sAnyWay) (defBody sAnyWay) (defScope sAnyWay) .none kV7 dc7 pm7 an7 cd7 ct7),sl7⟩) (c7:PySem.W.codeIn K cd7 "_law_any_way" = true) (k7:PySem.W.keepIn K (.ref f7)=true)
    (a8:PySem.W.nsIn K mainGlobals "_law_names" = some (some (.ref f8))) (l8:K.lookup f8=some ⟨oc8,od8,.func (PySem.W.fnOf "_law_names" "_law_names" (defArgs sNames) (defBody sNames) (defScope sNames) .none kV8 dc8 pm8 an8 cd8 ct8),sl8⟩) (c8:PySem.W.codeIn K cd8 "_law_names" = true) (k8:PySem.W.keepIn K (.ref f8)=true)
    (a9:PySem.W.nsIn K mainGlobals "_law_due" = some (some (.ref f9))) (l9:K.lookup f9=some ⟨oc9,od9,.func (PySem.W.fnOf "_law_due" "_law_due" (defArgs sDue) (defBody sDue) (defScope sDue) .none kV9 dc9 pm9 an9 cd9 ct9),sl9⟩) (c9:PySem.W.codeIn K cd9 "_law_due" = true) (k9:PySem.W.keepIn K (.ref f9)=true)
    (a10:PySem.W.nsIn K mainGlobals "_law_same" = some (some (.ref f10))) (l10:K.lookup f10=some ⟨oc10,od10,.func (PySem.W.fnOf "_law_same" "_law_same" (defArgs sSame) (defBody sSame) (defScope sSame) .none kV10 dc10 pm10 an10 cd10 ct10),sl10⟩) (c10:PySem.W.codeIn K cd10 "_law_same" = true) (k10:PySem.W.keepIn K (.ref f10)=true)
    (a11:PySem.W.nsIn K mainGlobals "law" = some (some (.ref f11))) (l11:K.lookup f11=some ⟨oc11,od11,.func (PySem.W.fnOf "law" "law" (defArgs sLaw) (defBody sLaw) (defScope sLaw) .none kV11 dc11 pm11 an11 cd11 ct11),sl11⟩) (c11:PySem.W.codeIn K cd11 "law" = true) (k11:PySem.W.keepIn K (.ref f11)=true)
    (z_len:PySem.W.nsIn K mainGlobals "len" = some none) (z_int:PySem.W.nsIn K mainGlobals "int" = some none) (z_range:PySem.W.nsIn K mainGlobals "range" = some none) (z_isinstance:PySem.W.nsIn K mainGlobals "isinstance" = some none) (z_tuple:PySem.W.nsIn K mainGlobals "tuple" = some none) (z_bool:PySem.W.nsIn K mainGlobals "bool" = some none) (z_zip:PySem.W.nsIn K mainGlobals "zip" = some none) (z_sum:PySem.W.nsIn K mainGlobals "sum" = some none) (z_abs:PySem.W.nsIn K mainGlobals "abs" = some none) (z_min:PySem.W.nsIn K mainGlobals "min" = some none) :
    ∃ fd:FuncData,(∀ (s:Shared) (v:Value),BindsTo s fd ⟨[v],[]⟩ [("_law_script",v)])∧∀ base:Heap,K.In base→base.Ns mainGlobals mg→FnOk l.prog w K mg base CX0 4 fa fd ["_law_script"] (spLaw K):=by
  have e:=hfa.symm.trans (PySem.W.mg_of X G a11)
  cases e
  have F1:=fun_mk (st:=sNamesAt) l1 c1 k1
  have h_names_at:Has K mg "names_at" sNamesAt ["names", "places"]:=⟨_,_,F1,F1.binds fun _ _ _ _ _ _ us hl=>match us,hl with | [_,_],_=>rfl,PySem.W.mg_of X G a1⟩
  have F2:=fun_mk (st:=sLinkDeeds) l2 c2 k2
  have h_link_deeds:Has K mg "link_deeds" sLinkDeeds ["ones", "others", "way", "t"]:=⟨_,_,F2,F2.binds fun _ _ _ _ _ _ us hl=>match us,hl with | [_,_,_,_],_=>rfl,PySem.W.mg_of X G a2⟩
  have F3:=fun_mk (st:=sNext) l3 c3 k3
  have h_next:Has K mg "_law_next" sNext ["_law_pot", "_law_many"]:=⟨_,_,F3,F3.binds fun _ _ _ _ _ _ us hl=>match us,hl with | [_,_],_=>rfl,PySem.W.mg_of X G a3⟩
  have F4:=fun_mk (st:=sState) l4 c4 k4
  have h_state:Has K mg "_law_state" sState ["_law_script"]:=⟨_,_,F4,F4.binds fun _ _ _ _ _ _ us hl=>match us,hl with | [_],_=>rfl,PySem.W.mg_of X G a4⟩
  have F5:=fun_mk (st:=sSteps) l5 c5 k5
  have h_steps:Has K mg "_law_steps" sSteps ["_law_i", "_law_j", "_law_m", "_law_n"]:=⟨_,_,F5,F5.binds fun _ _ _ _ _ _ us hl=>match us,hl with | [_,_,_,_],_=>rfl,PySem.W.mg_of X G a5⟩
  have F6:=fun_mk (st:=sOn) l6 c6 k6
  have h_on:Has K mg "_law_on" sOn ["_law_step", "_law_i", "_law_j"]:=⟨_,_,F6,F6.binds fun _ _ _ _ _ _ us hl=>match us,hl with | [_,_,_],_=>rfl,PySem.W.mg_of X G a6⟩
  have F7:=fun_mk (st:=sAnyWay) l7 c7 k7
  have h_any_way:Has K mg "_law_any_way" sAnyWay ["_law_pot", "_law_m", "_law_n"]:=⟨_,_,F7,F7.binds fun _ _ _ _ _ _ us hl=>match us,hl with | [_,_,_],_=>rfl,PySem.W.mg_of X G a7⟩
  have F8:=fun_mk (st:=sNames) l8 c8 k8
  have h_names:Has K mg "_law_names" sNames ["_law_pot", "_law_many"]:=⟨_,_,F8,F8.binds fun _ _ _ _ _ _ us hl=>match us,hl with | [_,_],_=>rfl,PySem.W.mg_of X G a8⟩
  have F9:=fun_mk (st:=sDue) l9 c9 k9
  have h_due:Has K mg "_law_due" sDue ["_law_ones", "_law_others", "_law_way", "_law_t"]:=⟨_,_,F9,F9.binds fun _ _ _ _ _ _ us hl=>match us,hl with | [_,_,_,_],_=>rfl,PySem.W.mg_of X G a9⟩
  have F10:=fun_mk (st:=sSame) l10 c10 k10
  have h_same:Has K mg "_law_same" sSame ["_law_told", "_law_due_here"]:=⟨_,_,F10,F10.binds fun _ _ _ _ _ _ us hl=>match us,hl with | [_,_],_=>rfl,PySem.W.mg_of X G a10⟩
  have F11:=fun_mk (st:=sLaw) l11 c11 k11
  have m_len:=PySem.W.mg_none_of X G z_len
  have m_int:=PySem.W.mg_none_of X G z_int
  have m_range:=PySem.W.mg_none_of X G z_range
  have m_isinstance:=PySem.W.mg_none_of X G z_isinstance
  have m_tuple:=PySem.W.mg_none_of X G z_tuple
  have m_bool:=PySem.W.mg_none_of X G z_bool
  have m_zip:=PySem.W.mg_none_of X G z_zip
  have m_sum:=PySem.W.mg_none_of X G z_sum
  have m_abs:=PySem.W.mg_none_of X G z_abs
  have m_min:=PySem.W.mg_none_of X G z_min
  refine ⟨PySem.W.fnOf "law" "law" (defArgs sLaw) (defBody sLaw) (defScope sLaw) .none kV11 dc11 pm11 an11 cd11 ct11,fun s v=>.of_eq rfl,fun base _ _=>?_⟩
  have C_names_at:=c_names_at (P:=l.prog) (w:=w) (base:=base) h_names_at m_tuple
  have C_link_deeds:=c_link_deeds (P:=l.prog) (w:=w) (base:=base) h_link_deeds C_names_at m_len m_tuple
  have C_next:=c_next (P:=l.prog) (w:=w) (base:=base) h_next m_len
  have C_state:=c_state (P:=l.prog) (w:=w) (base:=base) h_state m_abs
  have C_steps:=c_steps (P:=l.prog) (w:=w) (base:=base) h_steps m_range m_min m_tuple
  have C_on:=c_on (P:=l.prog) (w:=w) (base:=base) h_on m_sum m_len
  have C_any_way:=c_any_way (P:=l.prog) (w:=w) (base:=base) h_any_way C_steps C_next C_on m_len m_tuple
  have C_names:=c_names (P:=l.prog) (w:=w) (base:=base) h_names C_next m_range m_len m_int m_tuple
  have C_due:=c_due (P:=l.prog) (w:=w) (base:=base) h_due m_tuple
  have C_same:=c_same (P:=l.prog) (w:=w) (base:=base) h_same m_len m_isinstance m_tuple m_zip m_bool
  exact ok_law F11 C_state C_next C_names C_any_way C_due C_same C_link_deeds
theorem walk {l:PySem.W.OpenLaw} {q:Program} {loose:List Str} {XP:(Str→Option Value)→Heap→Prop} {YP:World→Heap→Prop} {d:DefRec} {K:Params→PySem.W.Frag} (hn:l.most=some 63) (hdf:d.params.defaults=[])
    (hY:∀ (w:World) (h:Heap),YP w h→(K w.params).In h)
    (F:∀ (w:World) (mg:Str→Option Value) (fa:Addr) (h:Heap),(K w.params).In h→h.Ns mainGlobals mg→mg d.name=some (.ref fa) →
      ∃ fd:FuncData,(∀ (s:Shared) (u:Value),BindsTo s fd ⟨[u],[]⟩ [("_law_script",u)])∧∀ base:Heap,(K w.params).In base→base.Ns mainGlobals mg→FnOk l.prog w (K w.params) mg base CX0 4 fa fd ["_law_script"] (spLaw (K w.params))) :
    PySem.W.WalkO q loose XP YP l.row.toRowW d [] (fun f vs=>PySem.call f vs) :=
  L2.walk_of (n:=63) (k:=4) (x:="_law_script") (CX:=fun _=>CX0) (sp:=fun w=>spLaw (K w.params)) hn (by decide) hdf ⟨rfl,by decide,by decide⟩ hY F (fun _ _ a ns hl _ hS=>⟨a,ns,rfl,hS,hl,fun _=>rfl⟩) fun _ _ _ _ _ z=>z
end Mine
open PySem PySem.W PyProof.Rows
set_option maxRecDepth 100000 in
set_option maxHeartbeats 0 in
theorem PySem.Challenge.cw_twainkeep_k61_links_of_a_way_holds : PySem.Challenge.rw_twainkeep_k61_links_of_a_way.Holds := by
  w_on; o_law; k_head; (case hw=>w_witness2)
  k_fill
  refine Mine.walk (l:=PySem.Challenge.rw_twainkeep_k61_links_of_a_way) rfl rfl (fun w h Y=>PySem.W.kIn_of Y) ?F
  case F =>
    intro w mg fa h KX G hmg
    refine' Mine.all_mk KX G hmg ?a1 ?l1 ?c1 ?k1 ?a2 ?l2 ?c2 ?k2 ?a3 ?l3 ?c3 ?k3 ?a4 ?l4 ?c4 ?k4 ?a5 ?l5 ?c5 ?k5 ?a6 ?l6 ?c6 ?k6 ?a7 ?l7 ?c7 ?k7 ?a8 ?l8 ?c8 ?k8 ?a9 ?l9 ?c9 ?k9 ?a10 ?l10 ?c10 ?k10 ?a11 ?l11 ?c11 ?k11 ?z_len ?z_int ?z_range ?z_isinstance ?z_tuple ?z_bool ?z_zip ?z_sum ?z_abs ?z_min
    (case a1=>k_is)
    (case l1=>k_is)
    (case c1=>k_is)
    (case k1=>k_is)
    (case a2=>k_is)
    (case l2=>k_is)
    (case c2=>k_is)
    (case k2=>k_is)
    (case a3=>k_is)
    (case l3=>k_is)
    (case c3=>k_is)
    (case k3=>k_is)
    (case a4=>k_is)
    (case l4=>k_is)
    (case c4=>k_is)
    (case k4=>k_is)
    (case a5=>k_is)
    (case l5=>k_is)
    (case c5=>k_is)
    (case k5=>k_is)
    (case a6=>k_is)
    (case l6=>k_is)
    (case c6=>k_is)
    (case k6=>k_is)
    (case a7=>k_is)
    (case l7=>k_is)
    (case c7=>k_is)
    (case k7=>k_is)
    (case a8=>k_is)
    (case l8=>k_is)
    (case c8=>k_is)
    (case k8=>k_is)
    (case a9=>k_is)
    (case l9=>k_is)
    (case c9=>k_is)
    (case k9=>k_is)
    (case a10=>k_is)
    (case l10=>k_is)
    (case c10=>k_is)
    (case k10=>k_is)
    (case a11=>k_is)
    (case l11=>k_is)
    (case c11=>k_is)
    (case k11=>k_is)
    (case z_len=>k_is)
    (case z_int=>k_is)
    (case z_range=>k_is)
    (case z_isinstance=>k_is)
    (case z_tuple=>k_is)
    (case z_bool=>k_is)
    (case z_zip=>k_is)
    (case z_sum=>k_is)
    (case z_abs=>k_is)
    (case z_min=>k_is)
