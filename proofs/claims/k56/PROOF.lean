import PyProof.Rows.All
import Wide.All
import OpenK.AllK
import Wide.FinOn
import Lean
import PyProof.EqAt
import PyProof.EqKinds
import PyProof.TupleCall
import PyProof.ZipIter
import PyProof.TupleIter
import PyProof.WalksMore
import KE.KWords
import PyProof.MinMaxWalk
import PyProof.SeqI3
import PyProof.MaxThree
import PyProof.AttrMissHeap
import PyProof.DictList
import PyProof.DictIter
import KE.KDictOf
import KE.KDictList
import PyProof.Rows.CallKwBuiltin
import PyProof.Rows.Range3
import PyProof.Rows.StrNews2
import PyProof.StrLawsIdx
import PyProof.StrBlockI
import KE.KRevSl
import PyProof.AutoListH
import PyProof.DictWalks
import PyProof.Draws
import PyProof.EnumMake
import PyProof.NeKinds
import PyProof.Rows.SetFrom
import KE.KSortTup
import PyProof.StrBlock2
import PyProof.DictItems
import KE.KPairComp
import PyProof.Rows.SumAny
import PyProof.ListStr
import PyProof.DictValues
import OpenK.KRaise
import PyProof.StationsW
import PyProof.ExcClass2
import OpenK.KOwn
import PyProof.Rows.FStr
import PyProof.NsDelKeeps
import PyProof.RulesAs
import KE.KIsNot
import PyProof.ExcArgsOwn
import PyProof.ExcAttrAll.ValueError
import KE.KLam
import PyProof.ListRange
import PyProof.TupleOfSeq
import PyProof.SetRoads
import PyProof.MeetsSeq2
import PySem.Challenge.RW_twainkeep_k56_shown_by_a_grid
set_option Elab.async false
set_option linter.all false
set_option maxRecDepth 100000
namespace L2
open PySem PySem.Spec PyProof.Rows
noncomputable abbrev Key:=Sum Int Str
noncomputable def wR:Key->Value->Bool
 | .inl k,v=>Value.isInt k v
 | .inr x,v=>Value.isStrOf x v
noncomputable def Ox(w:World):Key->Int
 | .inl k=>hashInt k
 | .inr x=>hashStr w x
theorem cM:∀ {k:Key}{v:Value},wR k v=true->(∃ i t,k=Sum.inl i/\v=Value.int i t)\/(∃ x t,k=Sum.inr x/\v=Value.str x t)
 | .inl i,v,h=>by
  obtain⟨t,e⟩:=Value.isInt_shape (k:=i) (v:=v) h
  exact .inl ⟨i,t,rfl,e⟩
 | .inr x,v,h=>by
  obtain⟨t,e⟩:=Value.isStrOf_shape (x:=x) (v:=v) h
  exact .inr ⟨x,t,rfl,e⟩
theorem zU(i:Int)(t:Tok):wR (.inl i) (.int i t)=true:=by simp [wR,Value.isInt]
theorem zp(x:Str)(t:Tok):wR (.inr x) (.str x t)=true:=by simp [wR,Value.isStrOf]
theorem Jq(a b:Int):decide ((Sum.inl a:Key)=Sum.inl b)=(a == b):=by
 by_cases e:a=b
 ·subst e;simp
 ·have h:¬ (Sum.inl a:Key)=Sum.inl b:=fun q=>e (Sum.inl.inj q)
  rw [decide_eq_false h]
  exact (beq_eq_false_iff_ne.mpr e).symm
theorem J8(a b:Str):decide ((Sum.inr a:Key)=Sum.inr b)=decide (a=b):=by
 by_cases e:a=b
 ·subst e;simp
 ·have h:¬ (Sum.inr a:Key)=Sum.inr b:=fun q=>e (Sum.inr.inj q)
  rw [decide_eq_false h,decide_eq_false e]
theorem JB(a:Int)(b:Str):decide ((Sum.inl a:Key)=Sum.inr b)=false:=decide_eq_false (fun q=>nomatch q)
theorem Jw(a:Str)(b:Int):decide ((Sum.inr a:Key)=Sum.inl b)=false:=decide_eq_false (fun q=>nomatch q)
noncomputable def dN(prog:Program)(w:World):PySem.KeyKind prog w Key where
 is:=wR
 hash:=Ox w
 inj:=fun v a b ha hb=>by
  rcases cM ha with ⟨i,t,rfl,rfl⟩ | ⟨x,t,rfl,rfl⟩
  ·rcases cM hb with ⟨j,u,rfl,e⟩ | ⟨y,u,rfl,e⟩
   ·injection e with e1 _;rw [e1]
   ·exact nomatch e
  ·rcases cM hb with ⟨j,u,rfl,e⟩ | ⟨y,u,rfl,e⟩
   ·exact nomatch e
   ·injection e with e1 _;rw [e1]
 byValue:=fun k v h=>by
  rcases cM h with ⟨i,t,rfl,rfl⟩ | ⟨x,t,rfl,rfl⟩ <;> rfl
 pyHash:=fun hv h=>by
  rcases cM hv with ⟨i,t,rfl,rfl⟩ | ⟨x,t,rfl,rfl⟩
  ·exact wpAny_pyHash_int h
  ·exact wpAny_pyHash_str h
 eqBool:=fun hu hv h=>by
  rcases cM hu with ⟨i,t,rfl,rfl⟩ | ⟨x,t,rfl,rfl⟩
  ·rcases cM hv with ⟨j,u,rfl,rfl⟩ | ⟨y,u,rfl,rfl⟩
   ·rw [Jq] at h;exact wpAny_eqBool_int h
   ·rw [JB] at h;exact SeqAt.EqAt.int_str i t y u _ _ _ _ h
  ·rcases cM hv with ⟨j,u,rfl,rfl⟩ | ⟨y,u,rfl,rfl⟩
   ·rw [Jw] at h;exact SeqAt.EqAt.str_int x t j u _ _ _ _ h
   ·rw [J8] at h;exact wpAny_eqBool_str h
 «strs»:=fun k x t v h=>by
  rcases cM h with ⟨i,u,rfl,e⟩ | ⟨y,u,rfl,e⟩
  ·exact nomatch e
  ·injection e with e1 _
   subst e1
   cases v <;> rfl
theorem tV(prog:Program)(w:World)(i:Int)(t:Tok):(dN prog w).is (.inl i) (.int i t)=true:=zU i t
theorem sH(prog:Program)(w:World)(x:Str)(t:Tok):(dN prog w).is (.inr x) (.str x t)=true:=zp x t
inductive V where
 | non | bl (b:Bool) | int (i:Int) | str (x:Str) | byt (b:Array UInt8) | flt (b:UInt64) | ref (a:Addr) | ty (n:String)
 deriving DecidableEq
noncomputable def RelV:V->Value->Prop
 | .non,u=>u=Value.none
 | .bl b,u=>u=Value.bool b
 | .int i,u=>∃ t,u=Value.int i t
 | .str x,u=>∃ t,u=Value.str x t
 | .byt b,u=>∃ t,u=Value.bytes b t
 | .flt b,u=>∃ t,u=Value.float b t
 | .ref a,u=>u=Value.ref a
 | .ty n,u=>u=Value.type n
noncomputable abbrev Vals:List V->List Value->Prop:=Paired RelV
theorem Vals.length{xs:List V}{us:List Value}(r:Vals xs us):xs.length=us.length:=Paired.length r
theorem Vals.get:∀ {xs:List V}{us:List Value}{i:Nat}{x:V},Vals xs us->xs[i]?=some x->∃ u,us[i]?=some u/\RelV x u
 | _,_,_,_,.nil,e=>by simp at e
 | _,_,0,_,.cons r _,e=>by simp at e;subst e;exact⟨_,rfl,r⟩
 | _,_,i+1,x,.cons _ t,e=>by
  obtain⟨u,h1,h2⟩:=Vals.get (i:=i) (x:=x) t (by simpa using e)
  exact⟨u,by simpa using h1,h2⟩
theorem Vals.set{x:V}{u:Value}(r:RelV x u):∀ {xs:List V}{us:List Value} (i:Nat),Vals xs us->Vals (xs.set i x) (us.set i u)
 | _,_,_,.nil=>.nil
 | _,_,0,.cons _ t=>.cons r t
 | _,_,i+1,.cons q t=>.cons q (Vals.set r i t)
theorem Vals.append:∀ {xs ys:List V}{us ws:List Value},Vals xs us->Vals ys ws->Vals (xs++ys) (us++ws)
 | _,_,_,_,.nil,s=>s
 | _,_,_,_,.cons r t,s=>.cons r (Vals.append t s)
theorem Vals.take:∀ {xs:List V}{us:List Value} (n:Nat),Vals xs us->Vals (xs.take n) (us.take n)
 | _,_,0,_=>.nil
 | _,_,_+1,.nil=>.nil
 | _,_,n+1,.cons r t=>.cons r (Vals.take n t)
theorem Vals.drop:∀ {xs:List V}{us:List Value} (n:Nat),Vals xs us->Vals (xs.drop n) (us.drop n)
 | _,_,0,r=>r
 | _,_,_+1,.nil=>.nil
 | _,_,n+1,.cons _ t=>Vals.drop n t
noncomputable def vZ:Option V->Option Value->Prop
 | some v,some u=>RelV v u
 | none,none=>True
 | _,_=>False
noncomputable def KV{κ:Type}:List (κ × V)->List (κ × Value)->Prop:=Paired fun (p:κ × V) (q:κ × Value)=>p.1=q.1/\RelV p.2 q.2
noncomputable def kV:Key->V
 | .inl i=>.int i
 | .inr x=>.str x
inductive HO where
 | lst (xs:List V)
 | tup (xs:List V)
 | dK (kvs:List (Key × V)) | dT (kvs:List (List Key × V))
 | set (S:Int->Bool) (n:Nat)
 | ins (C dx:Addr) (fs:List (Str × V))
 | own (x:Addr)
 | xd (fs:List (Str × V))
 | met (f x:Addr)
 | rng (lo hi:Int)
 | frz (o:Obj) (u:HO)
 | tbl (ps:Array Value)
 | ext (φ:Heap->Prop)
noncomputable abbrev Hp:=Addr->Option HO
noncomputable def upd(H:Hp)(a:Addr)(o:HO):Hp:=fun b=>if b=a then some o else H b
theorem ak{H:Hp}{a:Addr}{o:HO}:upd H a o a=some o:=by unfold upd;rw [if_pos rfl]
theorem aL{H:Hp}{a b:Addr}{o:HO}(h:b≠a):upd H a o b=H b:=by unfold upd;rw [if_neg h]
theorem Ag{H:Hp}{a:Addr}{o u:HO}:upd (upd H a o) a u=upd H a u:=by
 funext b;unfold upd;split <;> rfl
theorem mL{H:Hp}{a b:Addr}{o u:HO}(h:H a=some o)(h':H b=some u)(d:o≠u):a≠b:=by
 intro e;subst e;rw [h] at h';exact d (Option.some.inj h')
theorem aF{H:Hp}{a b:Addr}{o:HO}(h:H a=some o)(h':H b=none):a≠b:=by
 intro e;subst e;rw [h] at h';cases h'
section
variable (P:Program) (w:World)
noncomputable def cV(H:Hp)(h:Heap)(a:Addr):HO->Prop
 | .lst xs=>xs.length<=sizeLine/\∃(its:List Value)(n:Nat),Vals xs its/\h.get? a=some { cls:=.type "list",data:=.seq its.toArray n }
 | .tup xs=>xs.length<=sizeLine/\∃ its:List Value,Vals xs its/\IsTup h a its.toArray
 | .dK kvs=>kvs.length<=sizeLine/\(a == sysModules)=false/\∃ vs,KV kvs vs/\h.DictOf (dN P w) a vs
 | .dT kvs=>kvs.length<=sizeLine/\(a == sysModules)=false/\∃ xs:List (List Key × Addr × Value),
   Paired (fun (p:List Key × V) (q:List Key × Addr × Value)=>p.1=q.1/\H q.2.1=some (.tup (p.1.map kV))/\RelV p.2 q.2.2) kvs xs /\
   ∃ o es ep,h.get? a=some o/\o.ExactDict/\o.data=.dict es ep/\es.toList=xs.map (entryOfKey (tupleKind (dN P w)))/\(xs.map (·.1)).Nodup
 | .set S n=>h.SetOf (intKind P w) a S n
 | .ins C dx fs=>H dx=some (.own a)/\fs.length<=1000/\dx≠a/\h.get? a=some (W.instObj C dx) /\
   ∃ mA,h.Ns1 dx mA/\(∀ f,vZ (fs.lookup f) (mA f))/\PySem.Within mA (fs.map (·.1))
 | .own _=>∃ o,h.get? a=some o
 | .xd fs=>∃ mA,h.Ns1 a mA/\∀ f,vZ (fs.lookup f) (mA f)
 | .rng lo hi=>∃ t u v,h.get? a=some { cls:=.type "range",data:=.fields #[.int lo t,.int hi u,.int 1 v] }
 | .frz o u=>h.get? a=some o/\cV H h a u
 | .tbl ps=>h.get? a=some { cls:=.none,data:=.fields ps }
 | .met f x=>h.get? a=some (W.methodObj (.ref f) (.ref x))
 | .ext φ=>φ h/\(∃ o,h.get? a=some o)/\∀ h1 h2:Heap,φ h1->(∀ o,h1.get? a=some o->h2.get? a=some o)->φ h2
noncomputable def HOk(H:Hp)(h:Heap):Prop:=∀ a o,H a=some o->cV P w H h a o
end
section
variable {P:Program}{w:World}{H H':Hp}{h h':Heap}{a:Addr}{o:HO}
theorem cV.lt(x:cV P w H h a o):a < h.objs.size:=by
 cases o with
 | lst xs=>obtain⟨_,_,_,_,e⟩:=x;exact Heap.lt_size e
 | tup xs=>obtain⟨_,_,_,p⟩:=x;exact p.lt
 | dK kvs=>obtain⟨_,_,_,_,o,_,_,e,_⟩:=x;exact Heap.lt_size e
 | dT kvs=>obtain⟨_,_,_,_,o,_,_,e,_⟩:=x;exact Heap.lt_size e
 | set S n=>obtain⟨o,_,_,_,e,_⟩:=x;exact Heap.lt_size e
 | ins C dx fs=>obtain⟨_,_,_,e,_⟩:=x;exact Heap.lt_size e
 | own y=>obtain⟨_,e⟩:=x;exact Heap.lt_size e
 | xd fs=>obtain⟨_,⟨_,_,_,e,_⟩,_⟩:=x;exact Heap.lt_size e
 | rng lo hi=>obtain⟨_,_,_,e⟩:=x;exact Heap.lt_size e
 | frz ob u=>obtain⟨e,_⟩:=x;exact Heap.lt_size e
 | tbl ps=>exact Heap.lt_size (show h.get? a=some _ from x)
 | met f y=>exact Heap.lt_size (show h.get? a=some _ from x)
 | ext φ=>obtain⟨_,⟨_,e⟩,_⟩:=x;exact Heap.lt_size e
theorem Paired.mapP{α β:Type}{F G:α->β->Prop}:∀ {l₁:List α}{l₂:List β},Paired F l₁ l₂->(∀ a b,F a b->G a b)->Paired G l₁ l₂
 | _,_,.nil,_=>.nil
 | _,_,.cons r t,f=>.cons (f _ _ r) (Paired.mapP t f)
theorem cV.stay(x:cV P w H h a o)(k:∀ b u,(b=a\/H b=some (.own a))->h.get? b=some u->h'.get? b=some u)
  (ho:∀ b,H b=some (.own a)->H' b=some (.own a))(ht:∀ b xs,H b=some (.tup xs)->H' b=some (.tup xs)):cV P w H' h' a o:=by
 induction o with
 | lst xs=>obtain⟨z,its,n,r,e⟩:=x;exact⟨z,its,n,r,k _ _ (.inl rfl) e⟩
 | tup xs=>obtain⟨z,its,r,ob,e,c⟩:=x;exact⟨z,its,r,ob,k _ _ (.inl rfl) e,c⟩
 | dK kvs=>obtain⟨z,y,vs,r,ob,es,ep,e,c⟩:=x;exact⟨z,y,vs,r,ob,es,ep,k _ _ (.inl rfl) e,c⟩
 | dT kvs =>
  obtain⟨z,y,xs,r,ob,es,ep,e,c⟩:=x
  exact⟨z,y,xs,Paired.mapP r fun p q z=>⟨z.1,ht _ _ z.2.1,z.2.2⟩,ob,es,ep,k _ _ (.inl rfl) e,c⟩
 | set S n=>obtain⟨ob,es,ep,t,e,c⟩:=x;exact⟨ob,es,ep,t,k _ _ (.inl rfl) e,c⟩
 | ins C dx fs =>
  obtain⟨d,z,ne,e,mA,⟨od,es,ep,e2,c⟩,r⟩:=x
  exact⟨ho _ d,z,ne,k _ _ (.inl rfl) e,mA,⟨od,es,ep,k _ _ (.inr d) e2,c⟩,r⟩
 | own y=>obtain⟨ob,e⟩:=x;exact⟨ob,k _ _ (.inl rfl) e⟩
 | xd fs=>obtain⟨mA,⟨od,es,ep,e,c⟩,r⟩:=x;exact⟨mA,⟨od,es,ep,k _ _ (.inl rfl) e,c⟩,r⟩
 | rng lo hi=>obtain⟨t,u,v,e⟩:=x;exact⟨t,u,v,k _ _ (.inl rfl) e⟩
 | frz ob u ih=>obtain⟨e,q⟩:=x;exact⟨k _ _ (.inl rfl) e,ih q⟩
 | tbl ps =>
  have e:h.get? a=some { cls:=.none,data:=.fields ps }:=x
  show h'.get? a=some { cls:=.none,data:=.fields ps }
  exact k a _ (.inl rfl) e
 | met f y =>
  have e:h.get? a=some (W.methodObj (.ref f) (.ref y)):=x
  show h'.get? a=some (W.methodObj (.ref f) (.ref y))
  exact k a _ (.inl rfl) e
 | ext φ=>obtain⟨p,⟨o,e⟩,st⟩:=x;exact⟨st _ _ p fun o q=>k _ _ (.inl rfl) q,⟨o,k _ _ (.inl rfl) e⟩,st⟩
theorem HOk.lt(x:HOk P w H h)(e:H a=some o):a < h.objs.size:=(x a o e).lt
theorem HOk.fresh(x:HOk P w H h)(e:h.objs.size<=a):H a=none:=by
 cases q:H a with
 | none=>rfl
 | some u=>exact absurd (Nat.lt_of_lt_of_le (x.lt q) e) (Nat.lt_irrefl _)
theorem HOk.kept(x:HOk P w H h)(k:∀ b u,h.get? b=some u->h'.get? b=some u):HOk P w H h':=fun a o e =>
 (x a o e).stay (fun b u _ q=>k b u q) (fun _ q=>q) fun _ _ q=>q
theorem HOk.laid(x:HOk P w H h)(k:∀ b u,h.get? b=some u->h'.get? b=some u)(hp:h.objs.size<=a)(new:cV P w (upd H a o) h' a o):HOk P w (upd H a o) h':=fun b u e=>by
 have hn:=x.fresh hp
 by_cases hb:b=a
 ·subst hb;rw [ak] at e;cases e;exact new
 ·rw [aL hb] at e
  exact (x b u e).stay (fun c v _ q=>k c v q) (fun c q=>by rw [aL (aF q hn)];exact q) fun c xs q=>by rw [aL (aF q hn)];exact q
end
noncomputable def Rd(H:Hp)(a:Addr)(u:HO):Prop:=H a=some u\/∃ o,H a=some (.frz o u)
theorem Rd.ok{P:Program}{w:World}{H:Hp}{h:Heap}{a:Addr}{u:HO}(r:Rd H a u)(x:HOk P w H h):cV P w H h a u:=by
 rcases r with r | ⟨o,r⟩
 ·exact x a u r
 ·obtain⟨_,q⟩:=x a _ r
  exact q
noncomputable def Mut:Option HO->Prop
 | some (.lst _)=>True
 | some (.dK _)=>True
 | some (.dT _)=>True
 | some (.set _ _)=>True
 | some (.ins _ _ _)=>True
 | some (.ext _)=>True
 | _=>False
section
variable {P:Program}{w:World}{H:Hp}{h h':Heap}{x e:Addr}{o':HO}
theorem HOk.write(ok:HOk P w H h)(mu:Mut (H x))(he:e=x\/H e=some (.own x))(k:∀ b u,b≠e->h.get? b=some u->h'.get? b=some u)(heo:∃ u,h'.get? e=some u)
  (new:cV P w (upd H x o') h' x o'):HOk P w (upd H x o') h':=fun b u q=>by
 have nown:∀ c y,H c=some (.own y)->c≠x:=fun c y r z=>by subst z;rw [r] at mu;exact mu
 have ntup:∀ c xs,H c=some (.tup xs)->c≠x:=fun c xs r z=>by subst z;rw [r] at mu;exact mu
 by_cases hb:b=x
 ·subst hb;rw [ak] at q;cases q;exact new
 ·rw [aL hb] at q
  by_cases hbe:b=e
  ·have q':H b=some (.own x):=by
    rcases he with z | z
    ·exact absurd (hbe.trans z) hb
    ·rw [hbe];exact z
   rw [q] at q';cases q'
   obtain⟨v,hv⟩:=heo
   exact⟨v,by rw [hbe];exact hv⟩
  ·refine (ok b u q).stay (fun c v hc r=>k c v ?_ r) (fun c r=>by rw [aL (nown c b r)];exact r) fun c xs r=>by rw [aL (ntup c xs r)];exact r
   rcases hc with rfl | hc
   ·exact hbe
   ·rintro rfl
    rcases he with z | z
    ·exact nown c b hc z
    ·rw [hc] at z;cases z;exact hb rfl
end
structure Un(fs ex:List Addr)(H H':Hp)(h h':Heap):Prop where
 keep:∀ b o,h.get? b=some o->H b=none->b ∉ fs->b ∉ ex->h'.get? b=some o
 slot:∀ b o,h.get? b=some o->H b=none->b∈fs->b ∉ ex->∃ sl,h'.get? b=some { o with slots:=sl }
 free:∀ b o,h.get? b=some o->H b=none->b ∉ ex->H' b=none
 there:∀ b o,h.get? b=some o->b ∉ ex->∃ o',h'.get? b=some o'
 tups:∀ b xs,H b=some (.tup xs)->H' b=some (.tup xs)
 frzs:∀ b o u,H b=some (.frz o u)->H' b=some (.frz o u)
 tbls:∀ b ps,H b=some (.tbl ps)->∃ more,H' b=some (.tbl (ps++more))
section
variable {fs fs' ex ex':List Addr}{H H1 H2:Hp}{h h1 h2 h':Heap}{a x e:Addr}{o:HO}
theorem Un.any(u:Un fs ex H H1 h h1){b:Addr}{ob:Obj}(q:h.get? b=some ob)(n:H b=none)(hx:b ∉ ex):∃ sl,h1.get? b=some { ob with slots:=sl }:=by
 by_cases hb:b∈fs
 ·exact u.slot b ob q n hb hx
 ·exact⟨ob.slots,u.keep b ob q n hb hx⟩
theorem Un.kept(k:∀ b u,h.get? b=some u->h'.get? b=some u):Un fs ex H H h h' :=
 ⟨fun b ob q _ _ _=>k b ob q,fun b ob q _ _ _=>⟨ob.slots,k b ob q⟩,fun _ _ _ n _=>n,fun b ob q _=>⟨ob,k b ob q⟩,fun _ _ q=>q,fun _ _ _ q=>q,fun _ ps q=>⟨#[],by rw [q];simp⟩⟩
theorem Un.refl:Un fs ex H H h h:=Un.kept fun _ _ q=>q
theorem Un.laid(k:∀ b u,h.get? b=some u->h'.get? b=some u)(hp:h.objs.size<=a)(hn:H a=none):Un fs ex H (upd H a o) h h' where
 keep:=fun b u q _ _ _=>k b u q
 slot:=fun b u q _ _ _=>⟨u.slots,k b u q⟩
 free:=fun b u q n _=>by rw [aL (Nat.ne_of_lt (Nat.lt_of_lt_of_le (Heap.lt_size q) hp))];exact n
 there:=fun b u q _=>⟨u,k b u q⟩
 tups:=fun b xs q=>by rw [aL (aF q hn)];exact q
 frzs:=fun b u xs q=>by rw [aL (aF q hn)];exact q
 tbls:=fun b ps q=>⟨#[],by rw [aL (aF q hn),q];simp⟩
theorem Un.write(mu:Mut (H x))(he:e=x\/H e=some (.own x))(k:∀ b u,b≠e->h.get? b=some u->h'.get? b=some u)(heo:∃ u,h'.get? e=some u):Un fs ex H (upd H x o) h h':=by
 have hx:∀ b,H b=none->b≠x:=fun b n z=>by subst z;rw [n] at mu;exact mu
 have hb:∀ b,H b=none->b≠e:=fun b n z=>by
  subst z
  rcases he with r | r
  ·exact hx b n r
  ·rw [n] at r;cases r
 have hm:∀ b u,H b=some u->¬ Mut (some u)->b≠x:=fun b u q nm z=>by subst z;rw [q] at mu;exact nm mu
 refine⟨fun b u q n _ _=>k b u (hb b n) q,fun b u q n _ _=>⟨u.slots,k b u (hb b n) q⟩,fun b u q n _=>by rw [aL (hx b n)];exact n,fun b u q _=>?_,
  fun b xs q=>by rw [aL (hm b _ q fun z=>z)];exact q,fun b u xs q=>by rw [aL (hm b _ q fun z=>z)];exact q,fun b ps q=>⟨#[],by rw [aL (hm b _ q fun z=>z),q];simp⟩⟩
 by_cases hbe:b=e
 ·subst hbe;exact heo
 ·exact⟨u,k b u hbe q⟩
end
noncomputable def trk(h:Heap)(H:Hp):List Addr:=(List.range h.objs.size).filter fun a=>(H a).isSome
noncomputable def Cd(h:Heap)(H:Hp):Heap:=W.hideAll h (trk h H)
theorem xY(h:Heap)(H:Hp):(Cd h H).objs.size=h.objs.size:=W.hideAll_size _ _
theorem BZ{h:Heap}{H:Hp}{b:Addr}{o:Obj}(e:h.get? b=some o)(n:H b=none):(Cd h H).get? b=some o :=
 W.hideAll_get _ e fun hm=>by
  have q:(H b).isSome=true:=(List.mem_filter.mp hm).2
  rw [n] at q;simp at q
theorem Gs{h:Heap}{H:Hp}{b:Addr}{o:Obj}(e:(Cd h H).get? b=some o):h.get? b=some o/\H b=none:=by
 have e':h.get? b=some o:=W.of_hideAll (trk h H) e
 refine⟨e',?_⟩
 cases q:H b with
 | none=>rfl
 | some x =>
  have hm:b∈trk h H:=List.mem_filter.mpr ⟨List.mem_range.mpr (Heap.lt_size e'),by simp [q]⟩
  have z:(Cd h H).get? b=none:=W.hideAll_none (trk h H) hm
  rw [z] at e;cases e
noncomputable def Hi(g h:Heap)(L:Addr):List (Addr × Obj):=(List.range h.objs.size).filterMap fun a=>if a=L\/(g.get? a).isSome=true then none else (h.get? a).map fun o=>(a,o)
noncomputable def rest(g h:Heap)(L d:Addr):List (Addr × Obj):=(Hi g h L).filter fun p=>decide (p.1≠d)
structure Mod(K:W.Frag)(mg:Str->Option Value)(base:Heap):Prop where
 kin:K.In base
 glob:base.Ns mainGlobals mg
 blt:∃ mb,base.Ns builtinsNs mb/\∀ x:Str,x ≠ "__name__"->mb x=bootBuiltins x
 nolimit:base.NoLimit
set_option genInjectivity false in
structure Cx where
 prog:Program
 w:World
 K:W.Frag
 mg:Str->Option Value
 base:Heap
 A:Around
 N:List Str
 s₀:Shared
 H₀:Hp
 env:Env
 outer:List Env
 stack:List Env
 ex:List Addr
 fn:Str->Bool
 calm:Bool
 pn:List (Addr × Obj)
 xe:Value->Shared->Prop
noncomputable def frs(l:List Env):List Addr:=l.filterMap (·.frame)
noncomputable abbrev Cx.fs(X:Cx):List Addr:=frs X.outer
noncomputable def Vis(sc:Scope)(x:Str):Prop:=sc.names.lookup x=some .local\/sc.names.lookup x=some .cell\/sc.names.lookup x=some .free
noncomputable def Loc(sc:Scope)(x:Str):Prop:=sc.names.lookup x=some .local\/sc.names.lookup x=some .cell
noncomputable def Look(env:Env)(h:Heap)(m:Str->Option Value)(x:Str)(u:Value):Prop :=
 (env.kindOf x=some .local/\m x=some u)\/((env.kindOf x=some .cell\/env.kindOf x=some .free)/\∃ c,env.cells.lookup x=some c/\h.IsCell c (some u))
set_option genInjectivity false in
structure Cx.Ok(X:Cx):Prop where
 mod:Mod X.K X.mg X.base
 kind:X.env.scope.kind=.function
 glob:X.env.globals=mainGlobals
 blt:X.env.builtins=builtinsNs
 above:X.s₀.heap.objs.size<=X.env.locals
 inj:∀ x y c,X.env.cells.lookup x=some c->X.env.cells.lookup y=some c->x=y
 has:∀ x,(X.env.kindOf x=some .cell\/X.env.kindOf x=some .free)->∃ c,X.env.cells.lookup x=some c
 cab:∀ x c,X.fn x=true->X.env.cells.lookup x=some c->X.s₀.heap.objs.size<=c
 hd:X.calm=true->X.A.handled=none
 frames:X.A.frames=some X.stack
 stk:X.stack=X.outer\/(X.stack=X.env :: X.outer/\X.env.frame=some X.env.locals)
 exf:∀ b∈X.ex,b≠X.env.locals/\∀ x c,X.env.cells.lookup x=some c->c≠b
 bs:∀ b o,X.base.get? b=some o->X.s₀.heap.get? b=some o/\X.H₀ b=none
 bsz:X.base.objs.size<=X.s₀.heap.objs.size
 noex:∀ b o,X.base.get? b=some o->b ∉ X.ex
 exfs:∀ b∈X.ex,b ∉ X.fs
 funs:X.s₀.heap.FunFrames X.base X.outer
 frf:∀ b∈X.fs,X.H₀ b=none
structure Inv(X:Cx)(pins:List (Addr × Obj))(σ:List (Option V))(H:Hp)(s:Shared):Prop where
 ok:X.Ok
 os:s.os=X.s₀.os
 bare:AllBare s.gens
 base:Un X.fs X.ex X.H₀ H X.s₀.heap s.heap
 loc:∃ m,s.heap.Ns X.env.locals m/\∀(i:Nat)(x:Str)(v:V),X.N[i]?=some x->σ[i]?=some (some v)->Vis X.env.scope x->∃ u,RelV v u/\Look X.env s.heap m x u
 cell:∀ x c,X.env.cells.lookup x=some c->∃ v,s.heap.IsCell c v
 free:H X.env.locals=none
 freeC:∀ x c,X.env.cells.lookup x=some c->H c=none
 pin:∀ p∈X.pn++pins,s.heap.get? p.1=some p.2/\H p.1=none/\p.1≠X.env.locals/\p.1 ∉ X.fs/\∀ v,p.2.data≠.cell v
 hok:HOk X.prog X.w H s.heap
 len:σ.length=X.N.length
section
variable {X:Cx}{pins:List (Addr × Obj)}{σ:List (Option V)}{H H':Hp}{s:Shared}{h':Heap}
theorem Cx.Ok.nofr(ok:X.Ok){b:Addr}{o:Obj}(e:X.base.get? b=some o):b ∉ X.fs:=fun hb=>by
 have:=(ok.funs.mem hb).1
 rw [e] at this;cases this
theorem Inv.bs(I:Inv X pins σ H s):∀ b o,X.base.get? b=some o->s.heap.get? b=some o/\H b=none:=fun b o e =>
 ⟨I.base.keep b o (I.ok.bs b o e).1 (I.ok.bs b o e).2 (I.ok.nofr e) (I.ok.noex b o e),I.base.free b o (I.ok.bs b o e).1 (I.ok.bs b o e).2 (I.ok.noex b o e)⟩
theorem Inv.bk(I:Inv X pins σ H s):∀ b o,X.base.get? b=some o->s.heap.get? b=some o:=fun b o e=>(I.bs b o e).1
theorem Inv.mod(I:Inv X pins σ H s):Mod X.K X.mg X.base:=I.ok.mod
theorem Inv.kIn(I:Inv X pins σ H s):X.K.In s.heap:=I.ok.mod.kin.keeps I.bk
theorem Inv.nolimit(I:Inv X pins σ H s):s.heap.NoLimit:=I.ok.mod.nolimit.keeps I.bk
theorem Inv.fr(I:Inv X pins σ H s):∃ m,Fr X.base X.env.locals s.heap m :=
 let ⟨m,hn,_⟩:=I.loc
 ⟨m,hn,I.bk,Nat.le_trans I.ok.bsz I.ok.above⟩
theorem Inv.lt(I:Inv X pins σ H s):X.env.locals < s.heap.objs.size:=let ⟨_,hn,_⟩:=I.loc;hn.lt
theorem Inv.sz(I:Inv X pins σ H s):X.s₀.heap.objs.size<=s.heap.objs.size:=Nat.le_trans I.ok.above (Nat.le_of_lt I.lt)
theorem Inv.nofs(I:Inv X pins σ H s){a:Addr}(h:s.heap.objs.size<=a):a ∉ X.fs:=fun hb=>by
 obtain⟨_,o,ho,_⟩:=I.ok.funs.mem hb
 exact absurd (Nat.lt_of_lt_of_le (Heap.lt_size ho) (Nat.le_trans I.sz h)) (Nat.lt_irrefl _)
theorem Inv.cne(I:Inv X pins σ H s):∀ x c,X.env.cells.lookup x=some c->c≠X.env.locals:=fun x c e z=>by
 obtain⟨v,o,ho,hd⟩:=I.cell x c e
 obtain⟨m,⟨o',es,ep,ho',hd',_⟩,_⟩:=I.loc
 rw [z,ho'] at ho;cases ho;rw [hd'] at hd;cases hd
theorem Inv.funs(I:Inv X pins σ H s):s.heap.FunFrames X.base X.outer:=by
 have all:∀(l:List Env),(∀ b∈frs l,b∈X.fs)->X.s₀.heap.FunFrames X.base l->s.heap.FunFrames X.base l:=by
  intro l
  induction l with
  | nil=>intro _ _;trivial
  | cons env r ih =>
   intro hs hl
   obtain⟨hk,⟨L,o,hf,hn,ho,hd⟩,hr⟩:=hl
   have hL:L∈X.fs:=hs L (by unfold frs;rw [List.filterMap_cons,hf];exact List.mem_cons_self)
   obtain⟨sl,e⟩:=I.base.slot L o ho (I.ok.frf L hL) hL fun z=>I.ok.exfs L z hL
   exact⟨hk,⟨L,_,hf,hn,e,hd⟩,ih (fun b hb=>hs b (by unfold frs;rw [List.filterMap_cons,hf];exact List.mem_cons_of_mem _ hb)) hr⟩
 exact all X.outer (fun _ hb=>hb) I.ok.funs
theorem Inv.stack(I:Inv X pins σ H s):s.heap.FunFrames X.base X.stack:=by
 rcases I.ok.stk with e | ⟨e,hf⟩
 ·rw [e];exact I.funs
 ·rw [e]
  obtain⟨m,hn,_⟩:=I.loc
  refine .cons (by rw [I.ok.kind];decide) hf hn ?_ I.funs
  exact Heap.get?_none_of_le (Nat.le_trans I.ok.bsz I.ok.above)
theorem Inv.stkSub(I:Inv X pins σ H s):∀ b∈frs X.stack,b∈X.env.locals :: X.fs:=fun b hb=>by
 rcases I.ok.stk with e | ⟨e,hf⟩
 ·rw [e] at hb;exact List.mem_cons_of_mem _ hb
 ·rw [e] at hb
  unfold frs at hb
  rw [List.filterMap_cons,hf] at hb
  exact hb
theorem Inv.stkFree(I:Inv X pins σ H s):∀ b∈frs X.stack,H b=none:=fun b hb=>by
 rcases List.mem_cons.mp (I.stkSub b hb) with e | hb
 ·rw [e];exact I.free
 ·obtain⟨_,o,ho,_⟩:=I.ok.funs.mem hb
  exact I.base.free b o ho (I.ok.frf b hb) fun z=>I.ok.exfs b z hb
theorem Inv.step{g':Array GenState}{t':Nat}{d':Drawn}{ch:List Addr}(I:Inv X pins σ H s)
  (hch:∀ b∈ch,(b∈X.ex\/X.s₀.heap.objs.size<=b)/\b≠X.env.locals/\(∀ x c,X.env.cells.lookup x=some c->c≠b)/\∀ p∈X.pn++pins,p.1≠b)
  (keep:∀ b o,b≠X.env.locals->b ∉ X.fs->b ∉ ch->s.heap.get? b=some o->H b=none->h'.get? b=some o)
  (slot:∀ b o,b≠X.env.locals->b∈X.fs->b ∉ ch->s.heap.get? b=some o->H b=none->∃ sl,h'.get? b=some { o with slots:=sl })(free:∀ b o,b ∉ ch->s.heap.get? b=some o->H b=none->H' b=none)
  (there:∀ b o,b ∉ ch->s.heap.get? b=some o->∃ o',h'.get? b=some o')
  (tups:∀ b xs,H b=some (.tup xs)->H' b=some (.tup xs))(frzs:∀ b o u,H b=some (.frz o u)->H' b=some (.frz o u))(tbls:∀ b ps,H b=some (.tbl ps)->∃ more,H' b=some (.tbl (ps++more)))
  (ns:∀ m,s.heap.Ns X.env.locals m->h'.Ns X.env.locals m)(hok:HOk X.prog X.w H' h')(hg:AllBare g') :
  Inv X pins σ H' { s with heap:=h',gens:=g',drawn:=d',toks:=t' }:=by
 have neL:∀ b o,X.s₀.heap.get? b=some o->b≠X.env.locals:=fun b o e=>Nat.ne_of_lt (Nat.lt_of_lt_of_le (Heap.lt_size e) I.ok.above)
 have neC:∀ b o,X.s₀.heap.get? b=some o->b ∉ X.ex->b ∉ ch:=fun b o e hx hb=>by
  rcases (hch b hb).1 with z | z
  ·exact hx z
  ·exact absurd (Nat.lt_of_lt_of_le (Heap.lt_size e) z) (Nat.lt_irrefl _)
 have cellK:∀ x c,X.env.cells.lookup x=some c->∀ v,s.heap.IsCell c v->h'.IsCell c v:=fun x c e v ⟨o,ho,hd⟩=>by
  have nch:c ∉ ch:=fun z=>(hch c z).2.2.1 x c e rfl
  by_cases hc:c∈X.fs
  ·obtain⟨sl,q⟩:=slot c o (I.cne x c e) hc nch ho (I.freeC x c e)
   exact⟨_,q,hd⟩
  ·exact⟨o,keep c o (I.cne x c e) hc nch ho (I.freeC x c e),hd⟩
 refine⟨I.ok,I.os,hg,⟨fun b o e n hb hx=>?_,fun b o e n hb hx=>?_,fun b o e n hx=>?_,fun b o e hx=>?_,fun b xs e=>tups b xs (I.base.tups b xs e),fun b o xs e=>frzs b o xs (I.base.frzs b o xs e),fun b ps e=>?_⟩,?_,fun x c e=>?_,?_,fun x c e=>?_,fun p hp=>?_,hok,I.len⟩
 ·exact keep b o (neL b o e) hb (neC b o e hx) (I.base.keep b o e n hb hx) (I.base.free b o e n hx)
 ·obtain⟨sl,e1⟩:=I.base.slot b o e n hb hx
  obtain⟨sl',e2⟩:=slot b _ (neL b o e) hb (neC b o e hx) e1 (I.base.free b o e n hx)
  exact⟨sl',e2⟩
 ·obtain⟨o',e1⟩:=I.base.there b o e hx
  exact free b o' (neC b o e hx) e1 (I.base.free b o e n hx)
 ·obtain⟨o',e1⟩:=I.base.there b o e hx
  exact there b o' (neC b o e hx) e1
 ·obtain⟨m1,e1⟩:=I.base.tbls b ps e
  obtain⟨m2,e2⟩:=tbls b _ e1
  exact⟨m1++m2,by rw [e2,Array.append_assoc]⟩
 ·obtain⟨m,hn,hl⟩:=I.loc
  refine⟨m,ns m hn,fun i x v e1 e2 e3=>?_⟩
  obtain⟨u,r,l⟩:=hl i x v e1 e2 e3
  refine⟨u,r,?_⟩
  rcases l with l | ⟨k,c,e,z⟩
  ·exact .inl l
  ·exact .inr ⟨k,c,e,cellK x c e _ z⟩
 ·obtain⟨v,z⟩:=I.cell x c e
  exact⟨v,cellK x c e v z⟩
 ·obtain⟨m,⟨o,_,_,ho,_⟩,_⟩:=I.loc
  exact free _ o (fun z=>(hch _ z).2.1 rfl) ho I.free
 ·obtain⟨v,o,ho,hd⟩:=I.cell x c e
  exact free c o (fun z=>(hch c z).2.2.1 x c e rfl) ho (I.freeC x c e)
 ·obtain⟨e,n,ne,nf,d⟩:=I.pin p hp
  have nch:p.1 ∉ ch:=fun z=>(hch p.1 z).2.2.2 p hp rfl
  exact⟨keep p.1 p.2 ne nf nch e n,free p.1 p.2 nch e n,ne,nf,d⟩
theorem Inv.un{t':Nat}(I:Inv X pins σ H s)(u:Un X.fs [] H H' s.heap h')(hok:HOk X.prog X.w H' h'):Inv X pins σ H' { s with heap:=h',toks:=t' }:=by
 obtain⟨m,⟨o,es,ep,ho,r⟩,_⟩:=id I.loc
 obtain⟨sl,hL⟩:=u.any ho I.free (by simp)
 exact I.step (g':=s.gens) (d':=s.drawn) (ch:=[]) (fun _ z=>nomatch z) (fun b o _ hb _ e n=>u.keep b o e n hb (by simp)) (fun b o _ hb _ e n=>u.slot b o e n hb (by simp)) (fun b o _ e n=>u.free b o e n (by simp)) (fun b o _ e=>u.there b o e (by simp)) u.tups u.frzs u.tbls (fun m' hm=>by
  obtain⟨o',es',ep',ho',r'⟩:=hm
  rw [ho] at ho';cases ho'
  exact⟨_,es',ep',hL,r'⟩) hok I.bare
theorem Inv.call{g':Array GenState}{t':Nat}{d':Drawn}{ch:List Addr}(I:Inv X pins σ H s)(u:Un (frs X.stack) ch H H' s.heap h')(hok:HOk X.prog X.w H' h')(hg:AllBare g')
  (hch:∀ b∈ch,(b∈X.ex\/X.s₀.heap.objs.size<=b)/\b≠X.env.locals/\(∀ x c,X.env.cells.lookup x=some c->c≠b)/\∀ p∈X.pn++pins,p.1≠b) :
  Inv X pins σ H' { s with heap:=h',gens:=g',drawn:=d',toks:=t' }:=by
 obtain⟨m,⟨o,es,ep,ho,r⟩,_⟩:=id I.loc
 obtain⟨sl,hL⟩:=u.any ho I.free fun z=>(hch _ z).2.1 rfl
 exact I.step (ch:=ch) hch (fun b o hL hb hc e n=>u.keep b o e n (fun z=>(List.mem_cons.mp (I.stkSub b z)).elim hL hb) hc) (fun b o _ _ hc e n=>u.any e n hc) (fun b o hc e n=>u.free b o e n hc) (fun b o hc e=>u.there b o e hc) u.tups u.frzs u.tbls (fun m' hm=>by
  obtain⟨o',es',ep',ho',r'⟩:=hm
  rw [ho] at ho';cases ho'
  exact⟨_,es',ep',hL,r'⟩) hok hg
theorem Inv.turned{t':Nat}{it:Addr}(I:Inv X pins σ H s)(k:∀ b o,b≠it->s.heap.get? b=some o->h'.get? b=some o)(hn:H it=none)(hL:it≠X.env.locals)
  (h1:it∈X.ex\/X.s₀.heap.objs.size<=it)(h2:∀ x c,X.env.cells.lookup x=some c->c≠it)(h3:∀ p∈X.pn++pins,p.1≠it):Inv X pins σ H { s with heap:=h',toks:=t' }:=by
 have nit:∀ b u,H b=some u->b≠it:=fun b u e z=>by rw [z,hn] at e;cases e
 refine I.step (g':=s.gens) (d':=s.drawn) (ch:=[it]) (fun b hb=>?_) (fun b o _ _ hc e _=>k b o (fun z=>hc (by simp [z])) e) (fun b o _ _ hc e _=>⟨o.slots,k b o (fun z=>hc (by simp [z])) e⟩) (fun _ _ _ _ n=>n)
  (fun b o hc e=>⟨o,k b o (fun z=>hc (by simp [z])) e⟩) (fun _ _ e=>e) (fun _ _ _ e=>e) (fun b ps e=>⟨#[],by rw [e];simp⟩) (fun m hm=>?_) (fun b u e=>?_) I.bare
 ·have e:b=it:=by simpa using hb
  subst e
  exact⟨h1,hL,h2,h3⟩
 ·obtain⟨o,es,ep,ho,r⟩:=hm
  exact⟨o,es,ep,k _ o (Ne.symm hL) ho,r⟩
 ·refine (I.hok b u e).stay (fun c v hc q=>k c v ?_ q) (fun _ q=>q) fun _ _ q=>q
  rcases hc with z | z
  ·rw [z];exact nit b u e
  ·exact nit c _ z
theorem Inv.tok(I:Inv X pins σ H s)(t:Nat):Inv X pins σ H { s with toks:=t }:=I.un (h':=s.heap) (t':=t) Un.refl I.hok
theorem Inv.kept{t':Nat}(I:Inv X pins σ H s)(k:∀ b u,s.heap.get? b=some u->h'.get? b=some u):Inv X pins σ H { s with heap:=h',toks:=t' }:=I.un (Un.kept k) (I.hok.kept k)
theorem Inv.laid{a:Addr}{o:HO}{t':Nat}(I:Inv X pins σ H s)(k:∀ b u,s.heap.get? b=some u->h'.get? b=some u)(hp:s.heap.objs.size<=a)(new:cV X.prog X.w (upd H a o) h' a o) :
  Inv X pins σ (upd H a o) { s with heap:=h',toks:=t' }:=I.un (Un.laid k hp (I.hok.fresh hp)) (I.hok.laid k hp new)
theorem Inv.write{x e:Addr}{o:HO}{t':Nat}(I:Inv X pins σ H s)(mu:Mut (H x))(he:e=x\/H e=some (.own x))(k:∀ b u,b≠e->s.heap.get? b=some u->h'.get? b=some u)(heo:∃ u,h'.get? e=some u)
  (new:cV X.prog X.w (upd H x o) h' x o):Inv X pins σ (upd H x o) { s with heap:=h',toks:=t' }:=I.un (Un.write mu he k heo) (I.hok.write mu he k heo new)
theorem Inv.pins_of{pins':List (Addr × Obj)}(I:Inv X pins σ H s)(h:∀ p∈pins',s.heap.get? p.1=some p.2/\H p.1=none/\p.1≠X.env.locals/\p.1 ∉ X.fs/\∀ v,p.2.data≠.cell v):Inv X pins' σ H s :=
 ⟨I.ok,I.os,I.bare,I.base,I.loc,I.cell,I.free,I.freeC,fun p hp=>(List.mem_append.mp hp).elim (fun z=>I.pin p (List.mem_append_left _ z)) (h p),I.hok,I.len⟩
theorem uy{N:List Str}(hN:N.Nodup){i j:Nat}{x:Str}(a:N[i]?=some x)(b:N[j]?=some x):i=j:=by
 obtain⟨h1,e1⟩:=List.getElem?_eq_some_iff.mp a
 obtain⟨h2,e2⟩:=List.getElem?_eq_some_iff.mp b
 exact (List.getElem_inj hN).mp (e1.trans e2.symm)
theorem pZ{M:Model}{A:Around}{E:Value->Shared->Prop}{i:Nat}{x:Str}{v:V}{u:Value}{Q:Unit->Shared->Prop}(I:Inv X pins σ H s)(hN:X.N.Nodup)(hi:X.N[i]?=some x)(hx:Loc X.env.scope x)(r:RelV v u)
  (h:∀ s',Inv X pins (σ.set i (some v)) H s'->(∃ a,Heap.SameBut a s.heap s'.heap/\(a=X.env.locals\/X.env.cells.lookup x=some a))->Q () s')(hf:X.fn x=true\/X.env.scope.names.lookup x=some .local):wpAny M A (storeName X.env x u) Q E s:=by
 obtain⟨m,hn,hl⟩:=id I.loc
 have hcls:(X.env.scope.kind == .class || (X.env.scope.kind == .module && X.env.locals != X.env.globals))=false:=by rw [I.ok.kind];rfl
 have hiσ:i < σ.length:=by rw [I.len];exact (List.getElem?_eq_some_iff.mp hi).1
 have cne:=I.cne
 have tracked:∀ {a:Addr}{h':Heap},(∃ o,s.heap.get? a=some o/\H a=none)->Heap.SameBut a s.heap h'->HOk X.prog X.w H h':=fun {a h'} ha hs b ob e=>by
  obtain⟨_,_,hfree⟩:=ha
  refine (I.hok b ob e).stay (fun c w' hc q=>(hs.2 c ?_).trans q) (fun _ q=>q) fun _ _ q=>q
  rintro rfl
  rcases hc with rfl | hc
  ·rw [hfree] at e;cases e
  ·rw [hfree] at hc;cases hc
 rcases hx with hk | hk
 ·refine wpAny_storeName_local hk hn (fun h' hn' hs=>?_) hcls
  obtain⟨oL,_,_,hoL,_⟩:=id hn
  refine h _ ⟨I.ok,I.os,I.bare,⟨fun b o e n hb hx=>?_,fun b o e n hb hx=>?_,I.base.free,fun b o e hx=>?_,I.base.tups,I.base.frzs,I.base.tbls⟩,⟨_,hn',fun j y v' e1 e2 e3=>?_⟩,fun y c e=>?_,I.free,I.freeC,fun p hp=>?_,tracked ⟨oL,hoL,I.free⟩ hs,by simpa using I.len⟩ ⟨_,hs,.inl rfl⟩
  ·exact (hs.2 b (Nat.ne_of_lt (Nat.lt_of_lt_of_le (Heap.lt_size e) I.ok.above))).trans (I.base.keep b o e n hb hx)
  ·obtain⟨sl,e1⟩:=I.base.slot b o e n hb hx
   exact⟨sl,(hs.2 b (Nat.ne_of_lt (Nat.lt_of_lt_of_le (Heap.lt_size e) I.ok.above))).trans e1⟩
  ·obtain⟨o',e1⟩:=I.base.there b o e hx
   exact⟨o',(hs.2 b (Nat.ne_of_lt (Nat.lt_of_lt_of_le (Heap.lt_size e) I.ok.above))).trans e1⟩
  ·by_cases hj:j=i
   ·subst hj
    rw [hi] at e1;cases e1
    rw [List.getElem?_set_self hiσ] at e2
    cases e2
    exact⟨u,r,.inl ⟨hk,by simp⟩⟩
   ·rw [List.getElem?_set_ne (Ne.symm hj)] at e2
    obtain⟨u',r',q⟩:=hl j y v' e1 e2 e3
    refine⟨u',r',?_⟩
    rcases q with ⟨k,e⟩ | ⟨k,c,e,z⟩
    ·refine .inl ⟨k,?_⟩
     have:y≠x:=fun e=>hj (uy hN e1 (e ▸ hi))
     simp [this,e]
    ·exact .inr ⟨k,c,e,z.sameBut hs (cne y c e)⟩
  ·obtain⟨w',z⟩:=I.cell y c e
   exact⟨w',z.sameBut hs (cne y c e)⟩
  ·obtain⟨e,n,ne,nf,d⟩:=I.pin p hp
   exact⟨(hs.2 p.1 ne).trans e,n,ne,nf,d⟩
 ·have hfn:X.fn x=true:=by
   rcases hf with z | z
   ·exact z
   ·rw [z] at hk;cases hk
  obtain⟨c,hc⟩:=I.ok.has x (.inl hk)
  obtain⟨w',z⟩:=I.cell x c hc
  refine wpAny_storeName_cell I.ok.kind hk hc z (fun h' hc' hs=>?_)
  obtain⟨oc,hoc,hocd⟩:=id z
  refine h { s with heap:=h' } ⟨I.ok,I.os,I.bare,⟨fun b o e n hb hx=>?_,fun b o e n hb hx=>?_,I.base.free,fun b o e hx=>?_,I.base.tups,I.base.frzs,I.base.tbls⟩,⟨m,hn.sameBut hs (Ne.symm (cne x c hc)),fun j y v' e1 e2 e3=>?_⟩,fun y c' e=>?_,I.free,I.freeC,fun p hp=>?_,tracked ⟨oc,hoc,I.freeC x c hc⟩ hs,by simpa using I.len⟩ ⟨c,hs,.inr hc⟩
  ·exact (hs.2 b (Nat.ne_of_lt (Nat.lt_of_lt_of_le (Heap.lt_size e) (I.ok.cab x c hfn hc)))).trans (I.base.keep b o e n hb hx)
  ·obtain⟨sl,e1⟩:=I.base.slot b o e n hb hx
   exact⟨sl,(hs.2 b (Nat.ne_of_lt (Nat.lt_of_lt_of_le (Heap.lt_size e) (I.ok.cab x c hfn hc)))).trans e1⟩
  ·obtain⟨o',e1⟩:=I.base.there b o e hx
   exact⟨o',(hs.2 b (Nat.ne_of_lt (Nat.lt_of_lt_of_le (Heap.lt_size e) (I.ok.cab x c hfn hc)))).trans e1⟩
  ·by_cases hj:j=i
   ·subst hj
    rw [hi] at e1;cases e1
    rw [List.getElem?_set_self hiσ] at e2
    cases e2
    exact⟨u,r,.inr ⟨.inl hk,c,hc,hc'⟩⟩
   ·rw [List.getElem?_set_ne (Ne.symm hj)] at e2
    obtain⟨u',r',q⟩:=hl j y v' e1 e2 e3
    refine⟨u',r',?_⟩
    rcases q with q | ⟨k,c',e,z'⟩
    ·exact .inl q
    ·refine .inr ⟨k,c',e,z'.sameBut hs ?_⟩
     rintro rfl
     exact hj (uy hN e1 (I.ok.inj _ _ _ e hc ▸ hi))
  ·by_cases hcc:c'=c
   ·subst hcc;exact⟨_,hc'⟩
   ·obtain⟨w2,z2⟩:=I.cell y c' e
    exact⟨w2,z2.sameBut hs hcc⟩
  ·obtain⟨e,n,ne,nf,d⟩:=I.pin p hp
   refine⟨(hs.2 p.1 ?_).trans e,n,ne,nf,d⟩
   intro q
   rw [q,hoc] at e
   have q':oc=p.2:=Option.some.inj e
   exact d w' (by rw [← q'];exact hocd)
theorem jm{M:Model}{A:Around}{E:Value->Shared->Prop}{i:Nat}{x:Str}{v:V}{u:Value}{Q:Unit->Shared->Prop}(I:Inv X pins σ H s)(hN:X.N.Nodup)(hi:X.N[i]?=some x)(hx:Loc X.env.scope x)(r:RelV v u)
  (h:∀ s',Inv X pins (σ.set i (some v)) H s'->Q () s')(hf:X.fn x=true\/X.env.scope.names.lookup x=some .local):wpAny M A (storeName X.env x u) Q E s :=
 pZ I hN hi hx r (fun s' I' _=>h s' I') hf
theorem Inv.call'{s':Shared}{ch:List Addr}(I:Inv X pins σ H s)(ho:s'.os=s.os)(u:Un (frs X.stack) ch H H' s.heap s'.heap)(hok:HOk X.prog X.w H' s'.heap)(hg:AllBare s'.gens)
  (hch:∀ b∈ch,(b∈X.ex\/X.s₀.heap.objs.size<=b)/\b≠X.env.locals/\(∀ x c,X.env.cells.lookup x=some c->c≠b)/\∀ p∈X.pn++pins,p.1≠b):Inv X pins σ H' s':=by
 obtain⟨h',g',d',t',o'⟩:=s'
 have e:o'=s.os:=ho
 subst e
 exact I.call (g':=g') (t':=t') (d':=d') u hok hg hch
end
noncomputable abbrev XK:=Value->Option Addr->Hp->Prop
noncomputable abbrev St:=List (Option V)
noncomputable abbrev VK:=V->Hp->Prop
noncomputable abbrev TE:=St->Hp->VK->Prop
noncomputable abbrev TT:=St->Hp->(Bool->Hp->Prop)->Prop
noncomputable abbrev TA:=St->Hp->(List V->Hp->Prop)->Prop
set_option genInjectivity false in
structure Ends where
 nx:St->Hp->Prop
 rt:VK
 bk:St->Hp->Prop:=fun _ _=>False
 ct:St->Hp->Prop:=fun _ _=>False
noncomputable abbrev TS:=Ends->St->Hp->Prop
noncomputable def EP(X:Cx)(pins:List (Addr × Obj))(σ:St)(Q:VK)(u:Value)(s':Shared):Prop:=∃ v H',Inv X pins σ H' s'/\RelV v u/\Q v H'
noncomputable def TP(X:Cx)(pins:List (Addr × Obj))(σ:St)(Q:Bool->Hp->Prop)(b:Bool)(s':Shared):Prop:=∃ H',Inv X pins σ H' s'/\Q b H'
noncomputable def AP(X:Cx)(pins:List (Addr × Obj))(σ:St)(Q:List V->Hp->Prop)(us:List Value)(s':Shared):Prop:=∃ vs H',Inv X pins σ H' s'/\Vals vs us/\Q vs H'
noncomputable def SP(X:Cx)(pins:List (Addr × Obj))(D:Ends)(f:Flow)(s':Shared):Prop :=
 match f with
 | .next=>∃ σ' H',Inv X pins σ' H' s'/\D.nx σ' H'
 | .brk=>∃ σ' H',Inv X pins σ' H' s'/\D.bk σ' H'
 | .cont=>∃ σ' H',Inv X pins σ' H' s'/\D.ct σ' H'
 | .ret u=>∃ v σ' H',Inv X pins σ' H' s'/\RelV v u/\D.rt v H'
noncomputable def PE(X:Cx)(e:Expr)(t:TE):Prop :=
 ∀(pins:List (Addr × Obj))(s:Shared)(σ:St)(H:Hp)(Q:VK),Inv X pins σ H s->t σ H Q->wpAny (model X.prog X.w) X.A (eval e X.env) (EP X pins σ Q) X.xe s
noncomputable def PT(X:Cx)(e:Expr)(t:TT):Prop :=
 ∀(pins:List (Addr × Obj))(s:Shared)(σ:St)(H:Hp)(Q:Bool->Hp->Prop),Inv X pins σ H s->t σ H Q->wpAny (model X.prog X.w) X.A (isTrue e X.env (eval e X.env)) (TP X pins σ Q) X.xe s
noncomputable def PW(X:Cx)(e:Expr)(t:TT):Prop :=
 ∀(whole:Sem Value)(pins:List (Addr × Obj))(s:Shared)(σ:St)(H:Hp)(Q:Bool->Hp->Prop),Inv X pins σ H s->t σ H Q->wpAny (model X.prog X.w) X.A (isTrue e X.env whole) (TP X pins σ Q) X.xe s
theorem PW.pt{X:Cx}{e:Expr}{t:TT}(h:PW X e t):PT X e t:=h _
noncomputable def PA(X:Cx)(es:List Expr)(t:TA):Prop :=
 ∀(pos:Pos)(pins:List (Addr × Obj))(s:Shared)(σ:St)(H:Hp)(Q:List V->Hp->Prop),Inv X pins σ H s->t σ H Q->wpAny (model X.prog X.w) X.A (spliced (backTo pos (starEach es X.env))) (AP X pins σ Q) X.xe s
noncomputable def PS(X:Cx)(st:Stmt)(t:TS):Prop :=
 ∀(pins:List (Addr × Obj))(s:Shared)(σ:St)(H:Hp)(D:Ends),Inv X pins σ H s->t D σ H->wpAny (model X.prog X.w) X.A (exec st X.env) (SP X pins D) X.xe s
noncomputable def PSs(X:Cx)(st:List Stmt)(t:TS):Prop :=
 ∀(pins:List (Addr × Obj))(s:Shared)(σ:St)(H:Hp)(D:Ends),Inv X pins σ H s->t D σ H->wpAny (model X.prog X.w) X.A (execs st X.env) (SP X pins D) X.xe s
theorem thn{α:Type}{t:Sem α}{Q Q':α->Shared->Prop}{M:Model}{A:Around}{E:Value->Shared->Prop}{s:Shared}(h:wpAny M A t Q E s)(hQ:∀ a s,Q a s->Q' a s):wpAny M A t Q' E s:=wpAny_mono h hQ fun _ _ x=>x
section
variable {X:Cx}
theorem bin{a b:Expr}{ta tb:TE}(ha:PE X a ta)(hb:PE X b tb){pins:List (Addr × Obj)}{s:Shared}{σ:St}{H:Hp}{R:V->V->Hp->Prop}(I:Inv X pins σ H s)(h:ta σ H fun x H1=>tb σ H1 fun y H2=>R x y H2)
  {α:Type}{Q:α->Shared->Prop}{f:Value->Value->Sem α}
  (hf:∀ v u s2 x y H2,Inv X pins σ H2 s2->RelV x v->RelV y u->R x y H2->wpAny (model X.prog X.w) X.A (f v u) Q X.xe s2) :
  wpAny (model X.prog X.w) X.A (eval a X.env) (fun v s₁=>wpAny (model X.prog X.w) X.A (eval b X.env) (fun u s₂=>wpAny (model X.prog X.w) X.A (f v u) Q X.xe s₂) X.xe s₁) X.xe s:=by
 refine thn (ha pins s σ H _ I h) fun v s1 ⟨x,H1,I1,r1,q1⟩=>?_
 refine thn (hb pins s1 σ H1 _ I1 q1) fun u s2 ⟨y,H2,I2,r2,q2⟩=>?_
 exact hf v u s2 x y H2 I2 r1 r2 q2
noncomputable def vM(i:Nat):TE:=fun σ H Q=>∃ v,σ[i]?=some (some v)/\Q v H
noncomputable def tC(v:V):TE:=fun _ H Q=>Q v H
theorem Ks{i:Nat}{x:Str}{pos:Pos}(hN:X.N[i]?=some x)(hv:Vis X.env.scope x)(hd:(x == ("__debug__" : Str))=false)(hcd:(x == ("__classdict__" : Str))=false):PE X (.Name x pos) (vM i):=by
 intro pins s σ H Q I h
 obtain⟨v,e,h⟩:=h
 obtain⟨m,hn,hl⟩:=I.loc
 obtain⟨u,r,l⟩:=hl i x v hN e hv
 have fin:EP X pins σ Q u s:=⟨v,H,I,r,h⟩
 rcases l with ⟨hk,hm⟩ | ⟨hk,c,hc,hcell⟩
 ·exact wpAny_Name (wpAny_loadName_local I.ok.kind hk hn hm fin) hd
 ·rcases hk with hk | hk
  ·exact wpAny_Name (wpAny_loadName_cell I.ok.kind hk hc hcell fin) hd
  ·exact wpAny_Name (wpAny_loadName_free I.ok.kind hk hc hcell fin hcd) hd
theorem aA{i j pos}:PE X (.Constant (.int i) j pos) (tC (.int i)):=fun _ _ _ H _ I h=>wpAny_Constant_int ⟨.int i,H,I.tok _,⟨_,rfl⟩,h⟩
theorem fJ{b j pos}:PE X (.Constant (.bool b) j pos) (tC (.bl b)):=fun _ _ _ H _ I h=>Constant_bool ⟨.bl b,H,I,rfl,h⟩
theorem Ey{j pos}:PE X (.Constant .none j pos) (tC .non):=fun _ _ _ H _ I h=>Constant_none ⟨.non,H,I,rfl,h⟩
theorem cB{x j pos}:PE X (.Constant (.str x) j pos) (tC (.str x)):=fun _ _ _ H _ I h=>Calls.Constant_str ⟨.str x,H,I.tok _,⟨_,rfl⟩,h⟩
noncomputable def Gl(X:Cx)(x:Str):Prop:=X.env.kindOf x=some .globalImplicit
theorem z8{E:Value->Shared->Prop}{pins:List (Addr × Obj)}{s:Shared}{σ:St}{H:Hp}{x:Str}{u:Value}{pos:Pos}{Q:Value->Shared->Prop}(I:Inv X pins σ H s)(hg:Gl X x)(hm:X.mg x=some u)(h:Q u s)
  (hd:(x == ("__debug__" : Str))=false:=by decide):wpAny (model X.prog X.w) X.A (eval (.Name x pos) X.env) Q E s :=
 Calls.Name_function_global I.ok.kind hg (Calls.loadGlobal_global (by rw [I.ok.glob];exact I.mod.glob.keeps I.bk) hm h) hd
theorem j8{E:Value->Shared->Prop}{pins:List (Addr × Obj)}{s:Shared}{σ:St}{H:Hp}{x:Str}{u:Value}{pos:Pos}{Q:Value->Shared->Prop}(I:Inv X pins σ H s)(hg:Gl X x)(hm:X.mg x=none)(hv:bootBuiltins x=some u)(h:Q u s)
  (hn:x ≠ "__name__":=by decide)(hd:(x == ("__debug__" : Str))=false:=by decide):wpAny (model X.prog X.w) X.A (eval (.Name x pos) X.env) Q E s:=by
 obtain⟨mb,h1,h2⟩:=I.mod.blt
 exact Calls.Name_function_global I.ok.kind hg (Calls.loadGlobal_builtin (by rw [I.ok.glob];exact I.mod.glob.keeps I.bk) hm (by rw [I.ok.blt];exact h1.keeps I.bk) ((h2 x hn).trans hv) h) hd
theorem jN{x:Str}{v:V}{u:Value}{pos:Pos}(hg:Gl X x)(hm:X.mg x=some u)(r:RelV v u)(hd:(x == ("__debug__" : Str))=false:=by decide):PE X (.Name x pos) (tC v) :=
 fun _ _ _ H _ I h=>z8 I hg hm ⟨v,H,I,r,h⟩ hd
theorem iT{x:Str}{v:V}{u:Value}{pos:Pos}(hg:Gl X x)(hm:X.mg x=none)(hv:bootBuiltins x=some u)(r:RelV v u)(hn:x ≠ "__name__":=by decide)(hd:(x == ("__debug__" : Str))=false:=by decide):PE X (.Name x pos) (tC v) :=
 fun _ _ _ H _ I h=>j8 I hg hm hv ⟨v,H,I,r,h⟩ hn hd
variable {a b:Expr}{ta tb:TE}{pos:Pos}
noncomputable def PC(X:Cx)(op:CmpOp)(a b:Expr)(t:TE):Prop :=
 ∀(pins:List (Addr × Obj))(s:Shared)(σ:St)(H:Hp)(Q:VK),Inv X pins σ H s->t σ H Q ->
  wpAny (model X.prog X.w) X.A (eval a X.env) (fun v s₁=>wpAny (model X.prog X.w) X.A (eval b X.env) (fun u s₂=>wpAny (model X.prog X.w) X.A (compareOp op v u) (EP X pins σ Q) X.xe s₂) X.xe s₁) X.xe s
theorem DY(b:Expr){op:CmpOp}(h:op≠.In)(h2:op≠.NotIn):behindInMarks op b=false:=by
 have e1:(op == CmpOp.In)=false:=by cases op <;> first | rfl | exact absurd rfl h
 have e2:(op == CmpOp.NotIn)=false:=by cases op <;> first | rfl | exact absurd rfl h2
 cases b <;> simp [behindInMarks,e1,e2]
noncomputable def tB(t:TE):TT:=fun σ H Q=>t σ H fun x H1=>∃ c,x=.bl c/\Q c H1
theorem Ko{op:CmpOp}{t:TE}(h:PC X op a b t)(h1:behindInMarks op b=false:=by first | exact DY _ (by decide) (by decide) | rfl):PT X (.Compare a [op] [b] pos) (tB t):=by
 intro pins s σ H Q I hw
 refine wpAny_isTrue_Compare1 (thn (h pins s σ H _ I hw) fun v s1 h1=>thn h1 fun u s2 h2=>thn h2 fun c s3 ⟨x,H1,I1,r1,q1⟩=>?_) h1
 obtain⟨d,rfl,q⟩:=q1
 cases r1
 exact wpAny_truthy_bool ⟨H1,I1,q⟩
theorem gG{e:Expr}{t:TE}(h:PE X e t)(he:(fun whole=>isTrue e X.env whole)=(fun whole=>(do let v ← whole;standAt e.pos;holding [v] (truthy v))):=by rfl):PT X e (tB t):=by
 intro pins s σ H Q I hw
 refine isTrue_plain (thn (h pins s σ H _ I hw) fun v s1 ⟨x,H1,I1,r1,q1⟩=>?_) (congrFun he _)
 obtain⟨d,rfl,q⟩:=q1
 cases r1
 exact wpAny_truthy_bool ⟨H1,I1,q⟩
variable {tA tB':TT}{rest:List Expr}
noncomputable def NQ(t u:TT):TT:=fun σ H Q=>t σ H fun c H1=>if c=true then u σ H1 Q else Q false H1
noncomputable def tOr(t u:TT):TT:=fun σ H Q=>t σ H fun c H1=>if c=true then Q true H1 else u σ H1 Q
noncomputable def Oe(t:TT):TT:=fun σ H Q=>t σ H fun c H1=>Q (!c) H1
theorem fV(ha:PT X a tA):PW X (.BoolOp .And [a] pos) tA:=by
 intro wh pins s σ H Q I h
 refine isTrue_and (thn (ha pins s σ H Q I h) fun c s1 e=>?_)
 cases c with
 | true=>exact isTrue_and_nil e
 | false=>exact e
theorem m7(ha:PT X a tA):PW X (.BoolOp .Or [a] pos) tA:=by
 intro wh pins s σ H Q I h
 refine isTrue_or (thn (ha pins s σ H Q I h) fun c s1 e=>?_)
 cases c with
 | false=>exact isTrue_or_nil e
 | true=>exact e
theorem iz(ha:PT X a tA)(hb:PW X (.BoolOp .And (b :: rest) pos) tB'):PW X (.BoolOp .And (a :: b :: rest) pos) (NQ tA tB'):=by
 intro wh pins s σ H Q I h
 refine isTrue_and (thn (ha pins s σ H _ I h) fun c s1 ⟨H1,I1,q1⟩=>?_)
 cases c with
 | true=>exact hb wh pins s1 σ H1 Q I1 q1
 | false=>exact⟨H1,I1,q1⟩
theorem wI(ha:PT X a tA)(hb:PW X (.BoolOp .Or (b :: rest) pos) tB'):PW X (.BoolOp .Or (a :: b :: rest) pos) (tOr tA tB'):=by
 intro wh pins s σ H Q I h
 refine isTrue_or (thn (ha pins s σ H _ I h) fun c s1 ⟨H1,I1,q1⟩=>?_)
 cases c with
 | true=>exact⟨H1,I1,q1⟩
 | false=>exact hb wh pins s1 σ H1 Q I1 q1
theorem j9(ha:PT X a tA):PT X (.UnaryOp .Not a pos) (Oe tA):=by
 intro pins s σ H Q I h
 exact isTrue_not (ha pins s σ H (fun c H1=>Q (!c) H1) I h)
noncomputable def K9(ta tb:TE):TE:=fun σ H Q=>ta σ H fun x H1=>∃ c,x=.bl c/\if c=true then tb σ H1 Q else Q (.bl false) H1
noncomputable def Lj(ta tb:TE):TE:=fun σ H Q=>ta σ H fun x H1=>∃ c,x=.bl c/\if c=true then Q (.bl true) H1 else tb σ H1 Q
noncomputable def Lg(ta:TE):TE:=fun σ H Q=>ta σ H fun x H1=>∃ c,x=.bl c/\Q (.bl (!c)) H1
theorem gM{op}{t:TE}(h:PE X a t):PE X (.BoolOp op [a] pos) t:=fun pins s σ H Q I hw=>BoolOp_one (h pins s σ H Q I hw)
theorem gb(ha:PE X a ta)(hb:PE X (.BoolOp .And (b :: rest) pos) tb):PE X (.BoolOp .And (a :: b :: rest) pos) (K9 ta tb):=by
 intro pins s σ H Q I h
 refine BoolOp_and (thn (ha pins s σ H _ I h) fun v s1 ⟨x,H1,I1,r1,q1⟩=>?_)
 obtain⟨c,rfl,q1⟩:=q1
 cases r1
 refine wpAny_truthy_bool ?_
 cases c with
 | true=>exact hb pins s1 σ H1 Q I1 q1
 | false=>exact⟨.bl false,H1,I1,rfl,q1⟩
theorem Jk(ha:PE X a ta)(hb:PE X (.BoolOp .Or (b :: rest) pos) tb):PE X (.BoolOp .Or (a :: b :: rest) pos) (Lj ta tb):=by
 intro pins s σ H Q I h
 refine BoolOp_or (thn (ha pins s σ H _ I h) fun v s1 ⟨x,H1,I1,r1,q1⟩=>?_)
 obtain⟨c,rfl,q1⟩:=q1
 cases r1
 refine wpAny_truthy_bool ?_
 cases c with
 | false=>exact hb pins s1 σ H1 Q I1 q1
 | true=>exact⟨.bl true,H1,I1,rfl,q1⟩
theorem JZ(ha:PE X a ta):PE X (.UnaryOp .Not a pos) (Lg ta):=by
 intro pins s σ H Q I h
 refine UnaryOp_ (thn (ha pins s σ H _ I h) fun v s1 ⟨x,H1,I1,r1,q1⟩=>?_)
 obtain⟨c,rfl,q1⟩:=q1
 cases r1
 exact not_of (wpAny_truthy_bool ⟨.bl (!c),H1,I1,rfl,q1⟩)
noncomputable def tIf(t:TT)(ta tb:TE):TE:=fun σ H Q=>t σ H fun c H1=>if c=true then ta σ H1 Q else tb σ H1 Q
theorem uT{c:Expr}(hc:PT X c tA)(ha:PE X a ta)(hb:PE X b tb):PE X (.IfExp c a b pos) (tIf tA ta tb):=by
 intro pins s σ H Q I h
 refine wpAny_IfExp (thn (hc pins s σ H _ I h) fun d s1 ⟨H1,I1,q1⟩=>?_)
 cases d with
 | true=>exact ha pins s1 σ H1 Q I1 q1
 | false=>exact hb pins s1 σ H1 Q I1 q1
end
noncomputable def SqL(K:W.Frag)(H:Hp)(a:Addr)(xs:List V):Prop :=
 Rd H a (.lst xs) \/
  ∃(o:Obj)(its:Array Value)(n:Nat),K.lookup a=some o/\o.cls=.type "list"/\o.dict=none/\o.data=.seq its n/\its.size<=sizeLine/\Vals xs its.toList
noncomputable def SqT(K:W.Frag)(H:Hp)(a:Addr)(xs:List V):Prop :=
 Rd H a (.tup xs) \/
  ∃(o:Obj)(its:Array Value)(n:Nat),K.lookup a=some o/\o.cls=.type "tuple"/\o.data=.seq its n/\its.size<=sizeLine/\Vals xs its.toList
noncomputable def Ny:Value->Option V
 | .none=>some .non
 | .bool b=>some (.bl b)
 | .int i _=>some (.int i)
 | .str x _=>some (.str x)
 | .bytes b _=>some (.byt b)
 | .float b _=>some (.flt b)
 | .ref a=>some (.ref a)
 | .type n=>some (.ty n)
 | _=>none
theorem RelV.abs{x:V}{u:Value}(r:RelV x u):Ny u=some x:=by
 cases x with
 | non=>cases r;rfl
 | bl _=>cases r;rfl
 | int _=>obtain⟨t,rfl⟩:=r;rfl
 | str _=>obtain⟨t,rfl⟩:=r;rfl
 | byt _=>obtain⟨t,rfl⟩:=r;rfl
 | flt _=>obtain⟨t,rfl⟩:=r;rfl
 | ref _=>cases r;rfl
 | ty _=>cases r;rfl
theorem RelV.inj{x y:V}{u:Value}(r:RelV x u)(q:RelV y u):x=y:=Option.some.inj (r.abs.symm.trans q.abs)
theorem Vals.inj:∀ {xs ys:List V}{us:List Value},Vals xs us->Vals ys us->xs=ys
 | _,_,_,.nil,.nil=>rfl
 | _,_,_,.cons r t,.cons r' t'=>by rw [r.inj r',Vals.inj t t']
section
variable {X:Cx}{pins:List (Addr × Obj)}{σ:St}{H:Hp}{s:Shared}{a:Addr}{xs ys:List V}
theorem SqL.of{K:W.Frag}(h:H a=some (.lst xs)):SqL K H a xs:=.inl (.inl h)
theorem SqT.of{K:W.Frag}(h:H a=some (.tup xs)):SqT K H a xs:=.inl (.inl h)
theorem Inv.list(I:Inv X pins σ H s)(h:SqL X.K H a xs):∃ its:List Value,Vals xs its/\PlainL s.heap a its.toArray/\xs.length<=sizeLine:=by
 rcases h with h | ⟨o,its,n,hk,hc,hd,hs,hz,r⟩
 ·obtain⟨z,its,n,r,e⟩:=h.ok I.hok
  exact⟨its,r,⟨_,n,e,rfl,rfl,rfl⟩,z⟩
 ·refine⟨its.toList,r,⟨o,n,I.kIn a o hk,hc,hd,by simpa using hs⟩,?_⟩
  have e:=r.length
  simp only [Array.length_toList] at e
  omega
theorem Inv.tuple(I:Inv X pins σ H s)(h:SqT X.K H a xs):∃ its:List Value,Vals xs its/\IsTup s.heap a its.toArray/\xs.length<=sizeLine:=by
 rcases h with h | ⟨o,its,n,hk,hc,hs,hz,r⟩
 ·obtain⟨z,its,r,p⟩:=h.ok I.hok
  exact⟨its,r,p,z⟩
 ·refine⟨its.toList,r,⟨o,I.kIn a o hk,hc,n,by simpa using hs⟩,?_⟩
  have e:=r.length
  simp only [Array.length_toList] at e
  omega
theorem Inv.list_inj(I:Inv X pins σ H s)(h:SqL X.K H a xs)(h':SqL X.K H a ys):xs=ys:=by
 obtain⟨its,r,⟨o,n,e,_,_,d⟩,_⟩:=I.list h
 obtain⟨its',r',⟨o',n',e',_,_,d'⟩,_⟩:=I.list h'
 rw [e] at e';cases e'
 rw [d] at d'
 injection d' with d1 _
 have:its=its':=by simpa using congrArg Array.toList d1
 subst this
 exact r.inj r'
theorem Inv.tuple_inj(I:Inv X pins σ H s)(h:SqT X.K H a xs)(h':SqT X.K H a ys):xs=ys:=by
 obtain⟨its,r,⟨o,e,_,n,d⟩,_⟩:=I.tuple h
 obtain⟨its',r',⟨o',e',_,n',d'⟩,_⟩:=I.tuple h'
 rw [e] at e';cases e'
 rw [d] at d'
 injection d' with d1 _
 have:its=its':=by simpa using congrArg Array.toList d1
 subst this
 exact r.inj r'
end
noncomputable abbrev Cx.wish(X:Cx)(E:Value->Shared->Prop):Cx:={ X with xe:=E }
noncomputable abbrev Cx.nox(X:Cx):Cx:=X.wish fun _ _=>False
theorem Cx.Ok.wish{X:Cx}(ok:X.Ok)(E:Value->Shared->Prop):(X.wish E).Ok :=
 ⟨ok.mod,ok.kind,ok.glob,ok.blt,ok.above,ok.inj,ok.has,ok.cab,ok.hd,ok.frames,ok.stk,ok.exf,ok.bs,ok.bsz,ok.noex,ok.exfs,ok.funs,ok.frf⟩
theorem Cx.Ok.unwish{X:Cx}{E:Value->Shared->Prop}(ok:(X.wish E).Ok):X.Ok :=
 ⟨ok.mod,ok.kind,ok.glob,ok.blt,ok.above,ok.inj,ok.has,ok.cab,ok.hd,ok.frames,ok.stk,ok.exf,ok.bs,ok.bsz,ok.noex,ok.exfs,ok.funs,ok.frf⟩
section
variable {X:Cx}{pins:List (Addr × Obj)}{σ:St}{H:Hp}{s:Shared}{E:Value->Shared->Prop}
theorem Inv.wish(I:Inv X pins σ H s)(E:Value->Shared->Prop):Inv (X.wish E) pins σ H s:=⟨I.ok.wish E,I.os,I.bare,I.base,I.loc,I.cell,I.free,I.freeC,I.pin,I.hok,I.len⟩
theorem Inv.unwish(I:Inv (X.wish E) pins σ H s):Inv X pins σ H s:=⟨I.ok.unwish,I.os,I.bare,I.base,I.loc,I.cell,I.free,I.freeC,I.pin,I.hok,I.len⟩
theorem SP.unwish{D:Ends}{f:Flow}{s':Shared}(h:SP (X.wish E) pins D f s'):SP X pins D f s':=by
 cases f with
 | next=>obtain⟨σ',H',I,q⟩:=h;exact⟨σ',H',I.unwish,q⟩
 | brk=>obtain⟨σ',H',I,q⟩:=h;exact⟨σ',H',I.unwish,q⟩
 | cont=>obtain⟨σ',H',I,q⟩:=h;exact⟨σ',H',I.unwish,q⟩
 | ret u=>obtain⟨v,σ',H',I,r,q⟩:=h;exact⟨v,σ',H',I.unwish,r,q⟩
theorem PSs.nox{st:List Stmt}{t:TS}(h:PSs X.nox st t):PSs X st t:=fun pins s σ H D I hw =>
 wpAny_mono (h pins s σ H D (I.wish _) hw) (fun _ _ q=>q.unwish) fun _ _ z=>False.elim z
end
section
variable {X:Cx}{st:Stmt}{rest:List Stmt}{t u:TS}{e:Expr}{te:TE}{pos:Pos}
noncomputable def Mw:TS:=fun D σ H=>D.nx σ H
noncomputable def KH(t u:TS):TS:=fun D σ H=>t { D with nx:=u D } σ H
theorem bF:PSs X [] Mw:=fun _ _ σ H _ I h=>wpAny_execs_nil ⟨σ,H,I,h⟩
theorem au(h1:PS X st t)(h2:PSs X rest u):PSs X (st :: rest) (KH t u):=by
 intro pins s σ H D I h
 refine wpAny_execs_cons (thn (h1 pins s σ H { D with nx:=u D } I h) fun f s1 q=>?_)
 cases f with
 | next =>
  obtain⟨σ',H',I',q⟩:=q
  exact h2 pins s1 σ' H' D I' q
 | ret v=>exact q
 | brk=>exact q
 | cont=>exact q
theorem aC(h1:PS X st t):PSs X [st] t:=by
 intro pins s σ H D I h
 refine wpAny_execs_cons (thn (h1 pins s σ H D I h) fun f s1 q=>?_)
 cases f with
 | next=>exact wpAny_execs_nil q
 | ret v=>exact q
 | brk=>exact q
 | cont=>exact q
theorem Inv.quiet{pins:List (Addr × Obj)}{σ:St}{H:Hp}{s:Shared}(I:Inv X pins σ H s):interactive X.env=false:=by simp [interactive,I.ok.kind]
noncomputable def Lf(te:TE):TS:=fun D σ H=>te σ H fun _ H1=>D.nx σ H1
theorem cI(he:PE X e te)(hs:swapsWith e none pos.line X.env=pure false:=by rfl):PS X (.Expr e pos) (Lf te):=by
 intro pins s σ H D I h
 exact wpAny_Expr_any (thn (he pins s σ H _ I h) fun v s1 ⟨x,H1,I1,r1,q1⟩=>⟨σ,H1,I1,q1⟩) I.quiet hs
noncomputable def Oa(te:TE):TS:=fun D σ H=>te σ H D.rt
theorem aV(he:PE X e te):PS X (.Return (some e) pos) (Oa te):=by
 intro pins s σ H D I h
 exact wpAny_Return_some (thn (he pins s σ H _ I h) fun v s1 ⟨x,H1,I1,r1,q1⟩=>⟨x,σ,H1,I1,r1,q1⟩)
noncomputable def Oc(c:TT)(t u:TS):TS:=fun D σ H=>c σ H fun b H1=>if b=true then t D σ H1 else u D σ H1
theorem cD{c:Expr}{a b:List Stmt}{tc:TT}(hc:PT X c tc)(ha:PSs X a t)(hb:PSs X b u):PS X (.If c a b pos) (Oc tc t u):=by
 intro pins s σ H D I h
 refine wpAny_If (thn (hc pins s σ H _ I h) fun d s1 ⟨H1,I1,q1⟩=>?_)
 cases d with
 | true=>exact ha pins s1 σ H1 D I1 q1
 | false=>exact hb pins s1 σ H1 D I1 q1
end
noncomputable abbrev TG:=V->St->Hp->(St->Hp->Prop)->Prop
noncomputable abbrev TGs:=List V->St->Hp->(St->Hp->Prop)->Prop
noncomputable def PG(X:Cx)(target:Expr)(t:TG):Prop :=
 ∀(pins:List (Addr × Obj))(s:Shared)(σ:St)(H:Hp)(v:V)(u:Value)(Q:St->Hp->Prop),Inv X pins σ H s->RelV v u->t v σ H Q ->
  wpAny (model X.prog X.w) X.A (assign target X.env u) (fun _ s'=>∃ σ' H',Inv X pins σ' H' s'/\Q σ' H') X.xe s
noncomputable def PGs(X:Cx)(ts:List Expr)(t:TGs):Prop :=
 ∀(pins:List (Addr × Obj))(s:Shared)(σ:St)(H:Hp)(vs:List V)(us:List Value)(Q:St->Hp->Prop),Inv X pins σ H s->Vals vs us->t vs σ H Q ->
  wpAny (model X.prog X.w) X.A (assignInOrder ((assignEach ts X.env).map (·.2)) us) (fun _ s'=>∃ σ' H',Inv X pins σ' H' s'/\Q σ' H') X.xe s
noncomputable abbrev MJ:=V->V->V->Hp->(Hp->Prop)->Prop
noncomputable def M5(X:Cx)(t:MJ):Prop :=
 ∀(pins:List (Addr × Obj))(s:Shared)(σ:St)(H:Hp)(o i v:V)(ov iv u:Value)(Q:Hp->Prop),Inv X pins σ H s->RelV o ov->RelV i iv->RelV v u->t o i v H Q ->
  wpAny (model X.prog X.w) X.A (setItem ov iv u) (fun _ s'=>∃ H',Inv X pins σ H' s'/\Q H') X.xe s
noncomputable abbrev TIp:=V->V->Hp->VK->Prop
noncomputable def PIp(X:Cx)(op:Operator)(t:TIp):Prop :=
 ∀(pins:List (Addr × Obj))(s:Shared)(σ:St)(H:Hp)(x y:V)(v u:Value)(Q:VK),Inv X pins σ H s->RelV x v->RelV y u->t x y H Q ->
  wpAny (model X.prog X.w) X.A (inplaceOp op v u) (EP X pins σ Q) X.xe s
section
variable {X:Cx}{pos:Pos}
noncomputable def cP(i:Nat):TG:=fun v σ H Q=>Q (σ.set i (some v)) H
theorem aD{i:Nat}{x:Str}(hN:X.N.Nodup)(hi:X.N[i]?=some x)(hx:Loc X.env.scope x)(hf:X.fn x=true\/X.env.scope.names.lookup x=some .local:=by first | exact .inl rfl | exact .inr rfl | assumption):PG X (.Name x pos) (cP i):=by
 intro pins s σ H v u Q I r h
 exact wpAny_assign_Name (jm I hN hi hx r (fun s' I'=>⟨_,H,I',h⟩) hf)
noncomputable def tG:TGs:=fun vs σ H Q=>vs=[]/\Q σ H
noncomputable def dG(t:TG)(u:TGs):TGs:=fun vs σ H Q=>∃ v r,vs=v :: r/\t v σ H fun σ' H'=>u r σ' H' Q
theorem bI:PGs X [] tG:=by
 intro pins s σ H vs us Q I r h
 obtain⟨e,h⟩:=h
 subst e
 cases r
 exact assignInOrder_nil ⟨σ,H,I,h⟩
theorem aH{e:Expr}{es:List Expr}{t:TG}{u:TGs}(h1:PG X e t)(h2:PGs X es u)
  (hs:(assignEach (e :: es) X.env).map (·.2)=assign e X.env :: (assignEach es X.env).map (·.2):=by rfl):PGs X (e :: es) (dG t u):=by
 intro pins s σ H vs us Q I r h
 obtain⟨v,vr,e1,h⟩:=h
 subst e1
 cases r with
 | cons r rr =>
  rw [hs]
  refine assignInOrder_cons (thn (h1 pins s σ H _ _ _ I r h) fun _ s1 ⟨σ1,H1,I1,q1⟩=>?_)
  exact h2 pins s1 σ1 H1 _ _ Q I1 rr q1
noncomputable def rT(K:W.Frag)(n:Nat)(t:TGs):TG:=fun v σ H Q=>∃ a xs,v=.ref a/\SqT K H a xs/\xs.length=n/\t xs σ H Q
theorem Kw{es:List Expr}{k:Nat}{t:TGs}{n:Nat}(hc:X.calm=true)(h:PGs X es t)
  (hn:(assignEach es X.env).length=n:=by rfl)(hst:(assignEach es X.env).findIdx? (·.1)=none:=by rfl):PG X (.Tuple es k pos) (rT X.K n t):=by
 intro pins s σ H v u Q I r hw
 obtain⟨a,xs,e1,hq,hl,hw⟩:=hw
 subst e1
 cases r
 obtain⟨its,rv,ht,hz⟩:=I.tuple hq
 refine assign_Tuple_tuple (I.ok.hd hc) ht (by simp [hn,← hl,rv.length]) hst fun h' hx=>?_
 have I1:Inv X pins σ H { s with heap:=h' }:=I.kept (t':=s.toks) fun b o e=>hx b o (Nat.ne_of_lt (Heap.lt_size e)) e
 exact h pins _ σ H xs _ Q I1 (by simpa using rv) hw
noncomputable def Oz(to ti:TE)(t:MJ):TG:=fun v σ H Q=>to σ H fun o H1=>ti σ H1 fun i H2=>t o i v H2 fun H3=>Q σ H3
theorem rK{o i:Expr}{to ti:TE}{t:MJ}(ho:PE X o to)(hi:PE X i ti)(hs:M5 X t)
  (ha:∀ v,assign (.Subscript o i pos) X.env v=(do
   let ov ← holding [v] (eval o X.env)
   let iv ← holding [v,ov] (eval i X.env)
   standAt pos
   holding [v,ov,iv] (setItem ov iv v)
   release [v,ov,iv] []):=by intro _;rfl):PG X (.Subscript o i pos) (Oz to ti t):=by
 intro pins s σ H v u Q I r h
 rw [ha]
 refine wpAny_bind (wpAny_holding (thn (ho pins s σ H _ I h) fun ov s1 ⟨x,H1,I1,r1,q1⟩=>?_))
 refine wpAny_bind (wpAny_holding (thn (hi pins s1 σ H1 _ I1 q1) fun iv s2 ⟨y,H2,I2,r2,q2⟩=>?_))
 refine wpAny_bind (wpAny_standAt (wpAny_bind (wpAny_holding (thn (hs pins s2 σ H2 x y v ov iv u _ I2 r1 r2 r q2) fun _ s3 ⟨H3,I3,q3⟩=>?_))))
 exact wpAny_release ⟨σ,H3,I3,q3⟩
noncomputable def Jf(te:TE)(g:TG):TS:=fun D σ H=>te σ H fun x H1=>g x σ H1 D.nx
theorem dg{tg e:Expr}{te:TE}{g:TG}(he:PE X e te)(hg:PG X tg g)(hs:swapsWithSole [tg] e pos.line X.env=pure false:=by rfl)(hw:swappedStores [tg] e X.env=pure none:=by rfl)
  (h1:(assignEach [tg] X.env).map (·.2)=[assign tg X.env]:=by rfl):PS X (.Assign [tg] e pos) (Jf te g):=by
 intro pins s σ H D I h
 refine wpAny_Assign_stores (thn (he pins s σ H _ I h) fun v s1 ⟨x,H1,I1,r1,q1⟩=>?_) hs hw
 rw [h1]
 exact thn (hg pins s1 σ H1 x v _ I1 r1 q1) fun _ s2 q=>q
theorem aR{i:Nat}{x:Str}{e:Expr}{te:TE}{pos':Pos}(hN:X.N.Nodup)(hi:X.N[i]?=some x)(hx:Loc X.env.scope x)(he:PE X e te)(hs:swapsWith e (some (.Name x pos')) pos.line X.env=pure false:=by rfl)(hf:X.fn x=true\/X.env.scope.names.lookup x=some .local:=by first | exact .inl rfl | exact .inr rfl | assumption) :
  PS X (.Assign [.Name x pos'] e pos) (Jf te (cP i)):=by
 intro pins s σ H D I h
 refine wpAny_Assign_Name (thn (he pins s σ H _ I h) fun v s1 ⟨y,H1,I1,r1,q1⟩=>?_) hs
 exact jm I1 hN hi hx r1 (fun s2 I2=>⟨_,H1,I2,q1⟩) hf
noncomputable def NP(i j:Nat)(ta:TA):TS:=fun D σ H=>ta σ H fun vs H1=>∃ v w,vs=[v,w]/\D.nx ((σ.set i (some v)).set j (some w)) H1
theorem zq{i j:Nat}{x y:Str}{a b:Expr}{ta:TA}{px py pt:Pos}{kt k2 pt2}(hc:X.calm=true)(hN:X.N.Nodup)(hi:X.N[i]?=some x)(hj:X.N[j]?=some y)(hij:i≠j)
  (hx:X.env.scope.names.lookup x=some .local)(hy:X.env.scope.names.lookup y=some .local)(ha:PA X [a,b] ta)
  (hw:swappedStores [.Tuple [.Name x px,.Name y py] kt pt] (.Tuple [a,b] k2 pt2) X.env=pure (some [x,y]))
  (hs:swapsWithSole [.Tuple [.Name x px,.Name y py] kt pt] (.Tuple [a,b] k2 pt2) pos.line X.env=pure false:=by rfl) :
  PS X (.Assign [.Tuple [.Name x px,.Name y py] kt pt] (.Tuple [a,b] k2 pt2) pos) (NP i j ta):=by
 intro pins s σ H D I h
 rw [exec_Assign_arm]
 refine wpAny_bind (wpAny_standAt ?_)
 rw [hs]
 refine wpAny_bind (wpAny_pure ?_)
 rw [if_neg (by decide)]
 refine wpAny_bind (Tuple_ (thn (ha _ pins s σ H _ I h) fun us s1 ⟨vs,H1,I1,r1,q1⟩=>?_))
 obtain⟨v,w,e1,q1⟩:=q1
 subst e1
 obtain⟨u1,u2,rfl,rv,rw'⟩:∃ u1 u2,us=[u1,u2]/\RelV v u1/\RelV w u2:=by
  cases r1 with
  | cons p q =>
   cases q with
   | cons p' q' =>
    cases q'
    exact⟨_,_,rfl,p,p'⟩
 refine wpAny_newObj_type ?_ (by show 2<=sizeLine;decide)
 have I2:Inv X pins σ H1 { s1 with heap:=s1.heap.push { cls:=.type "tuple",data:=.seq [u1,u2].toArray } }:=I1.kept (t':=s1.toks) fun b o e=>Heap.get?_push_of_some _ e
 rw [hw]
 refine wpAny_bind (wpAny_pure ?_)
 show wpAny (model X.prog X.w) X.A (do rule "assign.swapped-stores";let items ← unpackItems (.ref s1.heap.objs.size) 2 none;assignInOrder [fun v=>bindName X.env y v,fun v=>bindName X.env x v] items.reverse;pure Flow.next) _ _ _
 refine wpAny_bind (wpAny_rule (wpAny_bind (unpackItems_tuple (items:=#[u1,u2]) (I.ok.hd hc) (IsTup.new s1.heap _) fun h' hx'=>?_)))
 have I3:=I2.kept (h':=h') (t':=s1.toks) fun b o e=>hx' b o (Nat.ne_of_lt (Heap.lt_size e)) e
 show wpAny _ _ (assignInOrder [fun v=>bindName X.env y v,fun v=>bindName X.env x v] [u2,u1] >>= fun _=>pure Flow.next) _ _ _
 refine wpAny_bind (assignInOrder_cons (wpAny_bindName (jm I3 hN hj (.inl hy) rw' (fun s2 I4=>?_) (.inr hy))))
 refine assignInOrder_cons (wpAny_bindName (jm I4 hN hi (.inl hx) rv (fun s3 I5=>assignInOrder_nil (wpAny_pure ?_)) (.inr hx)))
 rw [List.set_comm _ _ (Ne.symm hij)] at I5
 exact⟨_,H1,I5,q1⟩
noncomputable def NT(i:Nat)(te:TE)(ti:TIp):TS:=fun D σ H=>∃ x,σ[i]?=some (some x)/\te σ H fun y H1=>ti x y H1 fun z H2=>D.nx (σ.set i (some z)) H2
theorem Et{i:Nat}{x:Str}{e:Expr}{te:TE}{op:Operator}{ti:TIp}{pos':Pos}(hN:X.N.Nodup)(hi:X.N[i]?=some x)(hx:Loc X.env.scope x)(he:PE X e te)(ho:PIp X op ti)(hf:X.fn x=true\/X.env.scope.names.lookup x=some .local:=by first | exact .inl rfl | exact .inr rfl | assumption) :
  PS X (.AugAssign (.Name x pos') op e pos) (NT i te ti):=by
 intro pins s σ H D I h
 obtain⟨v,e1,h⟩:=h
 obtain⟨m,hn,hl⟩:=I.loc
 have vis:Vis X.env.scope x:=by rcases hx with k | k;exact .inl k;exact .inr (.inl k)
 obtain⟨u,r,l⟩:=hl i x v hi e1 vis
 refine wpAny_AugAssign_Name ?_
 have go:wpAny (model X.prog X.w) X.A (eval e X.env) (fun w s₂=>wpAny (model X.prog X.w) X.A (inplaceOp op u w) (fun r s₃=>wpAny (model X.prog X.w) X.A (storeName X.env x r) (fun _=>SP X pins D .next) X.xe s₃) X.xe s₂) X.xe s:=by
  refine thn (he pins s σ H _ I h) fun w s1 ⟨y,H1,I1,r1,q1⟩=>?_
  refine thn (ho pins s1 σ H1 v y u w _ I1 r r1 q1) fun z s2 ⟨zv,H2,I2,r2,q2⟩=>?_
  exact jm I2 hN hi hx r2 (fun s3 I3=>⟨_,H2,I3,q2⟩) hf
 rcases l with ⟨hk,hm⟩ | ⟨hk,c,hc,hcell⟩
 ·exact wpAny_loadName_local I.ok.kind hk hn hm go
 ·rcases hk with hk | hk
  ·exact wpAny_loadName_cell I.ok.kind hk hc hcell go
  ·rcases hx with k | k
   ·have:X.env.scope.names.lookup x=some .free:=hk
    rw [k] at this;cases this
   ·have:X.env.scope.names.lookup x=some .free:=hk
    rw [k] at this;cases this
end
section
variable {X:Cx}{pos:Pos}
noncomputable def J7(c:TT)(tb:TS):TS:=fun D σ H=>∃ W:Nat->St->Hp->Prop,(∃ m,W m σ H)/\∀ m σ H,W m σ H ->
 c σ H fun b H1=>if b=true then ∃ N:St->Hp->Prop,(∀ σ' H',N σ' H'->∃ m',m' < m/\W m' σ' H')/\tb { D with nx:=N,ct:=N,bk:=D.nx } σ H1 else D.nx σ H1
theorem jo{c:Expr}{body:List Stmt}{tc:TT}{tb:TS}(hp:PassesOwn (model X.prog X.w) X.A X.env X.xe)(hc:PT X c tc)(hb:PSs X body tb):PS X (.While c body [] pos) (J7 tc tb):=by
 intro pins s σ H D I h
 obtain⟨W,⟨m0,w0⟩,turn⟩:=h
 refine wpAny_While (codeAny_whileLoop (fun n s'=>∃ σ' H',Inv X pins σ' H' s'/\W n σ' H') ?_ m0 ⟨σ,H,I,w0⟩)
 rintro n s1 ⟨σ1,H1,I1,w1⟩
 refine wpAny_passesOwn hp (thn (hc pins s1 σ1 H1 _ I1 (turn n σ1 H1 w1)) fun b s2 ⟨H2,I2,q2⟩=>?_)
 cases b with
 | true =>
  obtain⟨N,hN,q2⟩:=q2
  rw [if_pos rfl]
  refine wpAny_passesOwn hp (thn (hb pins s2 σ1 H2 _ I2 q2) fun f s3 q3=>?_)
  cases f with
  | next =>
   obtain⟨σ3,H3,I3,n3⟩:=q3
   obtain⟨m',hm,w3⟩:=hN σ3 H3 n3
   exact⟨m',hm,σ3,H3,I3,w3⟩
  | cont =>
   obtain⟨σ3,H3,I3,n3⟩:=q3
   obtain⟨m',hm,w3⟩:=hN σ3 H3 n3
   exact⟨m',hm,σ3,H3,I3,w3⟩
  | brk=>exact q3
  | ret v=>exact q3
 | false =>
  rw [if_neg Bool.false_ne_true]
  exact wpAny_execs_nil ⟨σ1,H2,I2,q2⟩
end
set_option genInjectivity false in
structure It where
 go:Nat->Hp->Prop
 yld:Nat->Hp->V->Hp->Prop
 stop:Nat->Hp->Prop
noncomputable def vL(X:Cx)(pins:List (Addr × Obj))(H:Hp)(b:Addr):Prop :=
 H b=none/\b≠X.env.locals/\b ∉ X.fs/\(b∈X.ex\/X.s₀.heap.objs.size<=b)/\(∀ x c,X.env.cells.lookup x=some c->c≠b)/\∀ p∈X.pn++pins,p.1≠b
theorem Inv.fpOk{X:Cx}{pins:List (Addr × Obj)}{σ:St}{H H':Hp}{s:Shared}{b:Addr}(I:Inv X pins σ H s)(hb:s.heap.objs.size<=b)(hn:H' b=none):vL X pins H' b:=by
 refine⟨hn,Nat.ne_of_gt (Nat.lt_of_lt_of_le I.lt hb),I.nofs hb,.inr (Nat.le_trans I.sz hb),fun x c e z=>?_,fun p hp z=>?_⟩
 ·obtain⟨v,q⟩:=I.cell x c e
  exact absurd (Nat.lt_of_lt_of_le q.lt (by rw [z];exact hb)) (Nat.lt_irrefl _)
 ·exact absurd (Nat.lt_of_lt_of_le (Heap.lt_size (I.pin p hp).1) (by rw [z];exact hb)) (Nat.lt_irrefl _)
structure Turn(P:Program)(w:World)(K:W.Frag)(tg:Expr)(J:It)(fp:List Addr)(it:Addr)(tn:Nat->Heap->Prop):Prop where
 mem:it∈fp
 obj:∀ i h,tn i h->∀ b∈fp,∃ o,h.get? b=some o/\∀ v,o.data≠.cell v
 keep:∀ i h h',tn i h->(∀ b∈fp,∀ o,h.get? b=some o->h'.get? b=some o)->tn i h'
 item:∀(X:Cx),X.prog=P->X.w=w->X.K=K->X.calm=true->∀(i:Nat)(pins:List (Addr × Obj))(s:Shared)(σ:St)(H:Hp)(E:Value->Shared->Prop),Inv X pins σ H s->(∀ b∈fp,vL X pins H b)->tn i s.heap->J.go i H ->
  wpAny (model P w) X.A (pyNext (.ref it)) (fun r s1=>∃ u,r=some u /\
   wpAny (model P w) X.A (letOwnedTupleGo tg (.ref it) u) (fun _ s2=>∃ x H',Inv X pins σ H' s2/\RelV x u/\J.yld i H x H'/\tn (i+1) s2.heap/\∀ b∈fp,H' b=none) E s1) E s
 done:∀(X:Cx),X.prog=P->X.w=w->X.K=K->X.calm=true->∀(i:Nat)(pins:List (Addr × Obj))(s:Shared)(σ:St)(H:Hp)(E:Value->Shared->Prop),Inv X pins σ H s->(∀ b∈fp,vL X pins H b)->tn i s.heap->J.stop i H ->
  wpAny (model P w) X.A (pyNext (.ref it)) (fun r s1=>r=none/\Inv X pins σ H s1) E s
 self:∀(A:Around)(i:Nat)(s:Shared)(Q:Value->Shared->Prop)(E:Value->Shared->Prop),tn i s.heap->Q (.ref it) s->wpAny (model P w) A (pyIter (.ref it)) Q E s
noncomputable abbrev TI:=St->Hp->(It->Hp->Prop)->Prop
noncomputable def PIE(X:Cx)(pins:List (Addr × Obj))(σ:St)(tg:Expr)(R:It->Hp->Prop)(itv:Value)(s2:Shared):Prop :=
 ∃(it:Addr)(fp:List Addr)(tn:Nat->Heap->Prop)(J:It)(H':Hp),itv=.ref it/\Inv X pins σ H' s2/\Turn X.prog X.w X.K tg J fp it tn/\tn 0 s2.heap/\(∀ b∈fp,vL X pins H' b)/\R J H'
noncomputable def PI(X:Cx)(tg iter:Expr)(wi:TI):Prop :=
 ∀(pins:List (Addr × Obj))(s:Shared)(σ:St)(H:Hp)(R:It->Hp->Prop),Inv X pins σ H s->wi σ H R ->
  wpAny (model X.prog X.w) X.A (eval iter X.env) (fun v s1=>wpAny (model X.prog X.w) X.A (pyIter v) (PIE X pins σ tg R) X.xe s1) X.xe s
theorem yW{M:Model}{A:Around}{E:Value->Shared->Prop}{s:Shared}{tg:Expr}{it:Addr}{u:Value}{o:Obj}{n:String}{vs:Array Value}{Q:Unit->Shared->Prop}(ho:s.heap.get? it=some o)(hc:o.cls=.type n)(hd:o.data=.fields vs)
    (hn:["enumerate","zip","dict_itemiterator","dict_reverseitemiterator","odict_iterator","itertools.zip_longest","itertools.pairwise"].contains n=false)(hQ:Q () s):wpAny M A (letOwnedTupleGo tg (.ref it) u) Q E s:=by
  unfold letOwnedTupleGo
  cases tg <;> first
    | exact wpAny_pure hQ
    | (cases u <;> first
        | exact wpAny_pure hQ
        | (refine wpAny_bind (wpAny_load ho ?_)
           rw [hc,hd]
           show wpAny M A (if (["enumerate","zip","dict_itemiterator","dict_reverseitemiterator","odict_iterator","itertools.zip_longest","itertools.pairwise"].contains n && vs[0]? == some (rawInt _))=true then _ else _) Q E s
           rw [if_neg (by intro h;rw [hn,Bool.false_and] at h;cases h)]
           exact wpAny_pure hQ))
noncomputable def Itl(K:W.Frag)(a:Addr):It :=
 ⟨fun i H=>∃ xs x,SqL K H a xs/\xs[i]?=some x,fun i H x H'=>H'=H/\∀ xs,SqL K H a xs->xs[i]?=some x,fun i H=>∃ xs,SqL K H a xs/\xs.length<=i⟩
noncomputable def Itt(K:W.Frag)(a:Addr):It :=
 ⟨fun i H=>∃ xs x,SqT K H a xs/\xs[i]?=some x,fun i H x H'=>H'=H/\∀ xs,SqT K H a xs->xs[i]?=some x,fun i H=>∃ xs,SqT K H a xs/\xs.length<=i⟩
noncomputable def Itr(lo:Int)(n:Nat):It:=⟨fun i _=>i < n,fun i H x H'=>H'=H/\x=.int (lo+i),fun i _=>n<=i⟩
theorem qI{P:Program}{w:World}{K:W.Frag}{tg:Expr}(a it:Addr):Turn P w K tg (Itl K a) [it] it (fun i h=>h.IsListIter it a i) where
 mem:=by simp
 obj:=fun i h st b hb=>by
  have e:b=it:=by simpa using hb
  subst e
  obtain⟨o,e,c,d⟩:=st
  exact⟨o,e,fun v z=>by rw [d] at z;cases z⟩
 keep:=fun i h h' st k=>st.at fun o e=>k it (by simp) o e
 item:=by
  intro X hP hw hK hc i pins s σ H E I hf st hg
  subst hP hw hK
  obtain⟨xs,x,hq,hx⟩:=hg
  obtain⟨its,rv,p,hz⟩:=I.list hq
  obtain⟨u,hu,ru⟩:=rv.get hx
  obtain⟨f0,f1,f2,f3,f4,f5⟩:=hf it (by simp)
  refine wpAny_pyNext_list_item st p.isList (x:=u) (by simpa using hu) fun h' st' sb=>?_
  have I1:Inv X pins σ H { s with heap:=h' }:=I.turned (t':=s.toks) (fun b o hb e=>(sb.2 b hb).trans e) f0 f1 f3 f4 f5
  obtain⟨o,e,c,d⟩:=id st'
  exact⟨u,rfl,yW (s:={ s with heap:=h' }) e c d (by decide) ⟨x,H,I1,ru,⟨rfl,fun ys hy=>by rw [I.list_inj hy hq];exact hx⟩,st',fun b hb=>(hf b hb).1⟩⟩
 done:=by
  intro X hP hw hK hc i pins s σ H E I hf st hg
  subst hP hw hK
  obtain⟨xs,hq,hx⟩:=hg
  obtain⟨its,rv,p,hz⟩:=I.list hq
  obtain⟨f0,f1,f2,f3,f4,f5⟩:=hf it (by simp)
  have hl:=rv.length
  exact wpAny_pyNext_list_end (I.ok.hd hc) st p.isList (by simp;omega) fun h' eb=>⟨rfl,I.turned (t':=s.toks) (fun b o hb e=>eb b o hb e) f0 f1 f3 f4 f5⟩
 self:=fun _ _ _ _ _ st h=>wpAny_pyIter_listiter st h
theorem mV{P:Program}{w:World}{K:W.Frag}{tg:Expr}(a it:Addr):Turn P w K tg (Itt K a) [it] it (fun i h=>h.IsTupleIter it a i) where
 mem:=by simp
 obj:=fun i h st b hb=>by
  have e:b=it:=by simpa using hb
  subst e
  obtain⟨o,e,c,d⟩:=st
  exact⟨o,e,fun v z=>by rw [d] at z;cases z⟩
 keep:=fun i h h' st k=>st.at fun o e=>k it (by simp) o e
 item:=by
  intro X hP hw hK hc i pins s σ H E I hf st hg
  subst hP hw hK
  obtain⟨xs,x,hq,hx⟩:=hg
  obtain⟨its,rv,p,hz⟩:=I.tuple hq
  obtain⟨u,hu,ru⟩:=rv.get hx
  obtain⟨f0,f1,f2,f3,f4,f5⟩:=hf it (by simp)
  refine wpAny_pyNext_tuple_item st (show s.heap.IsTuple a its.toArray from p) (x:=u) (by simpa using hu) fun h' st' sb=>?_
  have I1:Inv X pins σ H { s with heap:=h' }:=I.turned (t':=s.toks) (fun b o hb e=>(sb.2 b hb).trans e) f0 f1 f3 f4 f5
  obtain⟨o,e,c,d⟩:=id st'
  exact⟨u,rfl,yW (s:={ s with heap:=h' }) e c d (by decide) ⟨x,H,I1,ru,⟨rfl,fun ys hy=>by rw [I.tuple_inj hy hq];exact hx⟩,st',fun b hb=>(hf b hb).1⟩⟩
 done:=by
  intro X hP hw hK hc i pins s σ H E I hf st hg
  subst hP hw hK
  obtain⟨xs,hq,hx⟩:=hg
  obtain⟨its,rv,p,hz⟩:=I.tuple hq
  obtain⟨f0,f1,f2,f3,f4,f5⟩:=hf it (by simp)
  have hl:=rv.length
  exact wpAny_pyNext_tuple_end (I.ok.hd hc) st (show s.heap.IsTuple a its.toArray from p) (by simp;omega) fun h' eb=>⟨rfl,I.turned (t':=s.toks) (fun b o hb e=>eb b o hb e) f0 f1 f3 f4 f5⟩
 self:=fun _ _ _ _ _ st h=>wpAny_pyIter_tupleiter st h
theorem vU{P:Program}{w:World}{K:PySem.W.Frag}{tg:Expr}(it:Addr)(lo:Int)(n:Nat):Turn P w K tg (Itr lo n) [it] it (fun i h=>IsRangeIter h it (lo+(i:Nat) * 1) ((n:Int) - (i:Nat)) 1) where
 mem:=by simp
 obj:=fun i h st b hb=>by
  have e:b=it:=by simpa using hb
  subst e
  exact⟨_,st,fun v z=>by
   have z':Data.fields _=Data.cell v:=z
   cases z'⟩
 keep:=fun i h h' st k=>k it (by simp) _ st
 item:=by
  intro X hP hw hK hc i pins s σ H E I hf st hg
  subst hP hw hK
  obtain⟨f0,f1,f2,f3,f4,f5⟩:=hf it (by simp)
  have W:=Walks.range (prog:=X.prog) (w:=X.w) (I.ok.hd hc) it lo 1 n
  refine W.item i s _ _ hg st fun v h' tk hv st' kk=>?_
  obtain⟨t,rfl⟩:=hv
  have I1:Inv X pins σ H { s with heap:=h',toks:=tk }:=I.turned (fun b o hb e=>kk b o (by simpa using hb) e) f0 f1 f3 f4 f5
  refine⟨_,rfl,yW (s:={ s with heap:=h',toks:=tk }) (n:="range_iterator") st' rfl rfl (by decide) ⟨.int (lo+i),H,I1,⟨t,?_⟩,⟨rfl,rfl⟩,st',fun b hb=>(hf b hb).1⟩⟩
  rw [Int.mul_one]
 done:=by
  intro X hP hw hK hc i pins s σ H E I hf st hg
  subst hP hw hK
  obtain⟨f0,f1,f2,f3,f4,f5⟩:=hf it (by simp)
  exact wpAny_pyNext_range_end (I.ok.hd hc) st (by have:n<=i:=hg;omega) fun h' eb=>⟨rfl,I.turned (t':=s.toks) (fun b o hb e=>eb b o hb e) f0 f1 f3 f4 f5⟩
 self:=fun _ _ _ _ _ st h=>wpAny_pyIter_rangeiter st h
section
variable {X:Cx}{tg:Expr}
noncomputable def Jg(K:W.Frag)(tl:TE):TI:=fun σ H R=>tl σ H fun x H1=>∃ a,x=.ref a/\(∃ xs,SqL K H1 a xs)/\R (Itl K a) H1
noncomputable def Nh(K:W.Frag)(tl:TE):TI:=fun σ H R=>tl σ H fun x H1=>∃ a,x=.ref a/\(∃ xs,SqT K H1 a xs)/\R (Itt K a) H1
theorem GQ{l:Expr}{tl:TE}(hl:PE X l tl):PI X tg l (Jg X.K tl):=by
 intro pins s σ H R I h
 refine thn (hl pins s σ H _ I h) fun v s1 ⟨x,H1,I1,r1,q1⟩=>?_
 obtain⟨a,e,⟨xs,hq⟩,q⟩:=q1
 subst e
 cases r1
 obtain⟨its,rv,p,hz⟩:=I1.list hq
 refine wpAny_pyIter_list p.isList ?_
 refine⟨s1.heap.objs.size,[s1.heap.objs.size],_,_,H1,rfl,I1.kept (t':=s1.toks) fun b o e=>Heap.get?_push_of_some _ e,qI a _,⟨_,Heap.get?_push_size _ rfl,rfl,rfl⟩,fun b hb=>?_,q⟩
 have e:b=s1.heap.objs.size:=by simpa using hb
 subst e
 exact I1.fpOk (Nat.le_refl _) (I1.hok.fresh (Nat.le_refl _))
theorem Fp{l:Expr}{tl:TE}(hl:PE X l tl):PI X tg l (Nh X.K tl):=by
 intro pins s σ H R I h
 refine thn (hl pins s σ H _ I h) fun v s1 ⟨x,H1,I1,r1,q1⟩=>?_
 obtain⟨a,e,⟨xs,hq⟩,q⟩:=q1
 subst e
 cases r1
 obtain⟨its,rv,p,hz⟩:=I1.tuple hq
 refine wpAny_pyIter_tuple (show s1.heap.IsTuple a its.toArray from p) ?_
 refine⟨s1.heap.objs.size,[s1.heap.objs.size],_,_,H1,rfl,I1.kept (t':=s1.toks) fun b o e=>Heap.get?_push_of_some _ e,mV a _,⟨_,Heap.get?_push_size _ rfl,rfl,rfl⟩,fun b hb=>?_,q⟩
 have e:b=s1.heap.objs.size:=by simpa using hb
 subst e
 exact I1.fpOk (Nat.le_refl _) (I1.hok.fresh (Nat.le_refl _))
theorem DN{pins:List (Addr × Obj)}{σ:St}{H:Hp}{s:Shared}{R:It->Hp->Prop}{E:Value->Shared->Prop}{lo hi:Int}{t u v:Tok}{tk:Nat}(I:Inv X pins σ H s)(h1:-(2 ^ 62)<=lo)(h2:lo < 2 ^ 62)(h3:-(2 ^ 62)<=hi)(h4:hi < 2 ^ 62)
  (q:R (Itr lo (hi - lo).toNat) H):wpAny (model X.prog X.w) X.A (pyIter (.ref s.heap.objs.size)) (PIE X pins σ tg R) E { s with heap:=s.heap.push { cls:=.type "range",data:=.fields #[.int lo t,.int hi u,.int 1 v] },toks:=tk }:=by
 refine wpAny_pyIter_range (IsRange.new ..) (small_one h1 h2 h3 h4) ?_
 have I1:Inv X pins σ H { s with heap:=s.heap.push { cls:=.type "range",data:=.fields #[.int lo t,.int hi u,.int 1 v] },toks:=tk }:=I.kept fun b o e=>Heap.get?_push_of_some _ e
 refine⟨(s.heap.push { cls:=.type "range",data:=.fields #[.int lo t,.int hi u,.int 1 v] }).objs.size,[(s.heap.push { cls:=.type "range",data:=.fields #[.int lo t,.int hi u,.int 1 v] }).objs.size],_,_,H,rfl,
  I1.kept (t':=tk) fun b o e=>Heap.get?_push_of_some _ e,vU _ lo (hi - lo).toNat,?_,fun b hb=>?_,q⟩
 ·have e1:lo+((0:Nat):Int) * 1=lo:=by simp
  have e2:(((hi - lo).toNat:Nat):Int) - ((0:Nat):Int)=Builtin.Range.rangeSize lo hi 1:=by rw [rangeSize_one];split <;> omega
  show IsRangeIter _ _ (lo+((0:Nat):Int) * 1) ((((hi - lo).toNat:Nat):Int) - ((0:Nat):Int)) 1
  rw [e1,e2]
  exact Heap.get?_push_size _ rfl
 ·have e:b=(s.heap.push { cls:=.type "range",data:=.fields #[.int lo t,.int hi u,.int 1 v] }).objs.size:=by simpa using hb
  subst e
  exact I1.fpOk (Nat.le_refl _) (I1.hok.fresh (Nat.le_refl _))
noncomputable def Mz(ta:TA):TI:=fun σ H R=>ta σ H fun vs H1=>∃ j:Int,vs=[.int j]/\-(2 ^ 62)<=j/\j < 2 ^ 62/\R (Itr 0 j.toNat) H1
theorem cC{a:Expr}{ta:TA}{p pos:Pos}(hg:Gl X "range")(hm:X.mg "range" = none)(ha:PA X [a] ta)(hs:starEach [a] X.env=[(false,eval a X.env)]:=by rfl):PI X tg (.Call (.Name "range" p) [a] [] pos) (Mz ta):=by
 intro pins s σ H R I h
 refine Call_ (j8 I hg hm boot_range (PyProof.Rows.callWith_type1 (thn (ha pos pins s σ H _ I h) fun us s1 ⟨vs,H1,I1,r1,q1⟩=>?_) hs rfl))
 obtain⟨j,e,q1,q2,q⟩:=q1
 subst e
 cases r1 with
 | cons r rr =>
  cases rr
  obtain⟨t,rfl⟩:=r
  exact call_range_1 (DN I1 (by omega) (by omega) q1 q2 (by simpa using q))
noncomputable def Ou(wi:TI)(g:TG)(tb:TS):TS:=fun D σ H=>wi σ H fun J H1=>∃ W:Nat->Nat->St->Hp->Prop,(∃ m,W 0 m σ H1)/\∀ i m σ H,W i m σ H ->
 (J.stop i H/\D.nx σ H)\/(J.go i H/\∃ N:St->Hp->Prop,(∀ σ' H',N σ' H'->∃ m',m' < m/\W (i+1) m' σ' H')/\∀ x H',J.yld i H x H'->g x σ H' fun σ2 H2=>tb { D with nx:=N,ct:=N,bk:=D.nx } σ2 H2)
noncomputable def mU(fp:List Addr)(h:Heap):List (Addr × Obj):=fp.filterMap fun b=>(h.get? b).map fun o=>(b,o)
theorem fu{fp:List Addr}{h:Heap}{b:Addr}{o:Obj}(hb:b∈fp)(e:h.get? b=some o):(b,o)∈mU fp h:=List.mem_filterMap.mpr ⟨b,hb,by rw [e];rfl⟩
theorem Aa{fp:List Addr}{h:Heap}{p:Addr × Obj}(hp:p∈mU fp h):p.1∈fp/\h.get? p.1=some p.2:=by
 obtain⟨b,hb,e⟩:=List.mem_filterMap.mp hp
 cases q:h.get? b with
 | none=>rw [q] at e;cases e
 | some o =>
  rw [q] at e
  have e':(b,o)=p:=Option.some.inj e
  subst e'
  exact⟨hb,q⟩
theorem Inv.pinned{pins:List (Addr × Obj)}{σ:St}{H:Hp}{s:Shared}{fp:List Addr}(I:Inv X pins σ H s)(hf:∀ b∈fp,vL X pins H b)(ho:∀ b∈fp,∃ o,s.heap.get? b=some o/\∀ v,o.data≠.cell v):Inv X (pins++mU fp s.heap) σ H s :=
 I.pins_of fun p hp=>(List.mem_append.mp hp).elim (fun z=>I.pin p (List.mem_append_right _ z)) fun z=>by
  obtain⟨hb,e⟩:=Aa z
  obtain⟨f0,f1,f2,_⟩:=hf p.1 hb
  obtain⟨o,e',d⟩:=ho p.1 hb
  rw [e] at e';cases e'
  exact⟨e,f0,f1,f2,d⟩
theorem Inv.unpinned{pins pl:List (Addr × Obj)}{σ:St}{H:Hp}{s:Shared}(I:Inv X (pins++pl) σ H s):Inv X pins σ H s:=I.pins_of fun p hp=>I.pin p (List.mem_append_right _ (List.mem_append_left _ hp))
theorem cG{iter:Expr}{body:List Stmt}{wi:TI}{g:TG}{tb:TS}{pos:Pos}(hp:PassesOwn (model X.prog X.w) X.A X.env X.xe)(hc:X.calm=true)(hi:PI X tg iter wi)(hg:PG X tg g)(hb:PSs X body tb)
  (hs:∀ x,foldedSetIterable iter X.env x=pure x:=by intro _;rfl):PS X (.For tg iter body [] pos) (Ou wi g tb):=by
 intro pins s σ H D I h
 refine wpAny_For (thn (hi pins s σ H _ I h) fun v s1 h1=>thn h1 fun itv s2 h2=>?_) hs
 obtain⟨it,fp,tn,J,H2,e,I2,T,st2,f2,W,⟨m0,w0⟩,turn⟩:=h2
 subst e
 have stat:∀ {H':Hp},(∀ b∈fp,H' b=none)->∀ b∈fp,vL X pins H' b:=fun hn b hb=>⟨hn b hb,(f2 b hb).2⟩
 refine codeAny_forLoop_any (fun n s'=>∃ i σ' H',Inv X pins σ' H' s'/\tn i s'.heap/\(∀ b∈fp,H' b=none)/\W i n σ' H') ?_ m0 ⟨0,σ,H2,I2,st2,fun b hb=>(f2 b hb).1,w0⟩
 rintro n s3 ⟨i,σ3,H3,I3,st3,fr3,w3⟩
 rcases turn i n σ3 H3 w3 with ⟨stop,qn⟩ | ⟨go,N,hN,step⟩
 ·refine wpAny_passesOwn hp (thn (T.done X rfl rfl rfl hc i pins s3 σ3 H3 X.xe I3 (stat fr3) st3 stop) fun r s4 ⟨hr,I4⟩=>?_)
  subst hr
  exact wpAny_execs_nil ⟨σ3,H3,I4,qn⟩
 ·refine wpAny_passesOwn hp (thn (T.item X rfl rfl rfl hc i pins s3 σ3 H3 X.xe I3 (stat fr3) st3 go) fun r s4 ⟨u,hr,h4⟩=>?_)
  subst hr
  refine wpAny_passesOwn hp (thn h4 fun _ s5 ⟨x,H5,I5,r5,y5,st5,fr5⟩=>?_)
  have I5':=I5.pinned (stat fr5) (T.obj _ _ st5)
  refine wpAny_passesOwn hp (thn (hg _ s5 σ3 H5 x u _ I5' r5 (step x H5 y5)) fun _ s6 ⟨σ6,H6,I6,q6⟩=>?_)
  refine wpAny_passesOwn hp (thn (hb _ s6 σ6 H6 _ I6 q6) fun f s7 q7=>?_)
  have again:∀ {σ7:St}{H7:Hp},Inv X (pins++mU fp s5.heap) σ7 H7 s7->N σ7 H7->∃ m,m < n/\∃ i σ' H',Inv X pins σ' H' s7/\tn i s7.heap/\(∀ b∈fp,H' b=none)/\W i m σ' H':=fun {σ7 H7} I7 n7=>by
   obtain⟨m',hm,w7⟩:=hN σ7 H7 n7
   refine⟨m',hm,i+1,σ7,H7,I7.unpinned,T.keep _ _ _ st5 fun b hb o e=>(I7.pin (b,o) (List.mem_append_right _ (List.mem_append_right _ (fu hb e)))).1,fun b hb=>?_,w7⟩
   obtain⟨o,e,d⟩:=T.obj _ _ st5 b hb
   exact (I7.pin (b,o) (List.mem_append_right _ (List.mem_append_right _ (fu hb e)))).2.1
  cases f with
  | next=>obtain⟨σ7,H7,I7,n7⟩:=q7;exact again I7 n7
  | cont=>obtain⟨σ7,H7,I7,n7⟩:=q7;exact again I7 n7
  | brk=>obtain⟨σ7,H7,I7,q7⟩:=q7;exact⟨σ7,H7,I7.unpinned,q7⟩
  | ret v=>obtain⟨x7,σ7,H7,I7,r7,q7⟩:=q7;exact⟨x7,σ7,H7,I7.unpinned,r7,q7⟩
end
theorem iI{K:PySem.W.Frag}{a:Addr}{xs:List V}{g:TG}{tb:TS}{D:Ends}{σ:St}{H:Hp}(Pv:Nat->St->Hp->Prop)(h0:Pv 0 σ H)(hl:∀ i σ H,i<=xs.length->Pv i σ H->SqL K H a xs)
  (hs:∀ i x σ H,xs[i]?=some x->Pv i σ H->g x σ H fun σ2 H2=>tb { D with nx:=Pv (i+1),ct:=Pv (i+1),bk:=D.nx } σ2 H2)(hd:∀ σ H,Pv xs.length σ H->D.nx σ H) :
  ∃ W:Nat->Nat->St->Hp->Prop,(∃ m,W 0 m σ H)/\∀ i m σ H,W i m σ H ->
   ((Itl K a).stop i H/\D.nx σ H)\/((Itl K a).go i H/\∃ N:St->Hp->Prop,(∀ σ' H',N σ' H'->∃ m',m' < m/\W (i+1) m' σ' H')/\∀ x H',(Itl K a).yld i H x H'->g x σ H' fun σ2 H2=>tb { D with nx:=N,ct:=N,bk:=D.nx } σ2 H2):=by
 refine⟨fun i m σ H=>m=xs.length - i/\i<=xs.length/\Pv i σ H,⟨xs.length,by simp,Nat.zero_le _,h0⟩,?_⟩
 rintro i m σ H ⟨rfl,hi,p⟩
 have q:=hl i σ H hi p
 by_cases hlt:i < xs.length
 ·refine .inr ⟨⟨xs,xs[i],q,by simp [hlt]⟩,Pv (i+1),fun σ' H' p'=>⟨xs.length - (i+1),by omega,rfl,hlt,p'⟩,fun x H' y=>?_⟩
  obtain⟨e,y⟩:=y
  subst e
  exact hs i x σ _ (y xs q) p
 ·have e:i=xs.length:=by omega
  subst e
  exact .inl ⟨⟨xs,q,Nat.le_refl _⟩,hd σ H p⟩
theorem gR{K:PySem.W.Frag}{a:Addr}{xs:List V}{g:TG}{tb:TS}{D:Ends}{σ:St}{H:Hp}(Pv:Nat->St->Hp->Prop)(h0:Pv 0 σ H)(hl:∀ i σ H,i<=xs.length->Pv i σ H->SqT K H a xs)
  (hs:∀ i x σ H,xs[i]?=some x->Pv i σ H->g x σ H fun σ2 H2=>tb { D with nx:=Pv (i+1),ct:=Pv (i+1),bk:=D.nx } σ2 H2)(hd:∀ σ H,Pv xs.length σ H->D.nx σ H) :
  ∃ W:Nat->Nat->St->Hp->Prop,(∃ m,W 0 m σ H)/\∀ i m σ H,W i m σ H ->
   ((Itt K a).stop i H/\D.nx σ H)\/((Itt K a).go i H/\∃ N:St->Hp->Prop,(∀ σ' H',N σ' H'->∃ m',m' < m/\W (i+1) m' σ' H')/\∀ x H',(Itt K a).yld i H x H'->g x σ H' fun σ2 H2=>tb { D with nx:=N,ct:=N,bk:=D.nx } σ2 H2):=by
 refine⟨fun i m σ H=>m=xs.length - i/\i<=xs.length/\Pv i σ H,⟨xs.length,by simp,Nat.zero_le _,h0⟩,?_⟩
 rintro i m σ H ⟨rfl,hi,p⟩
 have q:=hl i σ H hi p
 by_cases hlt:i < xs.length
 ·refine .inr ⟨⟨xs,xs[i],q,by simp [hlt]⟩,Pv (i+1),fun σ' H' p'=>⟨xs.length - (i+1),by omega,rfl,hlt,p'⟩,fun x H' y=>?_⟩
  obtain⟨e,y⟩:=y
  subst e
  exact hs i x σ _ (y xs q) p
 ·have e:i=xs.length:=by omega
  subst e
  exact .inl ⟨⟨xs,q,Nat.le_refl _⟩,hd σ H p⟩
theorem dj{lo:Int}{n:Nat}{g:TG}{tb:TS}{D:Ends}{σ:St}{H:Hp}(Pv:Nat->St->Hp->Prop)(h0:Pv 0 σ H)
  (hs:∀ i σ H,i < n->Pv i σ H->g (.int (lo+i)) σ H fun σ2 H2=>tb { D with nx:=Pv (i+1),ct:=Pv (i+1),bk:=D.nx } σ2 H2)(hd:∀ σ H,Pv n σ H->D.nx σ H) :
  ∃ W:Nat->Nat->St->Hp->Prop,(∃ m,W 0 m σ H)/\∀ i m σ H,W i m σ H ->
   ((Itr lo n).stop i H/\D.nx σ H)\/((Itr lo n).go i H/\∃ N:St->Hp->Prop,(∀ σ' H',N σ' H'->∃ m',m' < m/\W (i+1) m' σ' H')/\∀ x H',(Itr lo n).yld i H x H'->g x σ H' fun σ2 H2=>tb { D with nx:=N,ct:=N,bk:=D.nx } σ2 H2):=by
 refine⟨fun i m σ H=>m=n - i/\i<=n/\Pv i σ H,⟨n,by simp,Nat.zero_le _,h0⟩,?_⟩
 rintro i m σ H ⟨rfl,hi,p⟩
 by_cases hlt:i < n
 ·refine .inr ⟨hlt,Pv (i+1),fun σ' H' p'=>⟨n - (i+1),by omega,rfl,hlt,p'⟩,fun x H' y=>?_⟩
  obtain⟨e,y⟩:=y
  subst e y
  exact hs i σ _ hlt p
 ·have e:i=n:=by omega
  subst e
  exact .inl ⟨Nat.le_refl _,hd σ H p⟩
noncomputable abbrev R2:=V->V->Hp->VK->Prop
noncomputable def OpR(X:Cx)(f:Value->Value->Sem Value)(r:R2):Prop :=
 ∀(pins:List (Addr × Obj))(s:Shared)(σ:St)(H:Hp)(x y:V)(v u:Value)(Q:VK),Inv X pins σ H s->RelV x v->RelV y u->r x y H Q ->
  wpAny (model X.prog X.w) X.A (f v u) (EP X pins σ Q) X.xe s
noncomputable def UnR(X:Cx)(f:Value->Sem Value)(r:V->Hp->VK->Prop):Prop :=
 ∀(pins:List (Addr × Obj))(s:Shared)(σ:St)(H:Hp)(x:V)(v:Value)(Q:VK),Inv X pins σ H s->RelV x v->r x H Q ->
  wpAny (model X.prog X.w) X.A (f v) (EP X pins σ Q) X.xe s
noncomputable def gA(X:Cx)(f:Value)(r:List V->Hp->VK->Prop):Prop :=
 ∀(pins:List (Addr × Obj))(s:Shared)(σ:St)(H:Hp)(xs:List V)(us:List Value)(Q:VK),Inv X pins σ H s->Vals xs us->r xs H Q ->
  wpAny (model X.prog X.w) X.A (call f us) (EP X pins σ Q) X.xe s
noncomputable def tOp(r:R2)(ta tb:TE):TE:=fun σ H Q=>ta σ H fun x H1=>tb σ H1 fun y H2=>r x y H2 Q
noncomputable def tUn(r:V->Hp->VK->Prop)(ta:TE):TE:=fun σ H Q=>ta σ H fun x H1=>r x H1 Q
noncomputable def rI(C:Int->Int->Prop)(g:Int->Int->V):R2:=fun x y H Q=>∃ i j,x=.int i/\y=.int j/\C i j/\Q (g i j) H
noncomputable def rI0(g:Int->Int->V):R2:=fun x y H Q=>∃ i j,x=.int i/\y=.int j/\Q (g i j) H
noncomputable def rU(g:Int->V):V->Hp->VK->Prop:=fun x H Q=>∃ i,x=.int i/\Q (g i) H
section
variable {X:Cx}{a b c:Expr}{ta tb tc:TE}{pos:Pos}
theorem Lz(ha:PE X a ta)(hb:PE X b tb){pins:List (Addr × Obj)}{s:Shared}{σ:St}{H:Hp}{R:V->V->Hp->Prop}(I:Inv X pins σ H s)
  (h:ta σ H fun x H1=>tb σ H1 fun y H2=>R x y H2){Q:Value->Shared->Prop}{f:Value->Value->Sem Value}
  (hf:∀ v u s2 x y H2,Inv X pins σ H2 s2->RelV x v->RelV y u->R x y H2->wpAny (model X.prog X.w) X.A (f v u) Q X.xe s2) :
  wpAny (model X.prog X.w) X.A (eval a X.env) (fun v s₁=>wpAny (model X.prog X.w) X.A (eval b X.env) (fun u s₂=>wpAny (model X.prog X.w) X.A (f v u) Q X.xe s₂) X.xe s₁) X.xe s:=by
 refine thn (ha pins s σ H _ I h) fun v s1 ⟨x,H1,I1,r1,q1⟩=>?_
 refine thn (hb pins s1 σ H1 _ I1 q1) fun u s2 ⟨y,H2,I2,r2,q2⟩=>?_
 exact hf v u s2 x y H2 I2 r1 r2 q2
theorem aP{op:Operator}{r:R2}(ho:OpR X (binaryOp op) r)(ha:PE X a ta)(hb:PE X b tb):PE X (.BinOp a op b pos) (tOp r ta tb):=by
 intro pins s σ H Q I h
 exact wpAny_BinOp (Lz ha hb I h fun v u s2 x y H2 I2 rx ry q=>ho pins s2 σ H2 x y v u Q I2 rx ry q)
theorem jy{op:UnaryOp}{r:V->Hp->VK->Prop}(ho:UnR X (unaryOp op) r)(ha:PE X a ta):PE X (.UnaryOp op a pos) (tUn r ta):=by
 intro pins s σ H Q I h
 exact UnaryOp_ (thn (ha pins s σ H _ I h) fun v s1 ⟨x,H1,I1,r1,q1⟩=>ho pins s1 σ H1 x v Q I1 r1 q1)
theorem opI{f:Value->Value->Sem Value}{C:Int->Int->Prop}{g:Int->Int->Int}
  (rule:∀(i j:Int)(t u:Tok)(s:Shared)(Q:Value->Shared->Prop)(E:Value->Shared->Prop),C i j->Q (.int (g i j) s.toks) { s with toks:=s.toks+1 }->wpAny (model X.prog X.w) X.A (f (.int i t) (.int j u)) Q E s) :
  OpR X f (rI C fun i j=>.int (g i j)):=by
 intro pins s σ H x y v u Q I rx ry h
 obtain⟨i,j,rfl,rfl,hc,q⟩:=h
 obtain⟨t,rfl⟩:=rx
 obtain⟨t',rfl⟩:=ry
 exact rule i j t t' s _ _ hc ⟨.int (g i j),H,I.tok _,⟨_,rfl⟩,q⟩
theorem Ma{f:Value->Value->Sem Value}{g:Int->Int->Int}
  (rule:∀(i j:Int)(t u:Tok)(s:Shared)(Q:Value->Shared->Prop)(E:Value->Shared->Prop),Q (.int (g i j) s.toks) { s with toks:=s.toks+1 }->wpAny (model X.prog X.w) X.A (f (.int i t) (.int j u)) Q E s) :
  OpR X f (rI0 fun i j=>.int (g i j)):=by
 intro pins s σ H x y v u Q I rx ry h
 obtain⟨i,j,rfl,rfl,q⟩:=h
 obtain⟨t,rfl⟩:=rx
 obtain⟨t',rfl⟩:=ry
 exact rule i j t t' s _ _ ⟨.int (g i j),H,I.tok _,⟨_,rfl⟩,q⟩
theorem KD{f:Value->Value->Sem Value}{g:Int->Int->Bool}
  (rule:∀(i j:Int)(t u:Tok)(s:Shared)(Q:Value->Shared->Prop)(E:Value->Shared->Prop),Q (.bool (g i j)) s->wpAny (model X.prog X.w) X.A (f (.int i t) (.int j u)) Q E s) :
  OpR X f (rI0 fun i j=>.bl (g i j)):=by
 intro pins s σ H x y v u Q I rx ry h
 obtain⟨i,j,rfl,rfl,q⟩:=h
 obtain⟨t,rfl⟩:=rx
 obtain⟨t',rfl⟩:=ry
 exact rule i j t t' s _ _ ⟨.bl (g i j),H,I,rfl,q⟩
noncomputable def Ow(i j:Int):Prop:=0<=j/\j<=1000000/\i.natAbs < 2 ^ 64
noncomputable def KQ(i j:Int):Prop:=(-(2 ^ 64) < i/\i < 2 ^ 64)\/(-(2 ^ 64) < j/\j < 2 ^ 64)
theorem KQ.ok{i j:Int}(h:KQ i j):IntMulOk i j:=by
 rcases h with ⟨h1,h2⟩ | ⟨h1,h2⟩
 ·exact .of_left (intBits_le_64 h1 h2)
 ·exact .of_right (intBits_le_64 h1 h2)
theorem bA:OpR X (binaryOp .Add) (rI0 fun i j=>.int (i+j)):=Ma fun _ _ _ _ _ _ _ q=>add_int q
theorem fB:OpR X (binaryOp .Sub) (rI0 fun i j=>.int (i - j)):=Ma fun _ _ _ _ _ _ _ q=>sub_int q
theorem iy:OpR X (binaryOp .Mult) (rI KQ fun i j=>.int (i * j)):=opI fun _ _ _ _ _ _ _ hc q=>mul_int q hc.ok
theorem qL:OpR X (binaryOp .Mod) (rI (fun _ j=>0 < j) fun i j=>.int (i % j)):=opI fun i j _ _ _ _ _ hc q=>by
 have h1:(0:Int) < j:=hc
 exact mod_int' (by omega) (by rw [Int.fmod_eq_emod_of_nonneg i (by omega)];exact q)
theorem FN:OpR X (binaryOp .Pow) (rI Ow fun i j=>.int (i ^ j.toNat)):=opI fun _ _ _ _ _ _ _ hc q=>pow_int_small hc.1 hc.2.1 hc.2.2 q
theorem zW:OpR X (inplaceOp .Add) (rI0 fun i j=>.int (i+j)):=Ma fun _ _ _ _ _ _ _ q=>iadd_int q
theorem unI{f:Value->Sem Value}{g:Int->Int}
  (rule:∀(i:Int)(t:Tok)(s:Shared)(Q:Value->Shared->Prop)(E:Value->Shared->Prop),Q (.int (g i) s.toks) { s with toks:=s.toks+1 }->wpAny (model X.prog X.w) X.A (f (.int i t)) Q E s) :
  UnR X f (rU fun i=>.int (g i)):=by
 intro pins s σ H x v Q I rx h
 obtain⟨i,rfl,q⟩:=h
 obtain⟨t,rfl⟩:=rx
 exact rule i t s _ _ ⟨.int (g i),H,I.tok _,⟨_,rfl⟩,q⟩
theorem fL:UnR X (unaryOp .USub) (rU fun i=>.int (-i)):=unI fun _ _ _ _ _ q=>neg_int q
end
noncomputable def Nt:V->V->Bool
 | .non,.non=>true | .non,.int _=>true | .int _,.non=>true | .non,.bl _=>true | .bl _,.non=>true | .non,.str _=>true | .str _,.non=>true
 | .int _,.int _=>true | .bl _,.bl _=>true | .str _,.str _=>true | .byt _,.byt _=>true
 | .int _,.str _=>true | .str _,.int _=>true | .bl _,.str _=>true | .str _,.bl _=>true
 | _,_=>false
noncomputable def rEq:R2:=fun x y H Q=>Nt x y=true/\Q (.bl (decide (x=y))) H
noncomputable def rNe:R2:=fun x y H Q=>Nt x y=true/\Q (.bl (!decide (x=y))) H
theorem Aq{i j:Int}:decide (V.int i=V.int j)=(i == j):=by
 rw [Bool.eq_iff_iff]
 simp
theorem Fj{i j:Bool}:decide (V.bl i=V.bl j)=(i == j):=by
 rw [Bool.eq_iff_iff]
 simp
theorem xT{i j:Str}:decide (V.str i=V.str j)=(i == j):=by
 rw [Bool.eq_iff_iff]
 simp
theorem zA{i j:Array UInt8}:decide (V.byt i=V.byt j)=(i.toList == j.toList):=by
 rw [Bool.eq_iff_iff]
 cases i
 cases j
 simp
section
variable {X:Cx}{a b c:Expr}{ta tb tc:TE}{pos:Pos}
theorem cg{pins:List (Addr × Obj)}{σ:St}{H:Hp}{s:Shared}{Q:VK}{k k':Bool}(I:Inv X pins σ H s)(q:Q (.bl k) H)(e:k=k'):EP X pins σ Q (.bool k') s:=by
 subst e
 exact⟨.bl k,H,I,rfl,q⟩
theorem dR:OpR X (compareOp .Eq) rEq:=by
 intro pins s σ H x y v u Q I rx ry h
 obtain⟨hs,q⟩:=h
 cases x with
 | non =>
  cases rx
  cases y with
  | non=>cases ry;exact PySem.EqNone.eq_none_none (cg I q (by simp))
  | bl j=>cases ry;exact PySem.EqNone.eq_none_bool (cg I q (by simp))
  | int j=>obtain⟨t',rfl⟩:=ry;exact PySem.EqNone.eq_none_int (cg I q (by simp))
  | str j=>obtain⟨t',rfl⟩:=ry;exact PySem.EqNone.eq_none_str (cg I q (by simp))
  | _=>exact absurd (show false=true from hs) Bool.false_ne_true
 | bl i =>
  cases rx
  cases y with
  | non=>cases ry;exact PySem.EqNone.eq_bool_none (cg I q (by simp))
  | bl j=>cases ry;exact eq_bool (cg I q Fj)
  | str j=>obtain⟨t',rfl⟩:=ry;exact PySem.EqMixed.eq_bool_str (cg I q (by simp))
  | _=>exact absurd (show false=true from hs) Bool.false_ne_true
 | int i =>
  obtain⟨t,rfl⟩:=rx
  cases y with
  | non=>cases ry;exact PySem.EqNone.eq_int_none (cg I q (by simp))
  | int j=>obtain⟨t',rfl⟩:=ry;exact eq_int (cg I q Aq)
  | str j=>obtain⟨t',rfl⟩:=ry;exact PySem.EqMixed.eq_int_str (cg I q (by simp))
  | _=>exact absurd (show false=true from hs) Bool.false_ne_true
 | str i =>
  obtain⟨t,rfl⟩:=rx
  cases y with
  | non=>cases ry;exact PySem.EqNone.eq_str_none (cg I q (by simp))
  | bl j=>cases ry;exact PySem.EqMixed.eq_str_bool (cg I q (by simp))
  | int j=>obtain⟨t',rfl⟩:=ry;exact PySem.EqMixed.eq_str_int (cg I q (by simp))
  | str j=>obtain⟨t',rfl⟩:=ry;exact eq_str (cg I q xT)
  | _=>exact absurd (show false=true from hs) Bool.false_ne_true
 | byt i =>
  obtain⟨t,rfl⟩:=rx
  cases y with
  | byt j=>obtain⟨t',rfl⟩:=ry;exact W.eq_bytes (cg I q zA)
  | _=>exact absurd (show false=true from hs) Bool.false_ne_true
 | _=>cases y <;> exact absurd (show false=true from hs) Bool.false_ne_true
theorem yK:OpR X (compareOp .NotEq) rNe:=by
 intro pins s σ H x y v u Q I rx ry h
 obtain⟨hs,q⟩:=h
 cases x with
 | non =>
  cases rx
  cases y with
  | non=>cases ry;exact PySem.EqNone.ne_none_none (cg I q (by simp))
  | bl j=>cases ry;exact PySem.EqNone.ne_none_bool (cg I q (by simp))
  | int j=>obtain⟨t',rfl⟩:=ry;exact PySem.EqNone.ne_none_int (cg I q (by simp))
  | str j=>obtain⟨t',rfl⟩:=ry;exact PySem.EqNone.ne_none_str (cg I q (by simp))
  | _=>exact absurd (show false=true from hs) Bool.false_ne_true
 | bl i =>
  cases rx
  cases y with
  | non=>cases ry;exact PySem.EqNone.ne_bool_none (cg I q (by simp))
  | bl j=>cases ry;exact ne_bool (cg I q (congrArg not Fj))
  | str j=>obtain⟨t',rfl⟩:=ry;exact PySem.EqMixed.ne_bool_str (cg I q (by simp))
  | _=>exact absurd (show false=true from hs) Bool.false_ne_true
 | int i =>
  obtain⟨t,rfl⟩:=rx
  cases y with
  | non=>cases ry;exact PySem.EqNone.ne_int_none (cg I q (by simp))
  | int j=>obtain⟨t',rfl⟩:=ry;exact ne_int (cg I q (congrArg not Aq))
  | str j=>obtain⟨t',rfl⟩:=ry;exact PySem.EqMixed.ne_int_str (cg I q (by simp))
  | _=>exact absurd (show false=true from hs) Bool.false_ne_true
 | str i =>
  obtain⟨t,rfl⟩:=rx
  cases y with
  | non=>cases ry;exact PySem.EqNone.ne_str_none (cg I q (by simp))
  | bl j=>cases ry;exact PySem.EqMixed.ne_str_bool (cg I q (by simp))
  | int j=>obtain⟨t',rfl⟩:=ry;exact PySem.EqMixed.ne_str_int (cg I q (by simp))
  | str j=>obtain⟨t',rfl⟩:=ry;exact ne_str (cg I q (congrArg not xT))
  | _=>exact absurd (show false=true from hs) Bool.false_ne_true
 | byt i =>
  obtain⟨t,rfl⟩:=rx
  cases y with
  | byt j=>obtain⟨t',rfl⟩:=ry;exact W.ne_bytes (cg I q (congrArg not zA))
  | _=>exact absurd (show false=true from hs) Bool.false_ne_true
 | _=>cases y <;> exact absurd (show false=true from hs) Bool.false_ne_true
theorem Cu:OpR X (compareOp .Lt) (rI0 fun i j=>.bl (decide (i < j))):=KD fun _ _ _ _ _ _ _ q=>lt_int q
theorem jK:OpR X (compareOp .LtE) (rI0 fun i j=>.bl (decide (i<=j))):=KD fun _ _ _ _ _ _ _ q=>le_int q
theorem HJ:OpR X (compareOp .Gt) (rI0 fun i j=>.bl (decide (j < i))):=KD fun _ _ _ _ _ _ _ q=>gt_int q
theorem Mq:OpR X (compareOp .GtE) (rI0 fun i j=>.bl (decide (j<=i))):=KD fun _ _ _ _ _ _ _ q=>ge_int q
theorem Bf:OpR X (compareOp .In) (fun x y H Q=>∃ i j,x=.str i/\y=.str j/\Q (.bl (!(Builtin.Str.occurrences j i 0 j.length 1).isEmpty)) H):=by
 intro pins s σ H x y v u Q I rx ry h
 obtain⟨i,j,rfl,rfl,q⟩:=h
 obtain⟨t,rfl⟩:=rx
 obtain⟨t',rfl⟩:=ry
 exact in_str (cg I q rfl)
theorem JD:OpR X (compareOp .Is) (fun x y H Q=>y=.non/\Q (.bl (decide (x=.non))) H):=by
 intro pins s σ H x y v u Q I rx ry h
 obtain⟨rfl,q⟩:=h
 cases ry
 refine is_none_gen (cg I q ?_)
 cases x <;> first
  | (cases rx;rfl)
  | (obtain⟨t,rfl⟩:=rx;rfl)
theorem bB(b:Expr){op:CmpOp}(h:op≠.In:=by decide)(h2:op≠.NotIn:=by decide):behindInMarks op b=false:=by
 have e1:(op == CmpOp.In)=false:=by cases op <;> first | rfl | exact absurd rfl h
 have e2:(op == CmpOp.NotIn)=false:=by cases op <;> first | rfl | exact absurd rfl h2
 cases b <;> simp [behindInMarks,e1,e2]
theorem fG{op:CmpOp}{r:R2}(ho:OpR X (compareOp op) r)(ha:PE X a ta)(hb:PE X b tb)(hm:behindInMarks op b=false):PE X (.Compare a [op] [b] pos) (tOp r ta tb):=by
 intro pins s σ H Q I h
 exact wpAny_Compare1 (Lz ha hb I h fun v u s2 x y H2 I2 rx ry q=>ho pins s2 σ H2 x y v u Q I2 rx ry q) hm
noncomputable def Ly(t:TE):TT:=fun σ H Q=>t σ H fun x H'=>∃ k,x=.bl k/\Q k H'
theorem aW{op:CmpOp}{r:R2}(ho:OpR X (compareOp op) r)(ha:PE X a ta)(hb:PE X b tb)(hm:behindInMarks op b=false):PT X (.Compare a [op] [b] pos) (Ly (tOp r ta tb)):=by
 intro pins s σ H Q I h
 refine wpAny_isTrue_Compare1 (thn (ha pins s σ H _ I h) fun v s1 ⟨x,H1,I1,r1,q1⟩=>thn (hb pins s1 σ H1 _ I1 q1) fun u s2 ⟨y,H2,I2,r2,q2⟩ =>
  thn (ho pins s2 σ H2 x y v u _ I2 r1 r2 q2) fun c s3 ⟨z,H3,I3,r3,k,e,q3⟩=>?_) hm
 subst e
 cases r3
 exact wpAny_truthy_bool ⟨H3,I3,q3⟩
noncomputable def pI(r r':R2)(ta tb tc:TE):TE:=fun σ H Q=>ta σ H fun x H1=>tb σ H1 fun y H2=>r x y H2 fun z H3=>∃ k,z=.bl k /\
 (if k=true then tc σ H3 fun w' H4=>r' y w' H4 Q else Q (.bl false) H3)
theorem oG{op op':CmpOp}{r r':R2}(ho:OpR X (compareOp op) r)(ho':OpR X (compareOp op') r')(ha:PE X a ta)(hb:PE X b tb)(hc:PE X c tc)
  (hm:lastMarks [op,op'] [b,c]=false:=by with_unfolding_all rfl):PE X (.Compare a [op,op'] [b,c] pos) (pI r r' ta tb tc):=by
 intro pins s σ H Q I h
 refine Compare_chain (thn (ha pins s σ H _ I h) fun v s1 ⟨x,H1,I1,r1,q1⟩=>chain_link (thn (hb pins s1 σ H1 _ I1 q1) fun u s2 ⟨y,H2,I2,r2,q2⟩ =>
  thn (ho pins s2 σ H2 x y v u _ I2 r1 r2 q2) fun d s3 ⟨z,H3,I3,r3,k,e,q3⟩=>?_)) hm
 subst e
 cases r3
 refine wpAny_truthy_bool ?_
 cases k with
 | false=>exact ite_ff ⟨.bl false,H3,I3,rfl,q3⟩
 | true=>exact ite_tt (chain_last (thn (hc pins s3 σ H3 _ I3 q3) fun w' s4 ⟨z',H4,I4,r4,q4⟩=>ho' pins s4 σ H4 y z' u w' Q I4 r2 r4 q4))
theorem mX:(sizeLine:Nat) < 2 ^ 63:=by rw [sizeLine_eq];decide
theorem fj:OpR X (binaryOp .Add) (fun x y H Q=>∃ i j,x=.str i/\y=.str j/\i.length+j.length<=sizeLine/\Q (.str (i++j)) H):=by
 intro pins s σ H x y v u Q I rx ry h
 obtain⟨i,j,rfl,rfl,hz,q⟩:=h
 obtain⟨t,rfl⟩:=rx
 obtain⟨t',rfl⟩:=ry
 exact add_str (fun t' tk=>⟨.str (i++j),H,I.tok _,⟨_,rfl⟩,q⟩) hz
theorem vals1{x:V}{us:List Value}(r:Vals [x] us):∃ u,us=[u]/\RelV x u:=by
 cases r with
 | cons r1 r2=>cases r2;exact⟨_,rfl,r1⟩
theorem vals2{x y:V}{us:List Value}(r:Vals [x,y] us):∃ u w',us=[u,w']/\RelV x u/\RelV y w':=by
 cases r with
 | cons r1 r2 =>
  cases r2 with
  | cons r3 r4=>cases r4;exact⟨_,_,rfl,r1,r3⟩
theorem lG:gA X (.builtin "abs") (fun xs H Q=>∃ i,xs=[.int i]/\Q (.int (if i < 0 then -i else i)) H):=by
 intro pins s σ H xs us Q I r h
 obtain⟨i,rfl,q⟩:=h
 obtain⟨u,rfl,t,rfl⟩:=vals1 r
 exact call_abs_int fun u tk=>⟨.int (if i < 0 then -i else i),H,I.tok _,⟨_,rfl⟩,q⟩
theorem qg(hc:X.calm=true):gA X (.builtin "max") (fun xs H Q=>∃ i j,xs=[.int i,.int j]/\Q (.int (if j > i then j else i)) H):=by
 intro pins s σ H xs us Q I r h
 obtain⟨i,j,rfl,q⟩:=h
 obtain⟨u,w',rfl,⟨t,rfl⟩,⟨t',rfl⟩⟩:=vals2 r
 refine max_two_ints (I.ok.hd hc) fun h' tk k=>⟨_,H,I.kept k,?_,q⟩
 by_cases hj:j > i
 ·rw [if_pos hj,if_pos hj];exact⟨_,rfl⟩
 ·rw [if_neg hj,if_neg hj];exact⟨_,rfl⟩
theorem xK(hc:X.calm=true):gA X (.builtin "min") (fun xs H Q=>∃ i j,xs=[.int i,.int j]/\Q (.int (if j < i then j else i)) H):=by
 intro pins s σ H xs us Q I r h
 obtain⟨i,j,rfl,q⟩:=h
 obtain⟨u,w',rfl,⟨t,rfl⟩,⟨t',rfl⟩⟩:=vals2 r
 refine min_two_ints (I.ok.hd hc) fun h' tk k=>⟨_,H,I.kept k,?_,q⟩
 by_cases hj:j < i
 ·rw [if_pos hj,if_pos hj];exact⟨_,rfl⟩
 ·rw [if_neg hj,if_neg hj];exact⟨_,rfl⟩
theorem xP:gA X (.type "int") (fun xs H Q=>(∃ i,xs=[.int i]/\Q (.int i) H)\/∃ k,xs=[.bl k]/\Q (.int (if k then 1 else 0)) H):=by
 intro pins s σ H xs us Q I r h
 rcases h with ⟨i,rfl,q⟩ | ⟨k,rfl,q⟩
 ·obtain⟨u,rfl,t,rfl⟩:=vals1 r
  exact call_int_int ⟨.int i,H,I,⟨_,rfl⟩,q⟩
 ·obtain⟨u,rfl,r1⟩:=vals1 r
  cases r1
  exact call_int_bool ⟨.int (if k then 1 else 0),H,I.tok _,⟨_,rfl⟩,q⟩
end
structure KR(h:Heap)(x dx C:Addr)(mA:Str->Option Value):Prop where
 obj:h.get? x=some (W.instObj C dx)
 ns:h.Ns1 dx mA
 ne:dx≠x
theorem yC{h:Heap}{dx:Addr}{mA:Str->Option Value}(n:h.Ns1 dx mA):∃ od,h.get? dx=some od/\∀ name,W.lookIn name od=some (mA name):=by
 obtain⟨o,es,ep,ho,hd,hk,_,hm⟩:=n
 refine⟨o,ho,fun name=>?_⟩
 have e:=hm name
 unfold nsFind findBy at e
 rw [← Array.find?_toList] at e
 unfold W.lookIn
 rw [hd]
 dsimp only
 split
 ·rename_i y q
  rw [q] at e
  exact congrArg some e
 ·rename_i q
  rw [q] at e
  have a:es.toList.any (·.refKey)=false:=by
   rw [List.any_eq_false]
   intro y hy
   obtain⟨z,t,hkey⟩:=hk y (Array.mem_toList_iff.mp hy)
   simp [DictEntry.refKey,hkey]
  have a':¬ es.toList.any (·.refKey)=true:=by rw [a];exact Bool.false_ne_true
  rw [if_neg a']
  exact congrArg some e
theorem KR.look{h:Heap}{x dx C:Addr}{mA:Str->Option Value}(I:KR h x dx C mA):∃ od,W.InstAt h x (W.instObj C dx) C (some od)/\∀ name,W.lookIn name od=some (mA name) :=
 let ⟨od,ho,hl⟩:=yC I.ns
 ⟨od,⟨I.obj,rfl,rfl,ho⟩,hl⟩
section
variable {prog:Program}{w:World}{A:Around}{E:Value->Shared->Prop}{s:Shared}{K:W.Frag}{x dx C f:Addr}{mA:Str->Option Value}{name:Str}{v:Value}
end
theorem vZ.some_of{v:V}{o:Option Value}(r:vZ (some v) o):∃ u,o=some u/\RelV v u:=by
 cases o with
 | none=>exact (show False from r).elim
 | some u=>exact⟨u,rfl,r⟩
section
variable {P:Program}{w:World}{H H':Hp}{h h':Heap}{a C dx:Addr}{fs fs':List (Str × V)}
theorem HB(hok:HOk P w H h)(e:H a=some (.ins C dx fs)):∃ mA,KR h a dx C mA/\(∀ f,vZ (fs.lookup f) (mA f))/\PySem.Within mA (fs.map (·.1))/\fs.length<=1000/\H dx=some (.own a):=by
 obtain⟨d,z,ne,ob,mA,n,r,q⟩:=(show cV P w H h a (.ins C dx fs) from hok a _ e)
 exact⟨mA,⟨ob,n,ne⟩,r,q,z,d⟩
end
structure Cls(K:W.Frag)(C:Addr):Prop where
 pg:W.plainGet K C Str.empty=true
 hd:W.hasDictIn K C=true
 po:W.plainOver K C=true
 sa:W.findIn K (.ref C) "__setattr__" = some (some (.builtin "object.__setattr__"))
theorem Cls.get{K:W.Frag}{C:Addr}(c:Cls K C)(f:Str):W.plainGet K C f=true:=c.pg
structure Con(K:W.Frag)(C:Addr)(f:Str)(v:V)(u:Value):Prop where
 at_:W.findIn K (.ref C) f=some (some u)
 rel:RelV v u
 get:W.specialIn K u "__get__" = some none
 cp:W.copiedNames.contains f=false
structure Meth(K:W.Frag)(C:Addr)(m:Str)(f:Addr):Prop where
 at_:W.findIn K (.ref C) m=some (some (.ref f))
 fn:W.isFn K (.ref f)=true
 kp:W.keepIn K (.ref f)=true
section
variable {X:Cx}{pins:List (Addr × Obj)}{σ:St}{H:Hp}{s:Shared}{a C dx:Addr}{fs:List (Str × V)}{f:Str}{v:V}{A:Around}{E:Value->Shared->Prop}
end
section
variable {X:Cx}{o e value:Expr}{f:Str}{pos pos' tpos:Pos}{ta tv:TE}
end
section
variable {X:Cx}{pins:List (Addr × Obj)}{σ:St}{H:Hp}{s:Shared}{A:Around}{E:Value->Shared->Prop}{Q:Value->Shared->Prop}{c:Value}{b:Bool}
inductive wk(K:W.Frag)(H:Hp):V->Value->Prop where
 | non:wk K H .non (.type "NoneType")
 | bl (x:Bool):wk K H (.bl x) (.type "bool")
 | int (i:Int):wk K H (.int i) (.type "int")
 | str (x:Str):wk K H (.str x) (.type "str")
 | flt (x:UInt64):wk K H (.flt x) (.type "float")
 | lst {a:Addr}{xs:List V} (e:H a=some (.lst xs)):wk K H (.ref a) (.type "list")
 | frz {a:Addr}{o:Obj}{xs:List V} (e:H a=some (.frz o (.lst xs))):wk K H (.ref a) (.type "list")
 | tup {a:Addr}{xs:List V} (e:H a=some (.tup xs)):wk K H (.ref a) (.type "tuple")
 | dK {a:Addr}{kvs:List (Key × V)} (e:H a=some (.dK kvs)):wk K H (.ref a) (.type "dict")
 | dT {a:Addr}{kvs:List (List Key × V)} (e:H a=some (.dT kvs)):wk K H (.ref a) (.type "dict")
 | ins {a C dx:Addr}{fs:List (Str × V)} (e:H a=some (.ins C dx fs)) (cl:Cls K C) (ha:W.findIn K (.ref C) "__class__" = some (some (.builtin "object.__class__")))
   (hn:W.specialIn K (.builtin "object.__class__") "__get__" = some (some (.builtin "getset_descriptor.__get__"))) (htk:W.takesIn K (.builtin "object.__class__")=some true)
   (hm:W.mroIn K C (.type "object")=some true):wk K H (.ref a) (.ref C)
theorem yF{x:V}{u t:Value}(I:Inv X pins σ H s)(rx:RelV x u)(ty:wk X.K H x t)(e:W.kitOne X.K t c=some b)(h:∀ tk,Q (.bool b) { s with toks:=tk }) :
  wpAny (model X.prog X.w) A (call (.builtin "isinstance") [u,c]) Q E s:=by
 cases ty with
 | non=>cases (show u=Value.none from rx);exact W.kia_one W.kitx_none I.kIn True.intro e (fun z=>nomatch z) h
 | bl y=>cases (show u=Value.bool y from rx);exact W.kia_one W.kitx_bool I.kIn True.intro e (fun z=>nomatch z) h
 | int i=>obtain⟨t,q⟩:=(show ∃ t,u=Value.int i t from rx);cases q;exact W.kia_one W.kitx_int I.kIn True.intro e (fun z=>nomatch z) h
 | str y=>obtain⟨t,q⟩:=(show ∃ t,u=Value.str y t from rx);cases q;exact W.kia_one W.kitx_str I.kIn True.intro e (fun z=>nomatch z) h
 | flt y=>obtain⟨t,q⟩:=(show ∃ t,u=Value.float y t from rx);cases q;exact W.kia_one W.kitx_float I.kIn True.intro e (fun z=>nomatch z) h
 | @lst a xs ea =>
  cases (show u=Value.ref a from rx)
  obtain⟨_,_,n,_,h1⟩:=(show cV X.prog X.w H s.heap a (.lst xs) from I.hok a _ ea)
  exact W.kia_one W.kitx_list I.kIn ⟨_,h1,rfl⟩ e (fun z=>nomatch z) h
 | @frz a ob xs ea =>
  cases (show u=Value.ref a from rx)
  obtain⟨_,_,_,n,_,h1⟩:=(show cV X.prog X.w H s.heap a (.frz ob (.lst xs)) from I.hok a _ ea)
  exact W.kia_one W.kitx_list I.kIn ⟨_,h1,rfl⟩ e (fun z=>nomatch z) h
 | @tup a xs ea =>
  cases (show u=Value.ref a from rx)
  obtain⟨_,_,_,p⟩:=(show cV X.prog X.w H s.heap a (.tup xs) from I.hok a _ ea)
  obtain⟨o,h1,h2,_⟩:=p
  exact W.kia_one W.kitx_tuple I.kIn ⟨o,h1,h2⟩ e (fun z=>nomatch z) h
 | @dK a kvs ea =>
  cases (show u=Value.ref a from rx)
  obtain⟨_,_,vs,_,p⟩:=(show cV X.prog X.w H s.heap a (.dK kvs) from I.hok a _ ea)
  obtain⟨o,es,ep,h1,h2,_⟩:=p
  exact W.kia_one W.kitx_dict I.kIn ⟨o,h1,h2.1⟩ e (fun z=>nomatch z) h
 | @dT a kvs ea =>
  cases (show u=Value.ref a from rx)
  obtain⟨_,_,xs,_,o,es,ep,h1,h2,_⟩:=(show cV X.prog X.w H s.heap a (.dT kvs) from I.hok a _ ea)
  exact W.kia_one W.kitx_dict I.kIn ⟨o,h1,h2.1⟩ e (fun z=>nomatch z) h
 | @ins a C dx fs ea cl ha hn htk hm =>
  cases (show u=Value.ref a from rx)
  obtain⟨mA,O,_⟩:=HB I.hok ea
  obtain⟨od,J,_⟩:=O.look
  exact W.kia_one (W.kitx_own (cl.get _) cl.hd ha hn htk hm) I.kIn J e (fun z=>nomatch z) h
end
structure kJ(k:Nat)(A:Around):Prop where
 hd:A.handled=none
 dp:A.depth+3 * k+5 < recursionLimit
 un:A.units+16 * k+200 < cLine
theorem kJ.mono{j k:Nat}{A:Around}(r:kJ k A)(h:j<=k):kJ j A:=⟨r.hd,by have:=r.dp;omega,by have:=r.un;omega⟩
theorem kJ.deeper{k:Nat}{A:Around}(r:kJ (k+1) A)(env:Env):kJ k (A.deeper env) :=
 ⟨r.hd,by have:=r.dp;show A.depth+1+3 * k+5 < _;omega,by have:=r.un;show A.units+3+16 * k+200 < _;omega⟩
theorem kJ.depth{k:Nat}{A:Around}(r:kJ k A):A.depth < recursionLimit:=by have:=r.dp;omega
theorem kJ.units{k:Nat}{A:Around}(r:kJ k A):A.units+64 < cLine:=by have:=r.un;omega
theorem kJ.units0{k:Nat}{A:Around}(r:kJ k A):A.units < cLine:=by have:=r.un;omega
noncomputable def Ni:TA:=fun _ H Q=>Q [] H
noncomputable def Gf(ta:TE)(tr:TA):TA:=fun σ H Q=>ta σ H fun x H1=>tr σ H1 fun xs H2=>Q (x :: xs) H2
section
variable {X:Cx}{e:Expr}{es:List Expr}{te:TE}{t:TA}{pos:Pos}
theorem ao:PA X [] Ni:=fun _ _ _ _ H Q I h=>Calls.spliced_nil ⟨[],H,I,.nil,h⟩
theorem aj(ha:PE X e te)(hr:PA X es t)(hs:starEach (e :: es) X.env=(false,eval e X.env) :: starEach es X.env:=by rfl):PA X (e :: es) (Gf te t):=by
 intro pos pins s σ H Q I h
 rw [hs]
 show wpAny _ _ (spliced ((false,eval e X.env) :: backTo pos (starEach es X.env))) _ _ s
 refine Calls.spliced_cons (thn (ha pins s σ H _ I h) fun u s1 ⟨x,H1,I1,r1,q1⟩=>?_)
 exact thn (hr pos pins s1 σ H1 _ I1 q1) fun us s2 ⟨xs,H2,I2,r2,q2⟩=>⟨x :: xs,H2,I2,.cons r1 r2,q2⟩
noncomputable def O2(t:TA):TE:=fun σ H Q=>t σ H fun xs H1=>xs.length<=sizeLine/\∀ p,H1 p=none->Q (.ref p) (upd H1 p (.tup xs))
noncomputable def Nb(t:TA):TE:=fun σ H Q=>t σ H fun xs H1=>xs.length<=sizeLine/\∀ p,H1 p=none->Q (.ref p) (upd H1 p (.lst xs))
theorem aM{x1}(h:PA X es t):PE X (.Tuple es x1 pos) (O2 t):=by
 intro pins s σ H Q I hq
 refine wpAny_Tuple_spliced (thn (h pos pins s σ H _ I hq) fun us s1 ⟨xs,H1,I1,r,z,q⟩=>⟨by rw [← r.length];exact z,?_⟩)
 have hf:H1 s1.heap.objs.size=none:=I1.hok.fresh (Nat.le_refl _)
 refine⟨.ref s1.heap.objs.size,upd H1 s1.heap.objs.size (.tup xs),I1.laid (t':=s1.toks) (fun b u e=>Heap.get?_push_of_some _ e) (Nat.le_refl _) ?_,rfl,q _ hf⟩
 exact⟨z,us,r,⟨_,Heap.get?_push_size _ rfl,rfl,_,rfl⟩⟩
theorem cQ(h:PA X es t):PE X (.List es pos) (Nb t):=by
 intro pins s σ H Q I hq
 refine wpAny_List_spliced (thn (h pos pins s σ H _ I hq) fun us s1 ⟨xs,H1,I1,r,z,q⟩=>⟨by rw [← r.length];exact z,?_⟩)
 have hf:H1 s1.heap.objs.size=none:=I1.hok.fresh (Nat.le_refl _)
 refine⟨.ref s1.heap.objs.size,upd H1 s1.heap.objs.size (.lst xs),I1.laid (t':=s1.toks) (fun b u e=>Heap.get?_push_of_some _ e) (Nat.le_refl _) ?_,rfl,q _ hf⟩
 exact⟨z,us,0,r,Heap.get?_push_size _ rfl⟩
end
noncomputable abbrev Sp:=List V->Hp->VK->XK->Prop
noncomputable abbrev CXT:=List Env->Hp->Shared->XK->Value->Shared->Prop
structure JN(P:Program)(w:World)(K:W.Frag)(mg:Str->Option Value)(base:Heap)(A:Around)(outer:List Env)(s:Shared)(H:Hp):Prop where
 frames:A.frames=some outer
 mod:Mod K mg base
 bs:∀ b o,base.get? b=some o->s.heap.get? b=some o/\H b=none
 bsz:base.objs.size<=s.heap.objs.size
 funs:s.heap.FunFrames base outer
 frf:∀ b∈frs outer,H b=none
 hok:HOk P w H s.heap
 bare:AllBare s.gens
noncomputable def CE(outer:List Env)(P:Program)(w:World)(H:Hp)(s:Shared)(Q:VK)(u:Value)(s':Shared):Prop :=
 ∃ v H',s'.os=s.os/\AllBare s'.gens/\Un (frs outer) [] H H' s.heap s'.heap/\HOk P w H' s'.heap/\RelV v u/\Q v H'
noncomputable def CR(CX:CXT)(outer:List Env)(P:Program)(w:World)(H:Hp)(s:Shared)(Q:VK)(E:XK)(r:Result)(s':Shared):Prop :=
 match r with
 | .ok (.ret u)=>CE outer P w H s Q u s'
 | .ok _=>False
 | .error e=>CX outer H s E e s'
structure oR(P:Program)(w:World)(K:W.Frag)(mg:Str->Option Value)(base:Heap)(CX:CXT)(k:Nat)(f:Addr)(fd:FuncData)(ps:List Str)(sp:Sp):Prop where
 len:∀ vs H Q E,sp vs H Q E->vs.length=ps.length
 run:∀(A:Around)(outer:List Env)(s:Shared)(H:Hp)(args:Args)(us:List Value)(vs:List V)(Q:VK)(E:XK),kJ k A->JN P w K mg base A outer s H->BindsTo s fd args (ps.zip us)->Vals vs us->sp vs H Q E ->
  codeAny (model P w) A (.call (.ref f) args) (CR CX outer P w H s Q E) s
theorem oR.imp{P:Program}{w:World}{K:W.Frag}{mg:Str->Option Value}{base:Heap}{CX:CXT}{k:Nat}{f:Addr}{fd:FuncData}{ps:List Str}{sp sp':Sp}(F:oR P w K mg base CX k f fd ps sp)
  (h:∀ vs H Q E,sp' vs H Q E->sp vs H Q E):oR P w K mg base CX k f fd ps sp' :=
 ⟨fun vs H Q E q=>F.len vs H Q E (h _ _ _ _ q),fun A outer s H args us vs Q E hr he hb hv hs=>F.run A outer s H args us vs Q E hr he hb hv (h _ _ _ _ hs)⟩
section
variable {X:Cx}{pins:List (Addr × Obj)}{σ:St}{H:Hp}{s s':Shared}
theorem Inv.env0(I:Inv X pins σ H s):JN X.prog X.w X.K X.mg X.base X.A X.stack s H :=
 ⟨I.ok.frames,I.ok.mod,I.bs,Nat.le_trans I.ok.bsz I.sz,I.stack,I.stkFree,I.hok,I.bare⟩
theorem Inv.after{Q:VK}{u:Value}(I:Inv X pins σ H s)(h:CE X.stack X.prog X.w H s Q u s'):EP X pins σ Q u s':=by
 obtain⟨v,H',os,bare,un,hok,r,q⟩:=h
 obtain⟨hh,g,d,t,os'⟩:=s'
 obtain rfl:os'=s.os:=os
 exact⟨v,H',I.call (h':=hh) (g':=g) (d':=d) (t':=t) (ch:=[]) un hok bare (fun b z=>absurd z (by simp)),r,q⟩
end
noncomputable def Hh(sp:Sp)(dvs:List V)(E:XK)(t:TA):TE:=fun σ H Q=>t σ H fun vs H1=>sp (vs++dvs) H1 Q E
noncomputable def Binds(K:W.Frag)(fd:FuncData)(ps:List Str)(ds:List Value):Prop :=
 ∀(s:Shared)(us:List Value),K.In s.heap->(us++ds).length=ps.length->BindsTo s fd ⟨us,[]⟩ (ps.zip (us++ds))
theorem Binds.all{K:W.Frag}{fd:FuncData}{ps:List Str}(h:∀ us:List Value,us.length=ps.length->bindArgs fd ⟨us,[]⟩=pure (ps.zip us)):Binds K fd ps []:=fun s us _ hl=>by
 rw [List.append_nil] at hl ⊢
 exact .of_eq (h us hl)
noncomputable def Passes(CX:CXT)(X:Cx)(E:XK):Prop:=∀(pins:List (Addr × Obj))(σ:St)(H:Hp)(s:Shared)(e:Value)(s':Shared),Inv X pins σ H s->CX X.stack H s E e s'->X.xe e s'
section
variable {X:Cx}{CX:CXT}{k:Nat}{f C:Addr}{fd:FuncData}{ps:List Str}{sp:Sp}{dvs:List V}{ds:List Value}{E:XK}{x m:Str}{p pos apos:Pos}{e o:Expr}{es:List Expr}{ta:TE}{t:TA}
theorem J6{pins:List (Addr × Obj)}{σ:St}{H:Hp}{s:Shared}{Q:VK}{us:List Value}{vs:List V}(F:oR X.prog X.w X.K X.mg X.base CX k f fd ps sp)(hr:kJ k X.A)(hb:Binds X.K fd ps ds)(hd:Vals dvs ds)(hx:Passes CX X E)
  (I:Inv X pins σ H s)(r:Vals vs us)(h:sp (vs++dvs) H Q E):wpAny (model X.prog X.w) X.A (call (.ref f) us) (EP X pins σ Q) X.xe s:=by
 have r2:Vals (vs++dvs) (us++ds):=r.append hd
 have hl:(us++ds).length=ps.length:=by rw [← r2.length];exact F.len _ _ _ _ h
 refine wpAny_call (codeAny_mono (F.run X.A X.stack s H ⟨us,[]⟩ (us++ds) (vs++dvs) Q E hr I.env0 (hb s us I.kIn hl) r2 h) fun r s' hq=>?_)
 cases r with
 | error e=>exact hx pins σ H s e s' I hq
 | ok fl =>
  cases fl with
  | ret u=>exact I.after hq
  | next=>exact False.elim hq
  | brk=>exact False.elim hq
  | cont=>exact False.elim hq
theorem Ac(F:oR X.prog X.w X.K X.mg X.base CX k f fd ps sp)(hr:kJ k X.A)(hg:Gl X x)(hm:X.mg x=some (.ref f))(hk:W.keepIn X.K (.ref f)=true)(hb:Binds X.K fd ps ds)(hd:Vals dvs ds)(hx:Passes CX X E)
  (ha:PA X (e :: es) t)(hdb:(x == ("__debug__" : Str))=false:=by decide)(he:starEach (e :: es) X.env=(false,eval e X.env) :: starEach es X.env:=by rfl)(hpl:(backTo pos (starEach es X.env)).any (·.1)=false:=by rfl) :
  PE X (.Call (.Name x p) (e :: es) [] pos) (Hh sp dvs E t):=by
 intro pins s σ H Q I h
 refine wpAny_Call_Name_kw (z8 I hg hm ?_ hdb)
 refine W.callWith_K (h₀:=X.base) I.ok.mod.kin hk (thn (ha pos pins s σ H _ I h) fun us s1 ⟨vs,H1,I1,r,q⟩=>⟨I1.kIn,?_⟩) he hpl
 exact J6 F hr hb hd hx I1 r q
structure Mk(K:W.Frag)(C f:Addr):Prop where
 makes:W.makesIn K C=true
 init:W.findIn K (.ref C) "__init__" = some (some (.ref f))
 fn:W.isFn K (.ref f)=true
 kp:W.keepIn K (.ref C)=true
end
section
variable {X:Cx}{CX:CXT}{k:Nat}{f C:Addr}{fd:FuncData}{ps ks:List Str}{sp:Sp}{E:XK}{x m:Str}{p pos apos kpos:Pos}{e o:Expr}{es:List Expr}{kws:List Keyword}{te ta:TE}{t tk:TA}{nm:Option Str}
structure M4(K:W.Frag)(fd:FuncData)(ps ks:List Str)(g:List Value->List Value->List Value)(gV:List V->List V->List V):Prop where
 to:∀(s:Shared)(us ws:List Value),K.In s.heap->(g us ws).length=ps.length->BindsTo s fd ⟨us,ks.zip ws⟩ (ps.zip (g us ws))
 rel:∀ {vs:List V}{us:List Value}{zs:List V}{ws:List Value},Vals vs us->Vals zs ws->Vals (gV vs zs) (g us ws)
variable {g:List Value->List Value->List Value}{gV:List V->List V->List V}
end
structure aQ(N P:List Str)(sc:Scope):Prop where
 kind:sc.kind=.function
 co:sc.isCoroutine=false
 gen:sc.isGenerator=false
 nd:N.Nodup
 pre:N.take P.length=P
 par:∀ x∈P,sc.names.lookup x=some .local\/sc.names.lookup x=some .cell
 nofree:∀ y∈sc.names,y.2≠.free
theorem qb{kindOf:Str->Option NameKind}{x:Str}:∀ {binds:List (Str × Value)}{m:Str->Option Value},(∀ v,(x,v) ∉ binds)->bindL kindOf binds m x=m x
 | [],_,_=>rfl
 | (n,v) :: r,m,h=>by
  unfold bindL
  rw [qb fun w hw=>h w (List.mem_cons_of_mem _ hw)]
  split
  ·have:x≠n:=by rintro rfl;exact h v List.mem_cons_self
   simp [this]
  ·rfl
theorem qY{kindOf:Str->Option NameKind}{x:Str}:∀ {binds:List (Str × Value)}{m:Str->Option Value},(∀ v,(x,v) ∉ binds)->bindC kindOf binds m x=m x
 | [],_,_=>rfl
 | (n,v) :: r,m,h=>by
  unfold bindC
  rw [qY fun w hw=>h w (List.mem_cons_of_mem _ hw)]
  split
  ·rfl
  ·have:x≠n:=by rintro rfl;exact h v List.mem_cons_self
   simp [this]
theorem rG{kindOf:Str->Option NameKind}{x:Str}{v:Value}:∀ {P:List Str}{vs:List Value}{i:Nat}{m:Str->Option Value},P.Nodup->P[i]?=some x->vs[i]?=some v->kindOf x=some .local ->
  bindL kindOf (P.zip vs) m x=some v
 | [],_,_,_,_,h,_,_=>by simp at h
 | _ :: _,[],_,_,_,_,h,_=>by simp at h
 | p :: P,w :: vs,0,m,nd,h1,h2,hk=>by
  simp at h1 h2;subst h1;subst h2
  show bindL kindOf ((p,w) :: P.zip vs) m p=_
  unfold bindL
  rw [qb fun v hv=>(List.nodup_cons.mp nd).1 (List.of_mem_zip hv).1,if_pos hk]
  simp
 | p :: P,w :: vs,i+1,m,nd,h1,h2,hk=>by
  show bindL kindOf ((p,w) :: P.zip vs) m x=_
  unfold bindL
  exact rG (i:=i) (List.nodup_cons.mp nd).2 (by simpa using h1) (by simpa using h2) hk
theorem rM{kindOf:Str->Option NameKind}{x:Str}{v:Value}:∀ {P:List Str}{vs:List Value}{i:Nat}{m:Str->Option Value},P.Nodup->P[i]?=some x->vs[i]?=some v->kindOf x≠some .local ->
  bindC kindOf (P.zip vs) m x=some v
 | [],_,_,_,_,h,_,_=>by simp at h
 | _ :: _,[],_,_,_,_,h,_=>by simp at h
 | p :: P,w :: vs,0,m,nd,h1,h2,hk=>by
  simp at h1 h2;subst h1;subst h2
  show bindC kindOf ((p,w) :: P.zip vs) m p=_
  unfold bindC
  rw [qY fun v hv=>(List.nodup_cons.mp nd).1 (List.of_mem_zip hv).1,if_neg hk]
  simp
 | p :: P,w :: vs,i+1,m,nd,h1,h2,hk=>by
  show bindC kindOf ((p,w) :: P.zip vs) m x=_
  unfold bindC
  exact rM (i:=i) (List.nodup_cons.mp nd).2 (by simpa using h1) (by simpa using h2) hk
noncomputable def start(N:List Str)(vs:List V):St:=vs.map some++List.replicate (N.length - vs.length) none
noncomputable def Gx(CX:CXT)(P:Program)(w:World)(K:W.Frag)(mg:Str->Option Value)(base:Heap)(N:List Str)(qual:Str)(scope:Scope)(f:Addr)(cd:Value)(A:Around)(outer:List Env)(s:Shared)(H:Hp)(E:XK):Cx where
 prog:=P
 w:=w
 K:=K
 mg:=mg
 base:=base
 A:=A.deeper (envOfC qual scope s.heap.objs.size f cd)
 N:=N
 s₀:=s
 H₀:=H
 env:=envOfC qual scope s.heap.objs.size f cd
 outer:=outer
 stack:=envOfC qual scope s.heap.objs.size f cd :: outer
 ex:=[]
 calm:=true
 fn:=fun _=>true
 pn:=[]
 xe:=fun e s'=>wpAny (model P w) (A.deeper (envOfC qual scope s.heap.objs.size f cd)) (leaving (envOfC qual scope s.heap.objs.size f cd) e) (fun _ s''=>CX outer H s E e s'') (fun e' s''=>CX outer H s E e' s'') s'
theorem um{sc:Scope}{n:Nat}{x:Str}(h:sc.names.lookup x=some .cell):∃ c,(cellsFrom n sc.names []).lookup x=some c:=by
 have q:=W.cellsFrom_some sc.names n [] (.inl h)
 exact Option.isSome_iff_exists.mp q
theorem Bk{CX:CXT}{P:Program}{w:World}{K:W.Frag}{mg:Str->Option Value}{base:Heap}{N ps:List Str}{qual:Str}{scope:Scope}{f:Addr}{cd:Value}{A:Around}{outer:List Env}{s s1:Shared}{H:Hp}{E:XK}{us:List Value}{vs:List V}
  (S:aQ N ps scope)(hd:A.handled=none)(e0:JN P w K mg base A outer s H)(hl:vs.length=ps.length)(r:Vals vs us)
  (x:InCallC s s.heap.objs.size (bindL (envOfC qual scope s.heap.objs.size f cd).kindOf (ps.zip us) fun _=>none) (cellsFrom (s.heap.objs.size+1) scope.names []) (bindC (envOfC qual scope s.heap.objs.size f cd).kindOf (ps.zip us) fun _=>none) s1) :
  Inv (Gx CX P w K mg base N qual scope f cd A outer s H E) [] (start N vs) H s1:=by
 have hpl:ps.length<=N.length:=by have:=congrArg List.length S.pre;rw [List.length_take] at this;omega
 obtain⟨h1,tk,rfl,hk⟩:=x.done
 have noA:∀ b:Addr,b ∉ (Gx CX P w K mg base N qual scope f cd A outer s H E).ex:=fun b z=>absurd (show b∈([]:List Addr) from z) (by simp)
 refine⟨⟨e0.mod,S.kind,rfl,rfl,Nat.le_refl _,fun y z c h1 h2=>?_,fun y hy=>?_,fun y c _ h=>?_,fun _=>hd,Around.frames_deeper e0.frames,.inr ⟨rfl,rfl⟩,fun b z=>absurd z (noA b),e0.bs,e0.bsz,fun b _ _=>noA b,fun b z=>absurd z (noA b),e0.funs,e0.frf⟩,
  rfl,e0.bare,Un.kept hk,⟨_,x.toInCall.ns,fun i y v h1 h2 h3=>?_⟩,fun y c h=>⟨_,x.cell y c h⟩,e0.hok.fresh (Nat.le_refl _),fun y c h=>?_,fun p hp=>absurd (show p∈([]:List (Addr × Obj)) from hp) (by simp),e0.hok.kept hk,?_⟩
 ·exact name_of_addr x.apart (PySem.mem_of_lookup h1) (PySem.mem_of_lookup h2)
 ·have hy:scope.names.lookup y=some .cell\/scope.names.lookup y=some .free:=hy
  rcases hy with hy | hy
  ·exact um hy
  ·exact absurd rfl (S.nofree _ (PySem.mem_of_lookup hy))
 ·exact Nat.le_of_lt (x.above y c (PySem.mem_of_lookup h))
 ·have hi:i < vs.length:=by
   unfold start at h2
   by_cases hi:i < vs.length
   ·exact hi
   ·rw [List.getElem?_append_right (by simpa using hi)] at h2
    rw [List.getElem?_replicate] at h2
    split at h2 <;> cases h2
  have ha:vs[i]?=some v:=by
   unfold start at h2
   rw [List.getElem?_append_left (by simpa using hi),List.getElem?_map] at h2
   cases e:vs[i]? with
   | none=>rw [e] at h2;cases h2
   | some a=>rw [e] at h2;cases h2;rfl
  obtain⟨u,hu,rv⟩:=r.get ha
  have hp:ps[i]?=some y:=by
   rw [← S.pre,List.getElem?_take_of_lt (by omega)];exact h1
  have ndP:ps.Nodup:=by rw [← S.pre];exact S.nd.sublist (List.take_sublist _ _)
  refine⟨u,rv,?_⟩
  rcases S.par y (List.mem_of_getElem? hp) with k | k
  ·exact .inl ⟨k,rG ndP hp hu k⟩
  ·obtain⟨c,e⟩:=um (n:=s.heap.objs.size+1) k
   refine .inr ⟨.inl k,c,e,?_⟩
   have q:=x.cell y c e
   rw [rM ndP hp hu (by show scope.names.lookup y≠_;rw [k];decide)] at q
   exact q
 ·exact e0.hok.fresh (Nat.le_of_lt (x.above y c (PySem.mem_of_lookup h)))
 ·unfold start
  show _=N.length
  rw [List.length_append,List.length_map,List.length_replicate]
  omega
theorem Lw{CX:CXT}{P:Program}{w:World}{K:W.Frag}{mg:Str->Option Value}{base:Heap}{k:Nat}{f:Addr}{name qual:Str}{params:Arguments}{body:List Stmt}{scope:Scope}{dV kV doc pm cdv ct oc:Value}{an od:Option Addr}
  {osl:Array (Option Value)}{N ps:List Str}{sp:Sp}(lk:K.lookup f=some ⟨oc,od,.func (W.fnOf name qual params body scope dV kV doc pm an cdv ct),osl⟩)(hcd:W.codeIn K cdv qual=true)(S:aQ N ps scope)
  (len:∀ vs H Q E,sp vs H Q E->vs.length=ps.length)
  (hbody:∀(A:Around)(outer:List Env)(s:Shared)(H:Hp)(vs:List V)(Q:VK)(E:XK),kJ k (A.deeper (envOfC qual scope s.heap.objs.size f cdv))->sp vs H Q E ->
   ∃ t,PSs (Gx CX P w K mg base N qual scope f cdv A outer s H E) body t/\t { nx:=fun _ H'=>Q .non H',rt:=Q } (start N vs) H) :
  oR P w K mg base CX (k+1) f (W.fnOf name qual params body scope dV kV doc pm an cdv ct) ps sp:=by
 refine⟨len,fun A outer s H args us vs Q E hr e0 hb r hsp=>?_⟩
 have hl:=len _ _ _ _ hsp
 have KX:K.In s.heap:=e0.mod.kin.keeps fun b o e=>(e0.bs b o e).1
 have lim:s.heap.NoLimit:=e0.mod.nolimit.keeps fun b o e=>(e0.bs b o e).1
 have hkind:∀ y∈ps.zip us,scope.names.lookup y.1=some .local\/(scope.names.lookup y.1=some .cell/\((cellsFrom (s.heap.objs.size+1) scope.names []).lookup y.1).isSome=true):=fun ⟨n,v⟩ hy=>by
  rcases S.par n (List.of_mem_zip hy).1 with q | q
  ·exact .inl q
  ·exact .inr ⟨q,W.cellsFrom_some _ _ _ (.inl q)⟩
 refine codeAny_call_function hr.depth (KX _ _ lk) rfl S.co S.gen rfl (W.codeRec_of KX hcd) (hb _ _ _ _ ?_)
 refine wpAny_newFunctionEnv_cells S.kind hkind fun env he s1 x=>?_
 subst he
 refine⟨lim.keeps x.toInCall.keep,codeAny_func ?_⟩
 obtain⟨t,ht,hq⟩:=hbody A outer s H vs Q E (hr.deeper _) hsp
 have I:Inv (Gx CX P w K mg base N qual scope f cdv A outer s H E) [] (start N vs) H s1:=Bk S hr.hd e0 hl r x
 refine wpAny_mono (ht [] s1 (start N vs) H _ I hq) (fun fl s' hs=>?_) fun e s' hs=>hs
 have fin:∀ {σ':St}{H':Hp}{v:V}{u:Value},Inv (Gx CX P w K mg base N qual scope f cdv A outer s H E) [] σ' H' s'->RelV v u->Q v H'->CE outer P w H s Q u s' :=
  fun {σ' H' v u} J rv q=>⟨v,H',J.os,J.bare,J.base,J.hok,rv,q⟩
 cases fl with
 | ret u =>
  obtain⟨v,σ',H',J,rv,q⟩:=hs
  exact fin J rv q
 | next =>
  obtain⟨σ',H',J,q⟩:=hs
  exact fin (v:=V.non) (u:=Value.none) J rfl q
 | brk =>
  obtain⟨_,_,_,q⟩:=hs
  exact False.elim q
 | cont =>
  obtain⟨_,_,_,q⟩:=hs
  exact False.elim q
section
variable {X:Cx}{x:Str}{p pos:Pos}{e:Expr}{es:List Expr}{t:TA}{id T:String}{r:List V->Hp->VK->Prop}
noncomputable def tCB(r:List V->Hp->VK->Prop)(t:TA):TE:=fun σ H Q=>t σ H fun vs H1=>r vs H1 Q
theorem aJ(hc:gA X (.builtin id) r)(hg:Gl X x)(hm:X.mg x=none)(hv:bootBuiltins x=some (.builtin id))(ha:PA X (e :: es) t)(hn:x ≠ "__name__":=by decide)(hdb:(x == ("__debug__" : Str))=false:=by decide)
  (he:starEach (e :: es) X.env=(false,eval e X.env) :: starEach es X.env:=by rfl)(hpl:(backTo pos (starEach es X.env)).any (·.1)=false:=by rfl):PE X (.Call (.Name x p) (e :: es) [] pos) (tCB r t):=by
 intro pins s σ H Q I h
 refine wpAny_Call_Name_kw (j8 I hg hm hv ?_ hn hdb)
 exact PyProof.Rows.callWith_builtin1 (thn (ha pos pins s σ H _ I h) fun us s1 ⟨vs,H1,I1,r1,q1⟩=>hc pins s1 σ H1 vs us Q I1 r1 q1) he hpl
theorem bV(hc:gA X (.type T) r)(hg:Gl X x)(hm:X.mg x=none)(hv:bootBuiltins x=some (.type T))(ha:PA X (e :: es) t)(hn:x ≠ "__name__":=by decide)(hdb:(x == ("__debug__" : Str))=false:=by decide)
  (he:starEach (e :: es) X.env=(false,eval e X.env) :: starEach es X.env:=by rfl)(hpl:(backTo pos (starEach es X.env)).any (·.1)=false:=by rfl):PE X (.Call (.Name x p) (e :: es) [] pos) (tCB r t):=by
 intro pins s σ H Q I h
 refine wpAny_Call_Name_kw (j8 I hg hm hv ?_ hn hdb)
 exact PyProof.Rows.callWith_type1 (thn (ha pos pins s σ H _ I h) fun us s1 ⟨vs,H1,I1,r1,q1⟩=>hc pins s1 σ H1 vs us Q I1 r1 q1) he hpl
end
end L2
namespace HT
open PySem PyProof.Rows
section
open PySem.SeqAt
open PySem.AutoSeq1 (wpAny_loadPart')
open PySem.MeetsSeq PySem.MeetsSeq2 PySem.MeetsSeq3
end
section
variable {prog:Program}{w:World}{A:Around}{E:Value->Shared->Prop}{s:Shared}
theorem GF{t b:Addr}{vs ws:List Value}{Q:Value->Shared->Prop}(ht:IsTup s.heap t vs.toArray)(hb:IsTup s.heap b ws.toArray)(hv:vs≠[])
  (h1:ws=[]->Q (.ref t) s)(h2:ws≠[]->Q (.ref s.heap.objs.size) { s with heap:=s.heap.push { cls:=.type "tuple",data:=.seq (vs++ws).toArray } })
  (hsz:vs.length+ws.length<=sizeLine):wpAny (model prog w) A (binaryOp .Add (.ref t) (.ref b)) Q E s:=by
 obtain⟨⟨cls,dd,data,sl⟩,ho,hc,n,hd⟩:=id ht
 obtain⟨⟨cls2,dd2,data2,sl2⟩,ho2,hc2,n2,hd2⟩:=id hb
 simp only at hc hd hc2 hd2
 subst hc hd hc2 hd2
 have e:vs.toArray++ws.toArray=(vs++ws).toArray:=by simp
 by_cases hw:ws=[]
 ·exact concat_meets ⟨_,ho,rfl⟩ ⟨_,ho2,rfl⟩ noFill_tuple_add seq_tuple_add PySem.F.slot_tuple_add PySem.F.entry_tuple_add (PySem.F.args_tuple_add_2 _ _)
   (tuple_addW1 t b vs.toArray ws.toArray n n2 dd dd2 sl sl2 (by simpa using hv) (by simp [hw])) ⟨ho,ho2,h1 hw⟩
 ·refine concat_meets ⟨_,ho,rfl⟩ ⟨_,ho2,rfl⟩ noFill_tuple_add seq_tuple_add PySem.F.slot_tuple_add PySem.F.entry_tuple_add (PySem.F.args_tuple_add_2 _ _)
   (tuple_addW2 t b vs.toArray ws.toArray n n2 dd dd2 sl sl2 (by simpa using hv) (by simpa using hw) (by rw [List.size_toArray,List.size_toArray];exact hsz)) ⟨ho,ho2,?_⟩
  rw [e]
  exact h2 hw
noncomputable def sIx(n d:Nat):Option Int->Nat
 | none=>d
 | some v=>if v < 0 then (v+(n:Int)).toNat else min v.toNat n
theorem jr(n d:Nat):sIx n d none=d:=rfl
theorem nZ(n d k:Nat):sIx n d (some (k:Int))=min k n:=by
 show (if (k:Int) < 0 then ((k:Int)+(n:Int)).toNat else min (k:Int).toNat n)=min k n
 rw [if_neg (by omega),Int.toNat_natCast]
theorem Ke(n d:Nat)(hd:d<=n)(o:Option Int):sIx n d o<=n:=by
 cases o with
 | none=>exact hd
 | some v =>
  show (if v < 0 then (v+(n:Int)).toNat else min v.toNat n)<=n
  by_cases hv:v < 0
  ·rw [if_pos hv];omega
  ·rw [if_neg hv];exact Nat.min_le_right _ _
theorem Bq(v:Int)(n d:Nat):(if v < 0 then max (v+(n:Int)) 0 else min v (n:Int))=((sIx n d (some v):Nat):Int):=by
 show (if v < 0 then max (v+(n:Int)) 0 else min v (n:Int))=(((if v < 0 then (v+(n:Int)).toNat else min v.toNat n):Nat):Int)
 by_cases hv:v < 0
 ·simp only [if_pos hv];omega
 ·simp only [if_neg hv];omega
theorem vK(lo hi:Option Int)(n:Nat):Builtin.Slice.sliceAdjust lo hi 1 (n:Int)=(((sIx n 0 lo:Nat):Int),((sIx n n hi:Nat):Int)):=by
 have h1:¬ ((1:Int) < 0):=by omega
 unfold Builtin.Slice.sliceAdjust
 simp only [h1,if_false]
 refine Prod.ext ?_ ?_
 ·cases lo with
  | none=>rfl
  | some v=>exact Bq v n 0
 ·cases hi with
  | none=>rfl
  | some v=>exact Bq v n n
theorem vV(i j:Nat):Builtin.Slice.slicePlaces (i:Int) (j:Int) 1=j - i:=by
 unfold Builtin.Slice.slicePlaces
 have h1:(1:Int) > 0:=by omega
 simp only [h1,if_true,Int.ediv_one]
 split <;> omega
theorem nj{v:Value}{o:Option Int}{Q:Option Int->Shared->Prop}(p:IsPart v o)(h:Q o s):wpAny (model prog w) A (Builtin.Slice.slicePartIndex v) Q E s:=by
 cases p with
 | none=>exact slicePart_none h
 | int i t=>exact slicePart_int h
theorem gF{sl:Addr}{vl vu:Value}{lo hi:Option Int}{n:Nat}{Q:Int × Int × Nat->Shared->Prop}(hs:s.heap.IsSliceOf sl vl vu .none)(pl:IsPart vl lo)(pu:IsPart vu hi)
  (h:Q (((sIx n 0 lo:Nat):Int),1,sIx n n hi - sIx n 0 lo) s):wpAny (model prog w) A (Builtin.Slice.sliceApplied (.ref sl) (pure (n:Int))) Q E s:=by
 obtain⟨os,hos,hcs,hds⟩:=id hs
 unfold Builtin.Slice.sliceApplied Builtin.Slice.sliceFields
 refine wpAny_bind (wpAny_bind (wpAny_field hos hds (x:=vl) rfl (wpAny_bind (wpAny_field hos hds (x:=vu) rfl (wpAny_bind (wpAny_field hos hds (x:=.none) rfl (wpAny_pure ?_)))))))
 refine wpAny_bind (slicePart_none ?_)
 show wpAny _ _ (if ((1:Int) == 0)=true then _ else _) _ _ s
 rw [if_neg (by decide)]
 refine wpAny_bind (nj pl (wpAny_bind (nj pu (wpAny_bind (wpAny_pure ?_)))))
 show wpAny _ _ (match Builtin.Slice.sliceAdjust lo hi 1 (n:Int) with | (lo,hi)=>pure (lo,(1:Int),Builtin.Slice.slicePlaces lo hi 1)) _ _ s
 rw [vK lo hi n]
 show wpAny _ _ (pure (((sIx n 0 lo:Nat):Int),(1:Int),Builtin.Slice.slicePlaces ((sIx n 0 lo:Nat):Int) ((sIx n n hi:Nat):Int) 1)) _ _ s
 rw [vV]
 exact wpAny_pure h
theorem DQ(xs:Array Value)(i k:Nat):((List.range k).filterMap fun (m:Nat)=>xs[((i:Int)+(m:Int) * 1).toNat]?).toArray=((xs.toList.drop i).take k).toArray:=by
 have e:(fun (m:Nat)=>xs[((i:Int)+(m:Int) * 1).toNat]?)=fun m=>xs[i+m]?:=by
  funext m
  have:((i:Int)+(m:Int) * 1).toNat=i+m:=by omega
  rw [this]
 rw [e]
 have:=pick_run xs i k
 rw [List.filterMap_map] at this
 have e2:((fun x=>xs[x]?) ∘ fun x=>i+x)=fun m=>xs[i+m]?:=rfl
 rw [e2] at this
 rw [this]
theorem jQ{t sl:Addr}{items:Array Value}{vl vu:Value}{lo hi:Option Int}{Q:Value->Shared->Prop}(ht:IsTup s.heap t items)(hs:s.heap.IsSliceOf sl vl vu .none)(pl:IsPart vl lo)(pu:IsPart vu hi)
  (hw:¬ (sIx items.size 0 lo=0/\sIx items.size items.size hi=items.size))
  (h:Q (.ref s.heap.objs.size) { s with heap:=s.heap.push { cls:=.type "tuple",data:=.seq ((items.toList.drop (sIx items.size 0 lo)).take (sIx items.size items.size hi - sIx items.size 0 lo)).toArray } })
  (hsz:items.size<=sizeLine):wpAny (model prog w) A (getItem (.ref t) (.ref sl)) Q E s:=by
 have htake:sizeOk (.seq ((items.toList.drop (sIx items.size 0 lo)).take (sIx items.size items.size hi - sIx items.size 0 lo)).toArray):=by
  show ((items.toList.drop (sIx items.size 0 lo)).take (sIx items.size items.size hi - sIx items.size 0 lo)).toArray.size<=sizeLine
  rw [List.size_toArray,List.length_take,List.length_drop,Array.length_toList]
  omega
 have hj:sIx items.size items.size hi<=items.size:=Ke _ _ (Nat.le_refl _) hi
 obtain⟨os,hos,hcs,hds⟩:=id hs
 have hTs:s.TypeIs (.ref sl) "slice":=⟨os,hos,hcs⟩
 unfold getItem
 try with_reducible refine wpAny_holding ?_
 first | refine wpAny_bind (wpAny_pure ?_) | skip
 refine wpAny_bind (wpAny_sequenceKey ht.typeIs (by decide) ?_)
 refine wpAny_bind (wpAny_callSpecial?_slot (name:=Str.ofString "__getitem__") ht.typeIs PyProof.Rows.slot_tuple_getitem
  (wpAny_call_entry PyProof.Rows.slot_tuple_getitem ht.typeIs entry_tuple_getitem ?_ (args_tuple_getitem _ _)))
 show wpAny _ _ (Builtin.Tuple.tupleItemsOf (.ref t) >>= _) _ _ s
 refine wpAny_bind (tupleItemsOf_ ht ?_)
 refine wpAny_bind (wpAny_typeOf hTs ?_)
 rw [if_pos (by decide)]
 refine wpAny_bind (gF hs pl pu ?_)
 have hno:¬ ((((sIx items.size 0 lo:Nat):Int) == 0 && (1:Int) == 1 && (sIx items.size items.size hi - sIx items.size 0 lo) == items.size)=true):=by
  intro q
  rw [Bool.and_eq_true,Bool.and_eq_true] at q
  have q1:((sIx items.size 0 lo:Nat):Int)=0:=eq_of_beq q.1.1
  have q2:sIx items.size items.size hi - sIx items.size 0 lo=items.size:=eq_of_beq q.2
  exact hw ⟨by omega,by omega⟩
 show wpAny _ _ (if (((sIx items.size 0 lo:Nat):Int) == 0 && (1:Int) == 1 && (sIx items.size items.size hi - sIx items.size 0 lo) == items.size)=true then _ else _) _ _ s
 rw [if_neg hno,DQ]
 first
  | exact wpAny_bind (m:=Builtin.Tuple.tupleExact _) (wpAny_newObj_type (wpAny_pure ⟨_,rfl,wpAny_pure h⟩) htake)
  | exact wpAny_bind (m:=Builtin.Tuple.tupleExact _) (wpAny_newObj_type (wpAny_bind (wpAny_pure (wpAny_pure ⟨_,rfl,wpAny_pure h⟩))) htake)
  | exact wpAny_bind (wpAny_bind (m:=Builtin.Tuple.tupleExact _) (wpAny_newObj_type (wpAny_pure (wpAny_pure ⟨_,rfl,wpAny_pure h⟩)) htake))
  | exact wpAny_bind (wpAny_bind (m:=Builtin.Tuple.tupleExact _) (wpAny_newObj_type (wpAny_pure ⟨_,rfl,wpAny_pure h⟩) htake))
end
end HT
namespace L2
open PySem PySem.Spec PyProof.Rows
noncomputable abbrev TO:=St->Hp->(Option Int->Hp->Prop)->Prop
noncomputable def PO(X:Cx)(e:Option Expr)(t:TO):Prop :=
 ∀(pins:List (Addr × Obj))(s:Shared)(σ:St)(H:Hp)(Q:Option Int->Hp->Prop),Inv X pins σ H s->t σ H Q ->
  wpAny (model X.prog X.w) X.A (evalPart e X.env) (fun u s'=>∃ o H',Inv X pins σ H' s'/\IsPart u o/\Q o H') X.xe s
noncomputable def GZ:TO:=fun _ H Q=>Q none H
noncomputable def K1(t:TE):TO:=fun σ H Q=>t σ H fun x H1=>∃ i,x=.int i/\Q (some i) H1
section
variable {X:Cx}{e:Expr}{te:TE}{lo hi:Option Expr}{tl th:TO}{pos p2:Pos}
theorem cW:PO X none GZ:=by
 intro pins s σ H Q I h
 rw [evalPart_none]
 exact wpAny_pure ⟨none,H,I,.none,h⟩
theorem cX(h:PE X e te):PO X (some e) (K1 te):=by
 intro pins s σ H Q I hw
 rw [evalPart_some]
 refine thn (h pins s σ H _ I hw) fun u s1 ⟨x,H1,I1,r1,q1⟩=>?_
 obtain⟨i,rfl,q⟩:=q1
 obtain⟨t,rfl⟩:=r1
 exact⟨some i,H1,I1,.int i t,q⟩
noncomputable def SlR(X:Cx)(r:V->Option Int->Option Int->Hp->VK->Prop):Prop :=
 ∀(pins:List (Addr × Obj))(s:Shared)(σ:St)(H:Hp)(x:V)(v vl vu:Value)(lo hi:Option Int)(sl:Addr)(Q:VK),Inv X pins σ H s->RelV x v->s.heap.IsSliceOf sl vl vu .none->IsPart vl lo->IsPart vu hi->r x lo hi H Q ->
  ∃ T id,typeLookup (.type T) "__getitem__" = pure (some (.builtin id))/\s.TypeIs v T/\wpAny (model X.prog X.w) X.A (getItem v (.ref sl)) (EP X pins σ Q) X.xe s
noncomputable def tSl(r:V->Option Int->Option Int->Hp->VK->Prop)(te:TE)(tl th:TO):TE:=fun σ H Q=>te σ H fun x H1=>tl σ H1 fun l H2=>th σ H2 fun u H3=>r x l u H3 Q
theorem cH{r:V->Option Int->Option Int->Hp->VK->Prop}(hr:SlR X r)(he:PE X e te)(hl:PO X lo tl)(hu:PO X hi th):PE X (.Subscript e (.Slice lo hi none p2) pos) (tSl r te tl th):=by
 intro pins s σ H Q I h
 refine Subscript_ (thn (he pins s σ H _ I h) fun v s1 ⟨x,H1,I1,r1,q1⟩=>?_)
 refine wpAny_Slice (thn (hl pins s1 σ H1 _ I1 q1) fun vl s2 ⟨l,H2,I2,pl,q2⟩=>thn (hu pins s2 σ H2 _ I2 q2) fun vu s3 ⟨u,H3,I3,pu,q3⟩=>?_)
 rw [evalPart_none]
 refine wpAny_pure ?_
 have I4:Inv X pins σ H3 { s3 with heap:=s3.heap.push { cls:=.type "slice",data:=.fields #[vl,vu,.none] } }:=I3.kept (t':=s3.toks) fun b ob q=>Heap.get?_push_of_some _ q
 obtain⟨T,id,hT,ht,hg⟩:=hr pins { s3 with heap:=s3.heap.push { cls:=.type "slice",data:=.fields #[vl,vu,.none] } } σ H3 x v vl vu l u s3.heap.objs.size Q I4 r1 (Heap.IsSliceOf.new ..) pl pu q3
 show wpAny (model X.prog X.w) X.A (subscriptTail e (.Slice lo hi none p2) v (.ref s3.heap.objs.size)) (EP X pins σ Q) X.xe { s3 with heap:=s3.heap.push { cls:=.type "slice",data:=.fields #[vl,vu,.none] } }
 exact tail_any (ops:=[.ref s3.heap.objs.size,v]) ht hT hg (by with_unfolding_all rfl)
noncomputable def je(xs:List V)(lo hi:Option Int):List V:=(xs.drop (HT.sIx xs.length 0 lo)).take (HT.sIx xs.length xs.length hi - HT.sIx xs.length 0 lo)
theorem lO(xs:List V)(lo hi:Option Int):(je xs lo hi).length<=xs.length:=by
 unfold je
 rw [List.length_take,List.length_drop]
 omega
noncomputable def Oj(K:W.Frag):V->Option Int->Option Int->Hp->VK->Prop:=fun x lo hi H Q=>∃ a xs,x=.ref a/\SqT K H a xs /\
 ¬ (HT.sIx xs.length 0 lo=0/\HT.sIx xs.length xs.length hi=xs.length)/\∀ p,H p=none->Q (.ref p) (upd H p (.tup (je xs lo hi)))
theorem Kf:SlR X (Oj X.K):=by
 intro pins s σ H x v vl vu lo hi sl Q I rx hs pl pu h
 obtain⟨a,xs,rfl,hx,hw,q⟩:=h
 cases rx
 obtain⟨its,r,ht,hz⟩:=I.tuple hx
 have hlen:its.toArray.size=xs.length:=by rw [List.size_toArray];exact r.length.symm
 refine⟨"tuple",_,PyProof.Rows.slot_tuple_getitem.lookup,ht.typeIs,?_⟩
 refine HT.jQ ht hs pl pu (by rw [hlen];exact hw) ?_ (by rw [hlen];exact hz)
 rw [hlen]
 refine⟨.ref s.heap.objs.size,_,I.laid (t':=s.toks) (o:=.tup (je xs lo hi)) (fun b ob q=>Heap.get?_push_of_some _ q) (Nat.le_refl _) ?_,rfl,q _ (I.hok.fresh (Nat.le_refl _))⟩
 exact⟨Nat.le_trans (lO xs lo hi) hz,_,(r.drop (HT.sIx xs.length 0 lo)).take (HT.sIx xs.length xs.length hi - HT.sIx xs.length 0 lo),IsTup.new _ _⟩
noncomputable def Mg(K:W.Frag):R2:=fun x y H Q=>∃ a b xs ys,x=.ref a/\y=.ref b/\SqT K H a xs/\SqT K H b ys/\xs≠[]/\xs.length+ys.length<=sizeLine /\
 (ys=[]->Q (.ref a) H)/\(ys≠[]->∀ p,H p=none->Q (.ref p) (upd H p (.tup (xs++ys))))
theorem Vals.nil_iff{xs:List V}{us:List Value}(r:Vals xs us):us=[]↔xs=[]:=by
 cases r with
 | nil=>simp
 | cons _ _=>simp
theorem Gk:OpR X (binaryOp .Add) (Mg X.K):=by
 intro pins s σ H x y v u Q I rx ry h
 obtain⟨a,b,xs,ys,rfl,rfl,ha,hb,hx,hz,q1,q2⟩:=h
 cases rx
 cases ry
 obtain⟨its,r1,p1,_⟩:=I.tuple ha
 obtain⟨its2,r2,p2,_⟩:=I.tuple hb
 refine HT.GF p1 p2 (fun z=>hx (r1.nil_iff.mp z)) (fun z=>⟨.ref a,H,I,rfl,q1 (r2.nil_iff.mp z)⟩) (fun z=>?_) (by rw [← r1.length,← r2.length];exact hz)
 refine⟨.ref s.heap.objs.size,_,I.laid (t':=s.toks) (o:=.tup (xs++ys)) (fun b ob q=>Heap.get?_push_of_some _ q) (Nat.le_refl _) ?_,rfl,q2 (fun w=>z (r2.nil_iff.mpr w)) _ (I.hok.fresh (Nat.le_refl _))⟩
 exact⟨by rw [List.length_append];exact hz,_,r1.append r2,IsTup.new _ _⟩
end
noncomputable def ixN(n:Nat)(i:Int):Option Nat:=if 0<=i then (if i < n then some i.toNat else none) else if -(n:Int)<=i then some (i+n).toNat else none
noncomputable def atI{α:Type}(xs:List α)(i:Int):Option α:=(ixN xs.length i).bind fun j=>xs[j]?
theorem Ab{n:Nat}{i:Int}{j:Nat}(h:ixN n i=some j):seqIndex? i n=some j/\j < n/\-(n:Int)<=i/\i < n:=by
 unfold ixN at h
 by_cases h0:0<=i
 ·rw [if_pos h0] at h
  by_cases h1:i < n
  ·rw [if_pos h1] at h
   have e:i.toNat=j:=Option.some.inj h
   exact⟨by rw [seqIndex_of h0 h1,e],by omega,by omega,h1⟩
  ·rw [if_neg h1] at h;cases h
 ·rw [if_neg h0] at h
  by_cases h1:-(n:Int)<=i
  ·rw [if_pos h1] at h
   have e:(i+n).toNat=j:=Option.some.inj h
   exact⟨by rw [seqIndex_neg (by omega) h1,e],by omega,h1,by omega⟩
  ·rw [if_neg h1] at h;cases h
theorem tL{α:Type}{xs:List α}{i:Int}{v:α}(h:atI xs i=some v):∃ j,seqIndex? i xs.length=some j/\xs[j]?=some v/\j < xs.length/\-(xs.length:Int)<=i/\i < xs.length:=by
 unfold atI at h
 cases e:ixN xs.length i with
 | none=>rw [e] at h;cases h
 | some j =>
  rw [e] at h
  obtain⟨h1,h2,h3,h4⟩:=Ab e
  exact⟨j,h1,h,h2,h3,h4⟩
theorem aO{α:Type}{xs:List α}{j:Nat}{v:α}(h:xs[j]?=some v):atI xs (j:Int)=some v:=by
 have hj:j < xs.length:=(List.getElem?_eq_some_iff.mp h).1
 have e:ixN xs.length (j:Int)=some j:=by
  unfold ixN
  rw [if_pos (by omega),if_pos (by omega)];simp
 unfold atI;rw [e];exact h
theorem pB{α:Type}(xs:List α)(v:α):atI (xs++[v]) (-1)=some v:=by
 have hl:(xs++[v]).length=xs.length+1:=by simp
 have e:ixN (xs++[v]).length (-1)=some xs.length:=by
  unfold ixN
  rw [hl,if_neg (by decide),if_pos (by omega)]
  congr 1
  omega
 unfold atI
 rw [e]
 show (xs++[v])[xs.length]?=some v
 simp
noncomputable def yO(b:Expr):Prop:=∀ o i,subscripted b false o i=operate [o,i] (getItem o i)
noncomputable def IxR(X:Cx)(r:R2):Prop :=
 ∀(value slice:Expr)(pins:List (Addr × Obj))(s:Shared)(σ:St)(H:Hp)(x y:V)(v u:Value)(Q:VK),Inv X pins σ H s->RelV x v->RelV y u->r x y H Q ->
  subscripted slice false v u=operate [v,u] (getItem v u)->wpAny (model X.prog X.w) X.A (subscriptTail value slice v u) (EP X pins σ Q) X.xe s
noncomputable def MtR(X:Cx)(id:String)(r:V->List V->Hp->VK->Prop):Prop :=
 ∀(pins:List (Addr × Obj))(s:Shared)(σ:St)(H:Hp)(x:V)(xs:List V)(v:Value)(us:List Value)(Q:VK),Inv X pins σ H s->RelV x v->Vals xs us->r x xs H Q ->
  wpAny (model X.prog X.w) X.A (call (.builtin id) (v :: us)) (EP X pins σ Q) X.xe s
section
variable {X:Cx}{a b:Expr}{ta tb:TE}{pos:Pos}
theorem bx{r:R2}(hr:IxR X r)(ha:PE X a ta)(hb:PE X b tb)(hs:yO b):PE X (.Subscript a b pos) (tOp r ta tb):=by
 intro pins s σ H Q I h
 exact Subscript_ (Lz ha hb I h fun v u s2 x y H2 I2 rx ry q=>hr a b pins s2 σ H2 x y v u Q I2 rx ry q (hs _ _))
noncomputable def Kg(K:W.Frag):R2:=fun x y H Q=>∃ p xs i v,x=.ref p/\y=.int i/\SqL K H p xs/\atI xs i=some v/\Q v H
noncomputable def Ms(K:W.Frag):R2:=fun x y H Q=>∃ p xs i v,x=.ref p/\y=.int i/\SqT K H p xs/\atI xs i=some v/\Q v H
noncomputable def Ot:R2:=fun x y H Q=>∃ z i c,x=.str z/\y=.int i/\z.length<=sizeLine/\atI z.cps.toList i=some c/\Q (.str ⟨#[c]⟩) H
theorem G3:IxR X (Kg X.K):=by
 intro value slice pins s σ H x y v u Q I rx ry h hs
 obtain⟨p,xs,i,z,rfl,rfl,hq,he,q⟩:=h
 cases rx
 obtain⟨t,rfl⟩:=ry
 obtain⟨its,r,pl,hz⟩:=I.list hq
 obtain⟨j,h1,h2,h3,h4,h5⟩:=tL he
 obtain⟨w,ew,rw'⟩:=r.get h2
 have hl:=r.length
 have hn:=mX
 have fin:EP X pins σ Q w s:=⟨z,H,I,rw',q⟩
 by_cases h0:0<=i
 ·have hj:i.toNat=j:=by
   rw [seqIndex_of h0 h5] at h1
   exact Option.some.inj h1
  exact item_listR pl.isList h0 (by omega) (by rw [hj];simpa using ew) fin hs
 ·have hj:(i+(its.toArray.size:Int)).toNat=j:=by
   rw [seqIndex_neg (by omega) h4] at h1
   rw [List.size_toArray,← hl]
   exact Option.some.inj h1
  exact subscriptTail_builtinR (x:=w) pl.isList.typeIs slot_list_getitem.lookup
   (wpAny_getItem_list_neg (Q:=fun r s'=>r=w/\EP X pins σ Q r s') pl.isList (by omega) (by rw [List.size_toArray] <;> omega) (by omega) (by rw [hj];simpa using ew) ⟨rfl,fin⟩) hs
theorem uP:IxR X (Ms X.K):=by
 intro value slice pins s σ H x y v u Q I rx ry h hs
 obtain⟨p,xs,i,z,rfl,rfl,hq,he,q⟩:=h
 cases rx
 obtain⟨t,rfl⟩:=ry
 obtain⟨its,r,pl,hz⟩:=I.tuple hq
 obtain⟨j,h1,h2,h3,h4,h5⟩:=tL he
 obtain⟨w,ew,rw'⟩:=r.get h2
 have hl:=r.length
 have hn:=mX
 have fin:EP X pins σ Q w s:=⟨z,H,I,rw',q⟩
 exact subscriptTail_builtinR (x:=w) pl.typeIs slot_tuple_getitem.lookup
  (getItem_tuple (j:=j) (Q:=fun r s'=>r=w/\EP X pins σ Q r s') pl (by omega) (by omega) (by rw [List.size_toArray,← hl];exact h1) (by simpa using ew) ⟨rfl,fin⟩) hs
theorem Kh:IxR X Ot:=by
 intro value slice pins s σ H x y v u Q I rx ry h hs
 obtain⟨z,i,c,rfl,rfl,hz,he,q⟩:=h
 obtain⟨t,rfl⟩:=rx
 obtain⟨t',rfl⟩:=ry
 obtain⟨j,h1,h2,h3,h4,h5⟩:=tL he
 have hl:z.cps.toList.length=z.length:=by simp [Str.length]
 rw [hl] at h1 h4 h5
 have hn:=mX
 exact tail_any (typeIs_str s z t) slot_str_getitem.lookup (getItem_str (c:=c) (by
  have e1:decide (i < -(2 ^ 63:Int))=false:=decide_eq_false (by omega)
  have e2:decide (i ≥ 2 ^ 63)=false:=decide_eq_false (by omega)
  rw [e1,e2,Bool.or_false]) (by rw [h1];simpa using h2) ⟨.str ⟨#[c]⟩,H,I.tok _,⟨_,rfl⟩,q⟩) hs
theorem wu(its:List Value)(n j:Nat)(u:Value):Obj.mapSeq (·.setIfInBounds j u) { cls:=.type "list",data:=.seq its.toArray n }={ cls:=.type "list",data:=.seq (its.set j u).toArray n }:=by
 simp [Obj.mapSeq]
theorem Inv.lst{pins:List (Addr × Obj)}{σ:St}{H:Hp}{s:Shared}{p:Addr}{xs:List V}(I:Inv X pins σ H s)(h:H p=some (.lst xs)) :
  ∃(its:List Value)(n:Nat),Vals xs its/\s.heap.get? p=some { cls:=.type "list",data:=.seq its.toArray n }/\xs.length<=sizeLine:=by
 obtain⟨z,its,n,r,e⟩:=I.hok p _ h
 exact⟨its,n,r,e,z⟩
theorem Inv.lstUpd{pins:List (Addr × Obj)}{σ:St}{H:Hp}{s:Shared}{p:Addr}{xs ys:List V}{its its':List Value}{n n':Nat}{f:Obj->Obj}(I:Inv X pins σ H s)(h:H p=some (.lst xs))
  (ho:s.heap.get? p=some { cls:=.type "list",data:=.seq its.toArray n })(hf:f { cls:=.type "list",data:=.seq its.toArray n }={ cls:=.type "list",data:=.seq its'.toArray n' })(r:Vals ys its')(hz:ys.length<=sizeLine)(t:Nat) :
  Inv X pins σ (upd H p (.lst ys)) { s with heap:=s.heap.update p f,toks:=t }:=by
 have e:(s.heap.update p f).get? p=some { cls:=.type "list",data:=.seq its'.toArray n' }:=by
  rw [Heap.get?_update_self f ho (by rw [hf] <;> rfl),hf]
 refine I.write (x:=p) (e:=p) (by rw [h];trivial) (.inl rfl) (fun b u hb q=>(Heap.get?_update_other _ _ (Ne.symm hb)).trans q) ⟨_,e⟩ ?_
 exact⟨hz,its',n',r,e⟩
noncomputable def K4:V->V->V->Hp->(Hp->Prop)->Prop:=fun o i v H Q=>∃ p xs k j,o=.ref p/\i=.int k/\H p=some (.lst xs)/\ixN xs.length k=some j/\Q (upd H p (.lst (xs.set j v)))
theorem set_list:M5 X K4:=by
 intro pins s σ H o i v ov iv u Q I ro ri rv h
 obtain⟨p,xs,k,j,rfl,rfl,hp,hj,q⟩:=h
 cases ro
 obtain⟨t,rfl⟩:=ri
 obtain⟨its,n,r,ho,hz⟩:=I.lst hp
 obtain⟨h1,h2,h3,h4⟩:=Ab hj
 have hl:=r.length
 have hn:=mX
 have I':Inv X pins σ (upd H p (.lst (xs.set j v))) { s with heap:=s.heap.update p (Obj.mapSeq (·.setIfInBounds j u)) } :=
  I.lstUpd hp ho (wu its n j u) (r.set rv j) (by rw [List.length_set];exact hz) s.toks
 by_cases h0:0<=k
 ·have hk:k.toNat=j:=by
   rw [seqIndex_of h0 h4] at h1
   exact Option.some.inj h1
  exact W.ki_setAt ho h0 (by omega) (by rw [List.size_toArray,← hl];exact h4) (by rw [hk];exact⟨_,I',q⟩)
 ·have hk:(k+(its.toArray.size:Int)).toNat=j:=by
   rw [seqIndex_neg (by omega) h3] at h1
   rw [List.size_toArray,← hl]
   exact Option.some.inj h1
  exact W.ki_setBack ho (by omega) (by rw [List.size_toArray,← hl];exact h3) (by omega) (by rw [hk];exact⟨_,I',q⟩)
theorem pH(lo hi:Option Int)(n:Nat):(sliceBounds lo hi none n).1=((HT.sIx n 0 lo:Nat):Int)/\(sliceBounds lo hi none n).2.1=((HT.sIx n n hi:Nat):Int)/\(sliceBounds lo hi none n).2.2=1:=by
 refine⟨?_,?_,rfl⟩
 ·cases lo with
  | none=>simp [sliceBounds,HT.sIx]
  | some i =>
   simp only [sliceBounds,HT.sIx,Option.getD_none,show (1:Int) > 0 by decide,if_true]
   by_cases h:i < 0
   ·simp only [h,if_true] <;> omega
   ·simp only [h,if_false] <;> omega
 ·cases hi with
  | none=>simp [sliceBounds,HT.sIx]
  | some i =>
   simp only [sliceBounds,HT.sIx,Option.getD_none,show (1:Int) > 0 by decide,if_true]
   by_cases h:i < 0
   ·simp only [h,if_true] <;> omega
   ·simp only [h,if_false] <;> omega
theorem oY(its:List Value)(lo hi:Option Int):slicePick its.toArray lo hi none=((its.drop (HT.sIx its.length 0 lo)).take (HT.sIx its.length its.length hi - HT.sIx its.length 0 lo)).toArray:=by
 obtain⟨h1,h2,h3⟩:=pH lo hi its.toArray.size
 unfold slicePick
 rw [h1,h2,h3]
 simp only [sliceRange_one,pick_run,List.size_toArray] <;> rfl
noncomputable def NZ(K:W.Frag):V->Option Int->Option Int->Hp->VK->Prop:=fun x lo hi H Q=>∃ a xs,x=.ref a/\SqL K H a xs/\∀ p,H p=none->Q (.ref p) (upd H p (.lst (je xs lo hi)))
theorem n6:SlR X (NZ X.K):=by
 intro pins s σ H x v vl vu lo hi sl Q I rx hs pl pu h
 obtain⟨a,xs,rfl,hx,q⟩:=h
 cases rx
 obtain⟨its,r,ht,hz⟩:=I.list hx
 have hlen:=r.length
 refine⟨"list",_,slot_list_getitem.lookup,ht.isList.typeIs,?_⟩
 refine wpAny_getItem_list_slice ht.isList hs pl pu .none (by simp) ?_ (by rw [List.size_toArray] <;> omega)
 rw [oY,← hlen]
 refine⟨.ref s.heap.objs.size,_,I.laid (t':=s.toks) (o:=.lst (je xs lo hi)) (fun b ob q=>Heap.get?_push_of_some _ q) (Nat.le_refl _) ?_,rfl,q _ (I.hok.fresh (Nat.le_refl _))⟩
 exact⟨Nat.le_trans (lO xs lo hi) hz,_,0,(r.drop (HT.sIx xs.length 0 lo)).take (HT.sIx xs.length xs.length hi - HT.sIx xs.length 0 lo),Heap.get?_push_size _ rfl⟩
noncomputable def oO:V->Bool
 | .non=>true
 | .bl _=>true
 | .int _=>true
 | .str _=>true
 | _=>false
noncomputable def eqV:V->V->Bool
 | .non,.non=>true
 | .bl a,.bl b=>a == b
 | .bl a,.int b=>(if a then 1 else 0) == b
 | .int a,.bl b=>a == (if b then 1 else 0)
 | .int a,.int b=>a == b
 | .str a,.str b=>a == b
 | _,_=>false
theorem JL{A:Around}{s:Shared}{y x:V}{u v:Value}(ry:RelV y u)(rx:RelV x v)(fy:oO y=true)(fx:oO x=true):SeqAt.EqAt A s u v (eqV y x):=by
 cases y with
 | non =>
  cases ry
  cases x with
  | non=>cases rx;exact SeqAt.EqAt.same _
  | bl b=>cases rx;exact SeqAt.EqAt.none_bool b
  | int b=>obtain⟨t,rfl⟩:=rx;exact SeqAt.EqAt.none_int b t
  | str b=>obtain⟨t,rfl⟩:=rx;exact SeqAt.EqAt.none_str b t
  | _=>exact absurd (show false=true from fx) Bool.false_ne_true
 | bl a =>
  cases ry
  cases x with
  | non=>cases rx;exact SeqAt.EqAt.bool_none a
  | bl b=>cases rx;exact SeqAt.EqAt.bool_bool a b
  | int b=>obtain⟨t,rfl⟩:=rx;exact SeqAt.EqAt.bool_int a b t
  | str b=>obtain⟨t,rfl⟩:=rx;exact SeqAt.EqAt.bool_str a b t
  | _=>exact absurd (show false=true from fx) Bool.false_ne_true
 | int a =>
  obtain⟨t',rfl⟩:=ry
  cases x with
  | non=>cases rx;exact SeqAt.EqAt.int_none a t'
  | bl b=>cases rx;exact SeqAt.EqAt.int_bool a t' b
  | int b=>obtain⟨t,rfl⟩:=rx;exact SeqAt.EqAt.int_int a t' b t
  | str b=>obtain⟨t,rfl⟩:=rx;exact SeqAt.EqAt.int_str a t' b t
  | _=>exact absurd (show false=true from fx) Bool.false_ne_true
 | str a =>
  obtain⟨t',rfl⟩:=ry
  cases x with
  | non=>cases rx;exact SeqAt.EqAt.str_none a t'
  | bl b=>cases rx;exact SeqAt.EqAt.str_bool a t' b
  | int b=>obtain⟨t,rfl⟩:=rx;exact SeqAt.EqAt.str_int a t' b t
  | str b=>obtain⟨t,rfl⟩:=rx;exact SeqAt.EqAt.str_str a t' b t
  | _=>exact absurd (show false=true from fx) Bool.false_ne_true
 | _=>exact absurd (show false=true from fy) Bool.false_ne_true
noncomputable def eqU(x:V)(u:Value):Bool:=match u with
 | .none=>eqV .non x
 | .bool b=>eqV (.bl b) x
 | .int i _=>eqV (.int i) x
 | .str z _=>eqV (.str z) x
 | _=>false
theorem Fg{x y:V}{u:Value}(r:RelV y u)(f:oO y=true):eqU x u=eqV y x:=by
 cases y with
 | non=>cases r;rfl
 | bl b=>cases r;rfl
 | int i=>obtain⟨t,rfl⟩:=r;rfl
 | str z=>obtain⟨t,rfl⟩:=r;rfl
 | _=>exact absurd (show false=true from f) Bool.false_ne_true
theorem tE{x:V}:∀ {xs:List V}{us:List Value},Vals xs us->xs.all oO=true->us.any (eqU x)=xs.any fun y=>eqV y x
 | _,_,.nil,_=>rfl
 | y :: xs,u :: us,.cons r t,f=>by
  rw [List.all_cons,Bool.and_eq_true] at f
  rw [List.any_cons,List.any_cons,Fg r f.1,tE t f.2]
theorem nQ{A:Around}{s:Shared}{x:V}{v:Value}(rx:RelV x v)(fx:oO x=true):∀ {xs:List V}{us:List Value},Vals xs us->xs.all oO=true->∀ u∈us,SeqAt.EqAt A s u v (eqU x u)
 | _,_,.nil,_=>fun u hu=>by cases hu
 | y :: xs,u :: us,.cons r t,f=>fun u' hu=>by
  rw [List.all_cons,Bool.and_eq_true] at f
  rcases List.mem_cons.mp hu with rfl | hu
  ·rw [Fg r f.1];exact JL r rx f.1 fx
  ·exact nQ rx fx t f.2 u' hu
noncomputable def inV(x:V)(xs:List V):Bool:=xs.any fun y=>eqV y x
noncomputable def rIn(K:W.Frag)(neg:Bool):R2:=fun x y H Q=>∃ p xs,y=.ref p/\(SqL K H p xs\/SqT K H p xs)/\oO x=true/\xs.all oO=true/\Q (.bl (if neg then !inV x xs else inV x xs)) H
theorem xM:OpR X (compareOp .In) (rIn X.K false):=by
 intro pins s σ H x y v u Q I rx ry h
 obtain⟨p,xs,rfl,hq,fx,fs,q⟩:=h
 cases ry
 rcases hq with hq | hq
 ·obtain⟨its,r,pl,hz⟩:=I.list hq
  refine SeqAt.in_listAt (eqU x) pl.isList (fun w hw=>nQ rx fx r fs w (by simpa using hw)) ⟨.bl _,H,I,rfl,?_⟩
  rw [show its.toArray.any (eqU x)=its.any (eqU x) by simp,tE r fs]
  exact q
 ·obtain⟨its,r,pl,hz⟩:=I.tuple hq
  refine SeqAt.in_tupleAt (eqU x) pl (fun w hw=>nQ rx fx r fs w (by simpa using hw)) ⟨.bl _,H,I,rfl,?_⟩
  rw [show its.toArray.any (eqU x)=its.any (eqU x) by simp,tE r fs]
  exact q
theorem pR:OpR X (compareOp .NotIn) (fun x y H Q=>∃ i j,x=.str i/\y=.str j/\Q (.bl (!(!(Builtin.Str.occurrences j i 0 j.length 1).isEmpty))) H):=by
 intro pins s σ H x y v u Q I rx ry h
 obtain⟨i,j,rfl,rfl,q⟩:=h
 obtain⟨t,rfl⟩:=rx
 obtain⟨t',rfl⟩:=ry
 exact notIn_str ⟨.bl _,H,I,rfl,q⟩
theorem aN:gA X (.builtin "len") (fun xs H Q=>∃ p ys,xs=[.ref p]/\(SqL X.K H p ys\/SqT X.K H p ys)/\Q (.int ys.length) H):=by
 intro pins s σ H xs us Q I r h
 obtain⟨p,ys,rfl,hq,q⟩:=h
 obtain⟨u,rfl,rx⟩:=vals1 r
 cases rx
 have hn:=mX
 rcases hq with hq | hq
 ·obtain⟨its,r',pl,hz⟩:=I.list hq
  have hlen:=r'.length
  exact Calls.call_len_list pl.isList (by simp only [List.size_toArray] <;> omega) ⟨.int ys.length,H,I.tok _,⟨s.toks+1,by rw [List.size_toArray,hlen]⟩,q⟩
 ·obtain⟨its,r',pl,hz⟩:=I.tuple hq
  have hlen:=r'.length
  exact len_tuple pl (by simp only [List.size_toArray] <;> omega) ⟨.int ys.length,H,I.tok _,⟨s.toks+1,by rw [List.size_toArray,hlen]⟩,q⟩
theorem qt:gA X (.builtin "len") (fun xs H Q=>∃ z,xs=[.str z]/\z.length<=sizeLine/\Q (.int z.length) H):=by
 intro pins s σ H xs us Q I r h
 obtain⟨z,rfl,hz,q⟩:=h
 obtain⟨u,rfl,t,rfl⟩:=vals1 r
 have hn:=mX
 exact len_str (by omega) ⟨.int z.length,H,I.tok _,⟨_,rfl⟩,q⟩
theorem gC:gA X (.type "tuple") (fun xs H Q=>∃ p ys,xs=[.ref p]/\((SqL X.K H p ys/\∀ l,H l=none->Q (.ref l) (upd H l (.tup ys)))\/(SqT X.K H p ys/\Q (.ref p) H))):=by
 intro pins s σ H xs us Q I r h
 obtain⟨p,ys,rfl,h⟩:=h
 obtain⟨u,rfl,rx⟩:=vals1 r
 cases rx
 rcases h with ⟨hq,q⟩ | ⟨hq,q⟩
 ·obtain⟨its,r',pl,hz⟩:=I.list hq
  have hlen:=r'.length
  refine call_tuple_list pl.isList (fun h' kp=>?_) (by simp only [List.size_toArray] <;> omega)
  have I1:Inv X pins σ H { s with heap:=h' }:=I.kept (t':=s.toks) kp
  have I2:Inv X pins σ (upd H h'.objs.size (.tup ys)) { s with heap:=h'.push { cls:=.type "tuple",data:=.seq its.toArray } } :=
   I1.laid (t':=s.toks) (fun b o e=>Heap.get?_push_of_some _ e) (Nat.le_refl _) (show cV X.prog X.w _ _ _ (.tup ys) from ⟨hz,its,r',IsTup.new _ _⟩)
  exact⟨.ref h'.objs.size,_,I2,rfl,q _ (I1.hok.fresh (Nat.le_refl _))⟩
 ·obtain⟨its,r',pl,hz⟩:=I.tuple hq
  exact call_tuple_same pl ⟨.ref p,H,I,rfl,q⟩
noncomputable def tyV(K:W.Frag)(T:String)(x:V)(H:Hp):Prop:=match x with
 | .str _=>T = "str"
 | .int _=>T = "int"
 | .ref p=>(T = "list"/\∃ xs,SqL K H p xs)\/(T = "tuple"/\∃ o,K.lookup p=some o/\o.cls=.type "tuple"/\o.dict=none) \/
   (T = "dict"/\((∃ kvs,H p=some (.dK kvs))\/∃ kvs,H p=some (.dT kvs)))\/(T = "set"/\∃ S n,H p=some (.set S n))
 | _=>False
theorem Fy{pins:List (Addr × Obj)}{σ:St}{H:Hp}{s:Shared}{T:String}{x:V}{v:Value}(I:Inv X pins σ H s)(r:RelV x v)(ty:tyV X.K T x H) :
  s.TypeIs v T/\∀ a,v=.ref a->∃ ob,s.heap.get? a=some ob/\ob.dict=none:=by
 cases x with
 | str z =>
  obtain⟨t,rfl⟩:=r
  cases (show T = "str" from ty)
  exact⟨typeIs_str s z t,fun _ e=>nomatch e⟩
 | int i =>
  obtain⟨t,rfl⟩:=r
  cases (show T = "int" from ty)
  exact⟨typeIs_int s i t,fun _ e=>nomatch e⟩
 | ref p =>
  cases r
  rcases ty with ⟨rfl,xs,hq⟩ | ⟨rfl,o,hk,hc,hd⟩ | ⟨rfl,hk⟩ | ⟨rfl,S,n,hk⟩
  ·obtain⟨its,_,pl,_⟩:=I.list hq
   refine⟨pl.isList.typeIs,fun a e=>?_⟩
   cases e
   obtain⟨o,n,e,c,hd,_⟩:=pl
   exact⟨o,e,hd⟩
  ·refine⟨⟨o,I.kIn p o hk,hc⟩,fun a e=>?_⟩
   cases e
   exact⟨o,I.kIn _ o hk,hd⟩
  ·have z:∃ o,s.heap.get? p=some o/\o.ExactDict:=by
    rcases hk with ⟨kvs,hk⟩ | ⟨kvs,hk⟩
    ·obtain⟨_,_,_,_,o,_,_,e,ex,_⟩:=I.hok p _ hk
     exact⟨o,e,ex⟩
    ·obtain⟨_,_,_,_,o,_,_,e,ex,_⟩:=I.hok p _ hk
     exact⟨o,e,ex⟩
   obtain⟨o,e,ex⟩:=z
   refine⟨⟨o,e,ex.1⟩,fun a e2=>?_⟩
   cases e2
   exact⟨o,e,ex.2.1⟩
  ·obtain⟨o,_,_,_,e,ex,_⟩:=I.hok p _ hk
   refine⟨⟨o,e,ex.1⟩,fun a e2=>?_⟩
   cases e2
   exact⟨o,e,ex.2.1⟩
 | _=>exact False.elim ty
noncomputable def M8(K:W.Frag)(T:String)(r:V->List V->Hp->VK->Prop)(to:TE):TE:=fun σ H Q=>to σ H fun x H1=>tyV K T x H1/\r x [] H1 Q
noncomputable def tBM(K:W.Frag)(T:String)(r:V->List V->Hp->VK->Prop)(to:TE)(t:TA):TE:=fun σ H Q=>to σ H fun x H1=>tyV K T x H1/\t σ H1 fun xs H2=>r x xs H2 Q
variable {o e:Expr}{es:List Expr}{to:TE}{t:TA}{name:Str}{apos cpos:Pos}{T id:String}{r:V->List V->Hp->VK->Prop}
theorem pJ(pa:PlainAttrs T)(slot:Slot T name id)(hty:typeOf (.builtin id)=pure (.type "method_descriptor"))(hm:MtR X id r)(ho:PE X o to)
  (hbase:attributeBase o name X.env (eval o X.env)=eval o X.env:=by rfl)(hline:(apos.endLine == cpos.line)=true:=by rfl):PE X (.Call (.Attribute o name apos) [] [] cpos) (M8 X.K T r to):=by
 intro pins s σ H Q I h
 refine wpAny_Call_method0_late hbase hline (thn (ho pins s σ H _ I h) fun v s1 ⟨x,H1,I1,r1,ty,q1⟩=>?_)
 obtain⟨h1,h2⟩:=Fy I1 r1 ty
 exact⟨T,id,pa,slot,hty,h1,h2,Calls.callWith_builtin rfl (PySem.evalArgs_none (hm pins s1 σ H1 x [] v [] Q I1 r1 .nil q1))⟩
theorem Gr(pa:PlainAttrs T)(slot:Slot T name id)(hty:typeOf (.builtin id)=pure (.type "method_descriptor"))(hm:MtR X id r)(ho:PE X o to)(ha:PA X (e :: es) t)
  (hbase:attributeBase o name X.env (eval o X.env)=eval o X.env:=by rfl)
  (hfew:((backTo cpos (starEach (e :: es) X.env)).all (fun x=>!x.1) && (backToKw cpos (keywordEach [] X.env)).all (fun x=>x.1.isSome)
   && decide ((e :: es).length+([]:List Keyword).length+(if ([]:List Keyword).isEmpty then 0 else 1) < 30))=true:=by rfl)
  (hline:(apos.endLine == cpos.line)=true:=by rfl)(hs:starEach (e :: es) X.env=(false,eval e X.env) :: starEach es X.env:=by rfl)(hplain:(backTo cpos (starEach es X.env)).any (·.1)=false:=by rfl) :
  PE X (.Call (.Attribute o name apos) (e :: es) [] cpos) (tBM X.K T r to t):=by
 intro pins s σ H Q I h
 refine wpAny_Call_method_late hbase hfew hline rfl (thn (ho pins s σ H _ I h) fun v s1 ⟨x,H1,I1,r1,ty,q1⟩=>?_)
 obtain⟨h1,h2⟩:=Fy I1 r1 ty
 refine⟨T,id,pa,slot,hty,h1,h2,?_⟩
 have hA:=ha cpos pins s1 σ H1 _ I1 q1
 rw [hs] at hA ⊢
 refine Calls.callWith_builtin (by show (false || (backTo cpos (starEach es X.env)).any (·.1))=false;rw [hplain] <;> rfl) (Calls.evalArgs_plain ?_)
 exact thn hA fun us s2 ⟨vs,H2,I2,r2,q2⟩=>hm pins s2 σ H2 x vs v us Q I2 r1 r2 q2
end
noncomputable def MtM(X:Cx)(id:String)(r:V->List V->Hp->VK->Prop):Prop :=
 ∀(pins:List (Addr × Obj))(s:Shared)(σ:St)(H:Hp)(x:V)(xs:List V)(v:Value)(us:List Value)(Q:VK),Inv X pins σ H s->RelV x v->Vals xs us->r x xs H Q ->
  wpAny (model X.prog X.w) X.A (call (.builtin id) (v :: us)) (EP X pins σ Q) X.xe s
theorem Vals.one{x:V}{us:List Value}(h:Vals [x] us):∃ u,us=[u]/\RelV x u:=by
 cases h with
 | cons r t=>
  cases t
  exact⟨_,rfl,r⟩
theorem Vals.two{x y:V}{us:List Value}(h:Vals [x,y] us):∃ u v,us=[u,v]/\RelV x u/\RelV y v:=by
 cases h with
 | cons r t=>
  obtain⟨v,rfl,q⟩:=Vals.one t
  exact⟨_,_,rfl,r,q⟩
theorem Vals.zero:∀ {us:List Value},Vals [] us->us=[]
 | _,.nil=>rfl
theorem Vals.eraseIdx:∀ {xs:List V}{us:List Value} (i:Nat),Vals xs us->Vals (xs.eraseIdx i) (us.eraseIdx i)
 | _,_,_,.nil=>.nil
 | _,_,0,.cons _ t=>t
 | _,_,i+1,.cons r t=>.cons r (Vals.eraseIdx i t)
theorem Vals.reverse{xs:List V}{us:List Value}(h:Vals xs us):Vals xs.reverse us.reverse:=by
 induction h with
 | nil=>exact .nil
 | cons r t ih=>rw [List.reverse_cons,List.reverse_cons];exact Vals.append ih (.cons r .nil)
theorem Vals.rep{xs:List V}{us:List Value}(h:Vals xs us):∀ k:Nat,Vals (List.replicate k xs).flatten (List.replicate k us).flatten
 | 0=>.nil
 | k+1=>by
  rw [List.replicate_succ,List.replicate_succ,List.flatten_cons,List.flatten_cons]
  exact Vals.append h (Vals.rep h k)
theorem pO{α:Type}:∀(l:List α)(i:Nat),(l.eraseIdx i).length<=l.length
 | [],_=>Nat.le_refl _
 | _ :: _,0=>Nat.le_succ _
 | _ :: r,i+1=>Nat.succ_le_succ (pO r i)
theorem foldl_rep(its:List Value):∀(k:Nat)(acc:List Value),
  List.foldl (fun x1 x2=>x1++x2) acc.toArray (List.replicate k its.toArray)=(acc++(List.replicate k its).flatten).toArray
 | 0,acc=>by simp
 | k+1,acc=>by
  have e:acc.toArray++its.toArray=(acc++its).toArray:=by simp
  have e2:(acc++its)++(List.replicate k its).flatten=acc++(List.replicate (k+1) its).flatten:=by
   rw [List.replicate_succ,List.flatten_cons,List.append_assoc]
  rw [← e2,← foldl_rep its k (acc++its),← e,List.replicate_succ,List.foldl_cons]
section
variable {X:Cx}{pins:List (Addr × Obj)}{σ:St}{H:Hp}{s:Shared}{l b:Addr}{xs ys zs:List V}
theorem Inv.lset{its its':List Value}{n:Nat}{f:Array Value->Array Value}{t':Nat}(I:Inv X pins σ H s)(hH:H l=some (.lst xs))
  (e:s.heap.get? l=some { cls:=.type "list",data:=.seq its.toArray n })(hf:f its.toArray=its'.toArray)(hv:Vals ys its')(hz:ys.length<=sizeLine) :
  Inv X pins σ (upd H l (.lst ys)) { s with heap:=s.heap.update l (Obj.mapSeq f),toks:=t' }:=by
 have q:=PySem.IsL.update e f
 rw [hf] at q
 refine I.write (x:=l) (e:=l) (by rw [hH];exact trivial) (.inl rfl) (fun b' u hb hu=>(Heap.get?_update_other s.heap (Obj.mapSeq f) (Ne.symm hb)).trans hu) ⟨_,q⟩ ?_
 exact⟨hz,its',_,hv,q⟩
theorem Inv.lnew{its:List Value}{t':Nat}(I:Inv X pins σ H s)(hv:Vals ys its)(hz:ys.length<=sizeLine) :
  Inv X pins σ (upd H s.heap.objs.size (.lst ys)) { s with heap:=s.heap.push { cls:=.type "list",data:=.seq its.toArray },toks:=t' } :=
 I.laid (fun _ _ q=>Heap.get?_push_of_some _ q) (Nat.le_refl _) ⟨hz,its,0,hv,Heap.get?_push_size _ rfl⟩
theorem Inv.fresh(I:Inv X pins σ H s):H s.heap.objs.size=none:=I.hok.fresh (Nat.le_refl _)
theorem Inv.lstM(I:Inv X pins σ H s)(hH:H l=some (.lst xs)):xs.length<=sizeLine/\∃(its:List Value)(n:Nat),Vals xs its/\xs.length=its.length/\s.heap.get? l=some { cls:=.type "list",data:=.seq its.toArray n }:=by
 obtain⟨z,its,n,r,e⟩:=I.hok l _ hH
 exact⟨z,its,n,r,r.length,e⟩
theorem u9{n:Nat}(h:n<=sizeLine):Builtin.List.listTooLong n=false:=by
 unfold Builtin.List.listTooLong
 exact decide_eq_false (by omega)
end
section
variable {X:Cx}
noncomputable def Hz:V->List V->Hp->VK->Prop:=fun x vs H Q=>∃ l xs y,x=.ref l/\vs=[y]/\H l=some (.lst xs)/\xs.length < sizeLine/\Q .non (upd H l (.lst (xs++[y])))
theorem bN:MtM X "list.append" Hz:=by
 intro pins s σ H x vs v us Q I rx rv h
 obtain⟨l,xs,y,rfl,rfl,hH,hz,q⟩:=h
 cases rx
 obtain⟨u,rfl,ru⟩:=rv.one
 obtain⟨z,its,n,r,hl,e⟩:=I.lstM hH
 refine call_meets F.slot_list_append ⟨_,e,rfl⟩ F.entry_list_append (F.args_list_append_2 _ _) (PySem.list_append l its.toArray n u (by rw [List.size_toArray];omega)) ⟨e,?_⟩
 refine⟨.non,_,I.lset (its':=its++[u]) hH e (by simp) (r.append (.cons ru .nil)) ?_,rfl,q⟩
 rw [List.length_append,List.length_singleton]
 omega
noncomputable def FW:V->List V->Hp->VK->Prop:=fun x vs H Q=>∃ l b xs zs,x=.ref l/\vs=[.ref b]/\H l=some (.lst xs)/\H b=some (.lst zs)/\xs.length+zs.length<=sizeLine/\Q .non (upd H l (.lst (xs++zs)))
theorem zu:MtM X "list.extend" FW:=by
 intro pins s σ H x vs v us Q I rx rv h
 obtain⟨l,b,xs,zs,rfl,rfl,hH,hB,hz,q⟩:=h
 cases rx
 obtain⟨u,rfl,ru⟩:=rv.one
 cases ru
 obtain⟨z,its,n,r,hl,e⟩:=I.lstM hH
 obtain⟨z2,its2,n2,r2,hl2,e2⟩:=I.lstM hB
 have hsz:its.toArray.size+its2.toArray.size<=sizeLine:=by rw [List.size_toArray,List.size_toArray];omega
 have hlong:¬ (!its.toArray.isEmpty && Builtin.List.listTooLong (its.toArray.size+its2.toArray.size))=true:=by
  rw [u9 hsz,Bool.and_false]
  exact Bool.false_ne_true
 refine call_meets F.slot_list_extend ⟨_,e,rfl⟩ F.entry_list_extend (F.args_list_extend_2 _ _)
  (AutoSeq1.list_extend_list_list_0 l its.toArray n b its2.toArray n2 hlong (by rw [List.size_toArray];omega) (by omega)) ⟨e,e2,?_⟩
 refine⟨.non,_,I.lset (its':=its++its2) hH e (by simp) (r.append r2) ?_,rfl,q⟩
 rw [List.length_append]
 omega
noncomputable def Km:V->List V->Hp->VK->Prop:=fun x vs H Q=>∃ l xs i k y,x=.ref l/\vs=[.int i]/\H l=some (.lst xs)/\-(2 ^ 63)<=i/\i < 2 ^ 63/\seqIndex? i xs.length=some k/\xs[k]?=some y/\Q y (upd H l (.lst (xs.eraseIdx k)))
theorem Dt:MtM X "list.pop" Km:=by
 intro pins s σ H x vs v us Q I rx rv h
 obtain⟨l,xs,i,k,y,rfl,rfl,hH,h1,h2,hk,hy,q⟩:=h
 cases rx
 obtain⟨u,rfl,ru⟩:=rv.one
 obtain⟨t,rfl⟩:=ru
 obtain⟨z,its,n,r,hl,e⟩:=I.lstM hH
 obtain⟨w,hw,rw'⟩:=r.get hy
 refine call_meets F.slot_list_pop ⟨_,e,rfl⟩ F.entry_list_pop (F.args_list_pop_2 _ _)
  (MeetsSeq.list_pop_at l its.toArray n i t k w (fitsIndex_both h1 h2) (by rw [List.size_toArray,← hl];exact hk) (by rw [← Array.getElem?_toList];exact hw) (by rw [List.size_toArray];omega)) ⟨e,?_⟩
 refine⟨y,_,I.lset (its':=its.eraseIdx k) hH e ?_ (r.eraseIdx k) ?_,rw',q⟩
 ·show its.toArray.eraseIdxIfInBounds k=(its.eraseIdx k).toArray
  rw [List.eraseIdxIfInBounds_toArray]
 ·have:=pO xs k
  omega
noncomputable def OJ:R2:=fun x y H Q=>∃ l b xs zs,x=.ref l/\y=.ref b/\H l=some (.lst xs)/\H b=some (.lst zs)/\xs.length+zs.length<=sizeLine/\∀ p,H p=none->Q (.ref p) (upd H p (.lst (xs++zs)))
theorem Bp:OpR X (binaryOp .Add) OJ:=by
 intro pins s σ H x y v u Q I rx ry h
 obtain⟨l,b,xs,zs,rfl,rfl,hH,hB,hz,q⟩:=h
 cases rx
 cases ry
 obtain⟨z,its,n,r,hl,e⟩:=I.lstM hH
 obtain⟨z2,its2,n2,r2,hl2,e2⟩:=I.lstM hB
 refine PySem.P.add_list e e2 ?_ (by rw [List.size_toArray,List.size_toArray];omega)
 have ea:its.toArray++its2.toArray=(its++its2).toArray:=by simp
 rw [ea]
 exact⟨.ref _,_,I.lnew (t':=s.toks) (r.append r2) (by rw [List.length_append];omega),rfl,q _ I.fresh⟩
noncomputable def Nz:R2:=fun x y H Q=>∃ l k xs,x=.ref l/\y=.int k/\H l=some (.lst xs)/\-(2 ^ 63)<=k/\k < 2 ^ 63/\xs.length * k.toNat<=sizeLine /\
 ∀ p,H p=none->Q (.ref p) (upd H p (.lst (List.replicate k.toNat xs).flatten))
theorem len_rep{α:Type}(xs:List α)(k:Nat):(List.replicate k xs).flatten.length=k * xs.length:=by
 induction k with
 | zero=>simp
 | succ k ih=>rw [List.replicate_succ,List.flatten_cons,List.length_append,ih,Nat.succ_mul,Nat.add_comm]
theorem Fl:OpR X (binaryOp .Mult) Nz:=by
 intro pins s σ H x y v u Q I rx ry h
 obtain⟨l,k,xs,rfl,rfl,hH,h1,h2,hz,q⟩:=h
 cases rx
 obtain⟨t,rfl⟩:=ry
 obtain⟨z,its,n,r,hl,e⟩:=I.lstM hH
 have hlen:its.toArray.size * k.toNat<=sizeLine:=by rw [List.size_toArray,← hl];exact hz
 have hcap:¬ its.toArray.size * k.toNat > (2 ^ 63 - 1) / 8:=by
  have:(sizeLine:Nat)<=(2 ^ 63 - 1) / 8:=by decide
  omega
 have hfit:¬ (!Builtin.List.listFitsIndex k)=true:=by
  rw [fitsIndex_both h1 h2]
  exact Bool.false_ne_true
 have hlong:¬ Builtin.List.listTooLong (its.toArray.size * k.toNat)=true:=by
  rw [u9 hlen]
  exact Bool.false_ne_true
 have hnew:List.foldl (fun x1 x2=>x1++x2) #[] (List.replicate (if its.toArray.isEmpty=true then 0 else k.toNat) its.toArray)=(List.replicate k.toNat its).flatten.toArray:=by
  have f0:∀ m:Nat,List.foldl (fun x1 x2=>x1++x2) #[] (List.replicate m its.toArray)=(List.replicate m its).flatten.toArray:=fun m=>by
   have:=foldl_rep its m []
   rw [List.nil_append] at this
   exact this
  rw [f0]
  cases its with
  | nil=>simp
  | cons a r'=>rw [if_neg (by simp)]
 refine wpAny_binaryOp_repeat_ref (T:="list") (U:="int") (by decide) ⟨_,e,rfl⟩ (fun s'=>typeIs_int s' k t) noFill_list_mul F.fills_int_mul F.slot_int_rmul repeat_list F.slot_int_index.lookup
  (call_meets F.slot_int_rmul (typeIs_int s k t) F.entry_int_rmul (F.args_int_rmul_2 _ _) (int___rmul___int_list k t l its.toArray n)
   ⟨e,rfl,⟨_,e,rfl⟩,call_meets F.slot_list_mul ⟨_,e,rfl⟩ F.entry_list_mul (F.args_list_mul_2 _ _) (AutoListH.list___mul___list_int_3 l its.toArray n k t hfit hcap hlong) ⟨e,?_⟩⟩)
 rw [hnew]
 exact⟨.ref _,_,I.lnew (t':=s.toks) (r.rep k.toNat) (by rw [len_rep,Nat.mul_comm];exact hz),rfl,q _ I.fresh⟩
end
section
variable {prog:Program}{w:World}{A:Around}{E:Value->Shared->Prop}{s:Shared}
end
section
variable {X:Cx}
end
end L2
namespace Att
open PySem PySem.W PySem.Calls PyProof.Rows
theorem lW{P:Params}{h:Heap}:∀(ns:List Int)(vs:List Value),WellAll P h vs (ns.map WData.int)->IntsAre vs ns:=by
 intro ns
 induction ns with
 | nil =>
  intro vs w
  rw [List.map_nil] at w
  cases w
  exact .nil
 | cons n ns ih =>
  intro vs w
  rw [List.map_cons] at w
  cases w with
  | cons a b =>
   cases a
   exact .cons _ _ (ih _ b)
theorem xW{l:OpenLaw}{n:Nat}(hn:l.most=some n){P:Params}{h:Heap}{args:List WData}{vals:List Value}
  (hpre:l.row.toRowW.claim.pre args=true)(hwl:WellAll P h vals args) :
  ∃ a vs ns,vals=[Value.ref a]/\args=[WData.list (ns.map WData.int)]/\h.get? a=some { cls:=.type "list",data:=.seq vs.toArray }/\IntsAre vs ns/\ns.length<=n:=by
 have hsh:WShape.hasAll [] args [.list .int]=true:=(pre_splitW hpre).1
 have hc:l.pre.holds [] { args:=args }=true:=(pre_splitW hpre).2
 obtain⟨d,r,rfl,h1,h2⟩:=hasAllW_cons hsh
 obtain rfl:=hasAllW_nil h2
 obtain⟨xs,rfl,h3⟩:=hasW_list h1
 obtain⟨ns,rfl⟩:=items_int h3
 have hlen:ns.length<=n:=by
  unfold OpenLaw.pre at hc
  have h4:(WTm.not (.lt (.lit (.int (n:Int))) (.len (.arg 0)))).holds [] { args:=[.list (ns.map .int)] }=true:=by
   have h4:=(holds_andW hc).1
   rw [hn] at h4
   exact h4
  have h5:=condW_of h4 (w_not (w_lt w_lit (w_len_list (w_arg rfl))))
  rw [List.length_map] at h5
  refine Nat.le_of_not_lt fun q=>?_
  have q':(n:Int) < ((ns.length:Nat):Int):=by omega
  first
   | (rw [decide_eq_true q'] at h5;exact absurd h5 (by decide))
   | (simp at h5;omega)
 cases hwl with
 | cons w1 w2 =>
  cases w2
  cases w1 with
  | list ho hall=>exact⟨_,_,ns,rfl,rfl,ho,lW ns _ hall,hlen⟩
theorem Bd(l:OpenLaw)(args:List WData):l.row.toRowW.claim.post args (.bool true) args=true :=
 postW_of (r:=l.row.toRowW) (X:=(true == true))
  (show WShape.has [] (.bool true) .bool=true by first | rfl | decide | simp [WShape.has,WShape.arms,WShape.armsAll])
  (show (WTm.eq .res (.lit (.bool true))).value [] { args:=args,res:=some (.bool true),after:=args }=some (.bool (true == true)) from w_eq_bool (w_res rfl) w_lit) rfl
theorem sy{l:OpenLaw}{n:Nat}{q:Program}{loose:List Str}{XP:(Str->Option Value)->Heap->Prop}{YP:World->Heap->Prop}{d:DefRec}
  (hn:l.most=some n)(hdf:d.params.defaults=[])
  (call:∀(w:World)(s₀ s₁:Shared)(mg mb:Str->Option Value)(fa:Addr)(o:Obj)(pm cd doc:Value)(a:Addr)(vs:List Value)(ns:List Int),
   Ground q loose [] XP w s₀ mg mb s₁.heap->YP w s₁.heap ->
   s₁.heap.get? fa=some o->o.data=.func (docDef d.name d.params d.body d.scope pm cd doc)->s₁.heap.CodeRec cd d.name->mg d.name=some (.ref fa) ->
   s₁.heap.get? a=some { cls:=.type "list",data:=.seq vs.toArray }->IntsAre vs ns->ns.length<=n->s₁.gens = #[] ->
   codeAny (model l.prog w) callerA (.call (.ref fa) ⟨[.ref a],[]⟩) (fun r s'=>r=.ok (.ret (.bool true))/\OldK s₁.heap s'.heap/\s'.os=s₁.os/\AllBare s'.gens) s₁) :
  WalkO q loose XP YP l.row.toRowW d [] (fun f vs=>PySem.call f vs):=by
 intro w s₀ s₁ mg mb G Y fa o pm cd doc dV kV ho hd hcd hD hmg hg args vals as hpre hlay hrd hwl hlo
 obtain rfl:dV=.none:=Dflts.none hD hdf
 obtain rfl:kV=.none:=Dflts.noKw hD
 obtain⟨a,vs,ns,rfl,rfl,hobj,hints,hlen⟩:=xW hn hpre hwl
 refine enter_call (codeAny_mono (call w s₀ s₁ mg mb fa o pm cd doc a vs ns G Y ho (fd_plain hd) hcd hmg hobj hints hlen hg) fun r s' hq=>?_)
 obtain⟨rfl,h2,h3,h4⟩:=hq
 exact⟨.inl ⟨.bool true,.bool true,[],rfl,fun _=>rfl,.bool true,Bd l _,fun _=>⟨List.Pairwise.nil,fun _ hm=>(nomatch hm)⟩⟩,h2,h3,h4⟩
section
variable {prog:Program}{w:World}{A:Around}{E:Value->Shared->Prop}{s:Shared}{K:Frag}
noncomputable def ledger(h:Heap)(L d:Addr):List (Addr × Obj):=(List.range h.objs.size).filterMap fun a=>if a=L\/a=d then none else (h.get? a).map fun o=>(a,o)
end
end Att
namespace L2
open PySem PySem.Spec PyProof.Rows
theorem qG:∀ {vs:List Value}{ns:List Int},IntsAre vs ns->Vals (ns.map V.int) vs
 | _,_,.nil=>.nil
 | _,_,.cons n t h=>.cons ⟨t,rfl⟩ (qG h)
noncomputable def Only(H:Hp):Prop:=∀ b,H b=none\/∃ o xs,H b=some (.frz o (.lst xs))
theorem Cq{P:Program}{w:World}{K:W.Frag}{mg mb:Str->Option Value}{CX:CXT}{k:Nat}{fa a:Addr}{fd:FuncData}{x:Str}{sp:Sp}{s₁:Shared}{vs:List Value}{ns:List Int}
  (KX:K.In s₁.heap)(hns:s₁.heap.Ns mainGlobals mg)(hb:s₁.heap.Ns builtinsNs mb)(hbb:∀ x:Str,x ≠ "__name__"->mb x=bootBuiltins x)(hlim:s₁.heap.NoLimit)(hg:s₁.gens = #[])
  (ha:s₁.heap.get? a=some { cls:=.type "list",data:=.seq vs.toArray })(hi:IntsAre vs ns)(hl:ns.length<=sizeLine)(hr:kJ k callerA)
  (F:∀ base:Heap,K.In base->base.Ns mainGlobals mg->oR P w K mg base CX k fa fd [x] sp)(hbind:∀(s:Shared)(u:Value),BindsTo s fd ⟨[u],[]⟩ [(x,u)])
  (hsp:∀ H:Hp,Only H->SqL K H a (ns.map V.int)->sp [.ref a] H (fun v _=>v=.bl true) fun _ _ _=>False)
  (hCX:∀ H e s',CX [] H s₁ (fun _ _ _=>False) e s'->False) :
  codeAny (model P w) callerA (.call (.ref fa) ⟨[.ref a],[]⟩) (fun r s'=>r=.ok (.ret (.bool true))/\OldK s₁.heap s'.heap/\s'.os=s₁.os/\AllBare s'.gens) s₁:=by
 have rv:=qG hi
 have lenV:=hi.length
 have core:∀ H:Hp,Only H->SqL K H a (ns.map V.int)->HOk P w H s₁.heap->(∀ b,H b≠none->b=a)->(H a≠none->K.lookup a=none) ->
   codeAny (model P w) callerA (.call (.ref fa) ⟨[.ref a],[]⟩) (fun r s'=>r=.ok (.ret (.bool true))/\OldK s₁.heap s'.heap/\s'.os=s₁.os/\AllBare s'.gens) s₁:=by
  intro H hO hS hok hA hK
  have base_of:∀ {b:Addr}{o:Obj},s₁.heap.get? b=some o->H b=none->(Cd s₁.heap H).get? b=some o:=fun e n=>BZ e n
  have noA:∀ {b:Addr}{o:Obj}{es:Array DictEntry}{ep:Nat},s₁.heap.get? b=some o->o.data=.dict es ep->H b=none:=fun {b o es ep} e d=>by
   cases q:H b with
   | none=>rfl
   | some u =>
    have e':b=a:=hA b (by rw [q];simp)
    subst e'
    rw [ha] at e;cases e
    have d':Data.seq vs.toArray _=Data.dict es ep:=d
    cases d'
  have nsK:∀ {b:Addr}{m:Str->Option Value},s₁.heap.Ns b m->(Cd s₁.heap H).Ns b m:=fun {b m} ⟨o,es,ep,e,d,r⟩=>⟨o,es,ep,base_of e (noA e d),d,r⟩
  have hKb:K.In (Cd s₁.heap H):=fun b o e=>base_of (KX b o e) (by
   cases q:H b with
   | none=>rfl
   | some u =>
    have e':b=a:=hA b (by rw [q];simp)
    subst e'
    rw [hK (by rw [q];simp)] at e;cases e)
  have hM:Mod K mg (Cd s₁.heap H):=⟨hKb,nsK hns,⟨mb,nsK hb,hbb⟩,let ⟨mc,h1,h2⟩:=hlim;⟨mc,nsK h1,h2⟩⟩
  have e0:JN P w K mg (Cd s₁.heap H) callerA [] s₁ H:=⟨rfl,hM,fun b o e=>Gs e,Nat.le_of_eq (xY _ _),trivial,fun b hb=>absurd (show b∈([]:List Addr) from hb) (by simp),hok,.of_eq hg⟩
  refine codeAny_mono ((F _ hKb (nsK hns)).run callerA [] s₁ H ⟨[.ref a],[]⟩ [.ref a] [.ref a] _ _ hr e0 (hbind s₁ (.ref a)) (.cons rfl .nil) (hsp H hO hS)) fun r s' h=>?_
  cases r with
  | error e=>exact (hCX H e s' h).elim
  | ok fl =>
   cases fl with
   | next=>exact False.elim h
   | brk=>exact False.elim h
   | cont=>exact False.elim h
   | ret u =>
    obtain⟨v,H',os,bare,un,hok',r',q⟩:=h
    have q':v=.bl true:=q
    subst q'
    obtain rfl:u=Value.bool true:=r'
    refine⟨rfl,OldK.of_keep fun b o e=>?_,os,bare⟩
    cases q:H b with
    | none=>exact un.keep b o e q (by intro z;exact absurd (show b∈([]:List Addr) from z) (by simp)) (by simp)
    | some u =>
     rcases hO b with z | ⟨ob,xs,z⟩
     ·rw [q] at z;cases z
     ·have z2:=un.frzs b ob _ z
      obtain⟨e1,_⟩:=hok b _ z
      obtain⟨e2,_⟩:=hok' b _ z2
      rw [e] at e1;cases e1
      exact e2
 cases hk:K.lookup a with
 | some o =>
  have e:=KX a o hk
  rw [ha] at e
  cases e
  refine core (fun _=>none) (fun _=>.inl rfl) (.inr ⟨_,vs.toArray,_,hk,rfl,rfl,rfl,by rw [List.size_toArray,lenV];exact hl,by simpa using rv⟩) (fun b u z=>by have z':(none:Option HO)=some u:=z;cases z') (fun b z=>absurd rfl z) fun z=>absurd rfl z
 | none =>
  refine core (fun b=>if b=a then some (.frz { cls:=.type "list",data:=.seq vs.toArray } (.lst (ns.map V.int))) else none) (fun b=>?_) (.inl (.inr ⟨{ cls:=.type "list",data:=.seq vs.toArray },if_pos rfl⟩)) (fun b u z=>?_) (fun b z=>?_) fun _=>hk
  ·by_cases hb:b=a
   ·exact .inr ⟨_,_,if_pos hb⟩
   ·exact .inl (if_neg hb)
  ·by_cases hb:b=a
   ·have z':=(if_pos hb).symm.trans z
    cases z'
    subst hb
    exact⟨ha,by rw [List.length_map];exact hl,vs,_,rv,ha⟩
   ·have z':=(if_neg hb).symm.trans z
    cases z'
  ·by_cases hb:b=a
   ·exact hb
   ·exact absurd (if_neg hb) z
noncomputable abbrev KOf{K:W.Frag}{h:Heap}(_:K.In h):W.Frag:=K
theorem Hw{l:W.OpenLaw}{n k:Nat}{q:Program}{loose:List Str}{XP:(Str->Option Value)->Heap->Prop}{YP:World->Heap->Prop}{d:DefRec}{K:Params->W.Frag}{CX:World->CXT}{sp:World->Sp}{x:Str}
  (hn:l.most=some n)(hn2:n<=sizeLine)(hdf:d.params.defaults=[])(hr:kJ k callerA)
  (hY:∀(w:World)(h:Heap),YP w h->(K w.params).In h)
  (F:∀(w:World)(mg:Str->Option Value)(fa:Addr)(h:Heap),(K w.params).In h->h.Ns mainGlobals mg->mg d.name=some (.ref fa) ->
   ∃ fd:FuncData,(∀(s:Shared)(u:Value),BindsTo s fd ⟨[u],[]⟩ [(x,u)]) /\
    ∀ base:Heap,(K w.params).In base->base.Ns mainGlobals mg->oR l.prog w (K w.params) mg base (CX w) k fa fd [x] (sp w))
  (hsp:∀(w:World)(H:Hp)(a:Addr)(ns:List Int),ns.length<=n->Only H->SqL (K w.params) H a (ns.map V.int)->sp w [.ref a] H (fun v _=>v=.bl true) fun _ _ _=>False)
  (hCX:∀(w:World)(H:Hp)(s:Shared)(e:Value)(s':Shared),CX w [] H s (fun _ _ _=>False) e s'->False) :
  W.WalkO q loose XP YP l.row.toRowW d [] (fun f vs=>PySem.call f vs):=by
 refine Att.sy hn hdf fun w s₀ s₁ mg mb fa o pm cd doc a vs ns G Y ho hd hcd hmg hobj hints hlen hg=>?_
 have KX:=hY w _ Y
 obtain⟨fd,hb,hF⟩:=F w mg fa _ KX G.T.g hmg
 exact Cq KX G.T.g G.T.b G.T.builtins G.T.nolimit hg hobj hints (Nat.le_trans hlen hn2) hr hF hb (fun H hO hS=>hsp w H a ns hlen hO hS) fun H e s'=>hCX w H s₁ e s'
noncomputable def gU(s:Stmt):Arguments:=match s with
 | .FunctionDef _ a _ _ _ _ _ _ _ _=>a
 | _=>{ posonlyargs:=[],args:=[],vararg:=none,kwonlyargs:=[],kw_defaults:=[],kwarg:=none,defaults:=[] }
noncomputable def fQ(s:Stmt):List Stmt:=match s with
 | .FunctionDef _ _ b _ _ _ _ _ _ _=>b
 | _=>[]
noncomputable def aB(s:Stmt):Scope:=match s with
 | .FunctionDef _ _ _ _ _ _ sc _ _ _=>sc
 | _=>{ kind:=.function,names:=[],isGenerator:=false,isCoroutine:=false }
noncomputable abbrev CX0:CXT:=fun _ _ _ _ _ _=>False
noncomputable abbrev E0:XK:=fun _ _ _=>False
theorem Jc{X:Cx}:Passes CX0 X E0:=fun _ _ _ _ _ _ _ h=>h.elim
structure Fun(K:W.Frag)(x qual:Str)(st:Stmt)(f:Addr)(fd:FuncData):Prop where
 ex:∃(oc:Value)(od:Option Addr)(kV doc pm:Value)(an:Option Addr)(cdv ct:Value)(osl:Array (Option Value)),
  fd=W.fnOf x qual (gU st) (fQ st) (aB st) .none kV doc pm an cdv ct/\K.lookup f=some ⟨oc,od,.func fd,osl⟩/\W.codeIn K cdv qual=true
 kp:W.keepIn K (.ref f)=true
section
variable {P:Program}{w:World}{K:W.Frag}{mg:Str->Option Value}{base:Heap}
theorem Fun.ok{x qual:Str}{st:Stmt}{f:Addr}{fd:FuncData}{N ps:List Str}{k:Nat}{sp:Sp}(F:Fun K x qual st f fd)(S:aQ N ps (aB st))(len:∀ vs H Q E,sp vs H Q E->vs.length=ps.length)
  (hbody:∀(cdv:Value)(A:Around)(outer:List Env)(s:Shared)(H:Hp)(vs:List V)(Q:VK)(E:XK),kJ k (A.deeper (envOfC qual (aB st) s.heap.objs.size f cdv))->sp vs H Q E ->
   ∃ t,PSs (Gx CX0 P w K mg base N qual (aB st) f cdv A outer s H E).nox (fQ st) t/\t { nx:=fun _ H'=>Q .non H',rt:=Q } (start N vs) H):oR P w K mg base CX0 (k+1) f fd ps sp:=by
 obtain⟨oc,od,kV,doc,pm,an,cdv,ct,osl,rfl,lk,hcd⟩:=F.ex
 refine Lw lk hcd S len fun A outer s H vs Q E hr hsp=>?_
 obtain⟨t,h,q⟩:=hbody cdv A outer s H vs Q E hr hsp
 exact⟨t,h.nox,q⟩
theorem Fun.binds{x qual:Str}{st:Stmt}{f:Addr}{fd:FuncData}{ps:List Str}(F:Fun K x qual st f fd)
  (h:∀(kV doc pm:Value)(an:Option Addr)(cdv ct:Value)(us:List Value),us.length=ps.length->bindArgs (W.fnOf x qual (gU st) (fQ st) (aB st) .none kV doc pm an cdv ct) ⟨us,[]⟩=pure (ps.zip us)):Binds K fd ps []:=by
 obtain⟨oc,od,kV,doc,pm,an,cdv,ct,osl,rfl,lk,hcd⟩:=F.ex
 exact .all (h kV doc pm an cdv ct)
theorem Fd{x qual:Str}{st:Stmt}{f:Addr}{oc:Value}{od an:Option Addr}{osl:Array (Option Value)}{kV doc pm cdv ct:Value}(l:K.lookup f=some ⟨oc,od,.func (W.fnOf x qual (gU st) (fQ st) (aB st) .none kV doc pm an cdv ct),osl⟩)
  (c:W.codeIn K cdv qual=true)(k:W.keepIn K (.ref f)=true):Fun K x qual st f (W.fnOf x qual (gU st) (fQ st) (aB st) .none kV doc pm an cdv ct):=⟨⟨oc,od,kV,doc,pm,an,cdv,ct,osl,rfl,l,c⟩,k⟩
end
theorem vN{A:Around}{k:Nat}(hr:kJ k A):A.units+1 < cLine:=Nat.lt_of_le_of_lt (Nat.add_le_add_left (by decide:1<=64) _) hr.units
theorem aK{n:Nat}(h:n<=1000):n < sizeLine:=Nat.lt_of_le_of_lt h (by decide)
section
variable {X:Cx}
noncomputable def Lp(sc:Scope)(x:Str):Bool:=match sc.names.lookup x with | some .local=>true | some .cell=>true | some .free=>true | _=>false
theorem Lx{sc:Scope}{x:Str}(h:Lp sc x=true):Vis sc x:=by
 unfold Lp at h
 unfold Vis
 generalize sc.names.lookup x = o at h ⊢
 cases o with
 | none=>exact Bool.noConfusion h
 | some k=>cases k<;>first | exact .inl rfl | exact .inr (.inl rfl) | exact .inr (.inr rfl) | exact Bool.noConfusion h
theorem pv(i:Nat){x:Str}{pos:Pos}(hN:X.N[i]?=some x:=by rfl)(hv:Lp X.env.scope x=true:=by rfl)(hd:(x == ("__debug__" : Str))=false:=by decide)
  (hcd:(x == ("__classdict__" : Str))=false:=by decide):PE X (.Name x pos) (vM i):=Ks hN (Lx hv) hd hcd
end
theorem oZ{A B:Prop}(h:B):if false=true then A else B:=by
 rw [if_neg Bool.false_ne_true]
 exact h
theorem eZ{A B:Prop}(h:A):if true=true then A else B:=by
 rw [if_pos rfl]
 exact h
theorem cU{c A B:Prop}[Decidable c](h1:c->A)(h2:¬ c->B):if c then A else B:=by
 by_cases h:c
 ·rw [if_pos h]
  exact h1 h
 ·rw [if_neg h]
  exact h2 h
noncomputable def Same(H H':Hp):Prop:=∀ b o,H b=some o->H' b=some o
theorem Same.refl(H:Hp):Same H H:=fun _ _ h=>h
theorem Same.trans{H H1 H2:Hp}(a:Same H H1)(b:Same H1 H2):Same H H2:=fun c o h=>b c o (a c o h)
theorem Same.seq{K:W.Frag}{H H':Hp}{a:Addr}{xs:List V}(e:Same H H')(h:SqL K H a xs):SqL K H' a xs:=by
 rcases h with (h | ⟨o,h⟩) | h
 ·exact .inl (.inl (e _ _ h))
 ·exact .inl (.inr ⟨o,e _ _ h⟩)
 ·exact .inr h
end L2
set_option maxHeartbeats 4000000
namespace L2
open PySem PySem.Spec PyProof.Rows
theorem gO{env:Env}:∀(names:List (Str × NameKind))(acc:List (Str × Addr)),(∀ y∈names,y.2=.free->∃ c,env.cells.lookup y.1=some c) ->
  ∃ cl,(forIn names acc (fun (x:Str × NameKind) (cs:List (Str × Addr))=>(if x.2 == .free then (do let c ← cellOf env x.1;pure (ForInStep.yield ((x.1,c) :: cs))) else pure (ForInStep.yield cs):Sem (ForInStep (List (Str × Addr))))))=pure cl /\
   (∀ y∈names,y.2=.free->∃ c,cl.lookup y.1=some c)/\(∀ y c,acc.lookup y=some c->∃ d,cl.lookup y=some d)/\(∀ y c,cl.lookup y=some c->env.cells.lookup y=some c\/acc.lookup y=some c)
 | [],acc,_=>⟨acc,rfl,(fun _ h=>nomatch h),(fun y c h=>⟨c,h⟩),(fun y c h=>.inr h)⟩
 | (n,k) :: r,acc,h=>by
  rw [List.forIn_cons]
  by_cases hk:k=.free
  ·subst hk
   obtain⟨c,hc⟩:=h (n,.free) List.mem_cons_self rfl
   obtain⟨cl,e,h1,h2,h3⟩:=gO r ((n,c) :: acc) fun y hy=>h y (List.mem_cons_of_mem _ hy)
   refine⟨cl,?_,?_,?_,?_⟩
   ·have e0:cellOf env n=pure c:=by unfold cellOf;rw [hc]
    simp only [beq_self_eq_true,if_true,e0,pure_bind]
    exact e
   ·intro y hy hf
    rcases List.mem_cons.mp hy with rfl | hy
    ·exact h2 n c (by simp)
    ·exact h1 y hy hf
   ·intro y d hd
    by_cases e1:y=n
    ·subst e1;exact h2 y c (by simp)
    ·exact h2 y d (by rw [List.lookup_cons,beq_eq_false_iff_ne.mpr e1];exact hd)
   ·intro y d hd
    rcases h3 y d hd with q | q
    ·exact .inl q
    ·by_cases e1:y=n
     ·subst e1
      simp at q
      exact .inl (by rw [← q];exact hc)
     ·rw [List.lookup_cons,beq_eq_false_iff_ne.mpr e1] at q
      exact .inr q
  ·have hb:(k == NameKind.free)=false:=by simpa using hk
   obtain⟨cl,e,h1,h2,h3⟩:=gO r acc fun y hy=>h y (List.mem_cons_of_mem _ hy)
   refine⟨cl,?_,?_,h2,h3⟩
   ·simp only [hb,Bool.false_eq_true,if_false,pure_bind]
    exact e
   ·intro y hy hf
    rcases List.mem_cons.mp hy with rfl | hy
    ·exact absurd hf hk
    ·exact h1 y hy hf
theorem nF{scope:Scope}{env:Env}(h:∀ y∈scope.names,y.2=.free->∃ c,env.cells.lookup y.1=some c) :
  ∃ cl,closureFor scope env=pure cl/\(∀ y∈scope.names,y.2=.free->∃ c,cl.lookup y.1=some c)/\∀ y c,cl.lookup y=some c->env.cells.lookup y=some c:=by
 obtain⟨cl,e,h1,_,h3⟩:=gO scope.names [] h
 refine⟨cl,?_,h1,fun y c q=>(h3 y c q).elim id fun z=>by simp at z⟩
 rw [← e]
 unfold closureFor
 simp only [bind_pure]
theorem gK{env:Env}:∀ {names:List (Str × NameKind)}{x:Str},names.lookup x=some .free ->
  (names.map fun (n,k)=>if (k == NameKind.free && env.scope.kind == .function && env.kindOf n == some .cell) then (n,NameKind.cell) else (n,k)).lookup x=some .cell \/
  (names.map fun (n,k)=>if (k == NameKind.free && env.scope.kind == .function && env.kindOf n == some .cell) then (n,NameKind.cell) else (n,k)).lookup x=some .free
 | [],_,h=>by simp at h
 | (n,k) :: r,x,h=>by
  have ih:=@gK env r x
  rw [List.map_cons]
  cases hx:x == n with
  | true =>
   simp only [List.lookup_cons,hx] at h
   cases h
   by_cases hc:(NameKind.free == NameKind.free && env.scope.kind == .function && env.kindOf n == some .cell)=true
   ·left;simp only [if_pos hc,List.lookup_cons,hx]
   ·right;simp only [if_neg hc,List.lookup_cons,hx]
  | false =>
   simp only [List.lookup_cons,hx] at h
   by_cases hc:(k == NameKind.free && env.scope.kind == .function && env.kindOf n == some .cell)=true
   ·simp only [if_pos hc,List.lookup_cons,hx];exact ih h
   ·simp only [if_neg hc,List.lookup_cons,hx];exact ih h
theorem iV{env:Env}:∀ {names:List (Str × NameKind)}{x:Str}{k':NameKind},
  (names.map fun (n,k)=>if (k == NameKind.free && env.scope.kind == .function && env.kindOf n == some .cell) then (n,NameKind.cell) else (n,k)).lookup x=some k'->(k'=.cell\/k'=.free) ->
  ∃ k,(x,k)∈names/\(k=.cell\/k=.free)
 | [],_,_,h,_=>by simp at h
 | (n,k) :: r,x,k',h,hk=>by
  have ih:=@iV env r x k'
  rw [List.map_cons] at h
  cases hx:x == n with
  | true =>
   have e:x=n:=by simpa using hx
   subst e
   by_cases hc:(k == NameKind.free && env.scope.kind == .function && env.kindOf x == some .cell)=true
   ·refine⟨k,List.mem_cons_self,.inr ?_⟩
    simp only [Bool.and_eq_true,beq_iff_eq] at hc
    exact hc.1.1
   ·simp only [if_neg hc,List.lookup_cons,beq_self_eq_true] at h
    cases h
    exact⟨k,List.mem_cons_self,hk⟩
  | false =>
   have h':(r.map fun (n,k)=>if (k == NameKind.free && env.scope.kind == .function && env.kindOf n == some .cell) then (n,NameKind.cell) else (n,k)).lookup x=some k':=by
    by_cases hc:(k == NameKind.free && env.scope.kind == .function && env.kindOf n == some .cell)=true
    ·simpa only [if_pos hc,List.lookup_cons,hx] using h
    ·simpa only [if_neg hc,List.lookup_cons,hx] using h
   obtain⟨q,m,z⟩:=ih h' hk
   exact⟨q,List.mem_cons_of_mem _ m,z⟩
noncomputable abbrev cN(X:Cx)(scope:Scope)(N:List Str)(cl:List (Str × Addr))(C:Addr)(s:Shared)(H:Hp)(ex:List Addr)(pn:List (Addr × Obj))(E:Value->Shared->Prop):Cx :=
 { X with N:=N,s₀:=s,H₀:=H,env:=compEnvC scope cl C X.env,outer:=X.stack,stack:=X.stack,ex:=ex,fn:=fun _=>false,pn:=pn,xe:=E }
theorem vC{X:Cx}{pins:List (Addr × Obj)}{σ σ':St}{H:Hp}{s:Shared}{scope:Scope}{N:List Str}{cl:List (Str × Addr)}{fp:List Addr}{E:Value->Shared->Prop}{h1:Heap}{t:Nat}
  (I:Inv X pins σ H s)(hkind:scope.kind=.function)(hcell:∀ y∈scope.names,y.2≠.cell)(hfree:∀ y∈scope.names,y.2=.free->X.env.kindOf y.1=some .cell\/X.env.kindOf y.1=some .free)
  (hcl1:∀ y∈scope.names,y.2=.free->∃ c,cl.lookup y.1=some c)(hcl2:∀ y c,cl.lookup y=some c->X.env.cells.lookup y=some c)
  (hf:∀ b∈fp,vL X pins H b)(hfo:∀ b∈fp,∃ o,s.heap.get? b=some o)
  (hl:σ'.length=N.length)(hσ:∀(i:Nat)(x:Str)(v:V),N[i]?=some x->σ'[i]?=some (some v)->scope.names.lookup x=some .free/\∃ j:Nat,X.N[j]?=some x/\σ[j]?=some (some v))
  (hns:h1.Ns s.heap.objs.size (fun _=>none))(hold:∀ b o,s.heap.get? b=some o->h1.get? b=some o) :
  Inv (cN X scope N cl s.heap.objs.size s H fp (X.pn++pins) E) [] σ' H { s with heap:=h1,toks:=t }:=by
 have szc:∀ b o,s.heap.get? b=some o->b≠s.heap.objs.size:=fun b o e=>Nat.ne_of_lt (Heap.lt_size e)
 have okY:(cN X scope N cl s.heap.objs.size s H fp (X.pn++pins) E).Ok:=by
  refine⟨I.ok.mod,hkind,I.ok.glob,I.ok.blt,Nat.le_refl _,fun x y c e1 e2=>I.ok.inj x y c (hcl2 _ _ e1) (hcl2 _ _ e2),fun x hx=>?_,fun x c hfn _=>?_,I.ok.hd,I.ok.frames,.inl rfl,fun b hb=>⟨?_,fun x c e z=>?_⟩,I.bs,Nat.le_trans I.ok.bsz I.sz,fun b o e hb=>?_,fun b hb z=>?_,I.stack,I.stkFree⟩
  ·have hx':(relabel scope X.env).names.lookup x=some .cell\/(relabel scope X.env).names.lookup x=some .free:=hx
   have q:∃ k,(x,k)∈scope.names/\(k=.cell\/k=.free):=by
    rcases hx' with z | z
    ·exact iV z (.inl rfl)
    ·exact iV z (.inr rfl)
   obtain⟨k,hm,hk⟩:=q
   rcases hk with rfl | rfl
   ·exact absurd rfl (hcell _ hm)
   ·exact hcl1 _ hm rfl
  ·exact absurd (show false=true from hfn) (by decide)
  ·obtain⟨o,e⟩:=hfo b hb
   exact szc b o e
  ·exact (hf b hb).2.2.2.2.1 x c (hcl2 _ _ e) z
  ·rcases (hf b hb).2.2.2.1 with z | z
   ·exact I.ok.noex b o e z
   ·exact absurd (Nat.lt_of_lt_of_le (Heap.lt_size e) (Nat.le_trans I.ok.bsz z)) (Nat.lt_irrefl _)
  ·rcases List.mem_cons.mp (I.stkSub b z) with q | q
   ·exact (hf b hb).2.1 q
   ·exact (hf b hb).2.2.1 q
 obtain⟨m,hn,hlook⟩:=id I.loc
 refine⟨okY,rfl,I.bare,Un.kept hold,⟨_,hns,fun i x v e1 e2 _=>?_⟩,fun x c e=>?_,I.hok.fresh (Nat.le_refl _),fun x c e=>I.freeC x c (hcl2 _ _ e),fun p hp=>?_,I.hok.kept hold,hl⟩
 ·obtain⟨hfr,j,ej,es⟩:=hσ i x v e1 e2
  have hm:(x,NameKind.free)∈scope.names:=PySem.mem_of_lookup hfr
  have hk:=hfree _ hm rfl
  have hv:Vis X.env.scope x:=by
   rcases hk with z | z
   ·exact .inr (.inl z)
   ·exact .inr (.inr z)
  obtain⟨u,r,l⟩:=hlook j x v ej es hv
  refine⟨u,r,.inr ⟨?_,?_⟩⟩
  ·exact gK hfr
  ·rcases l with ⟨k,_⟩ | ⟨_,c,ec,hc⟩
   ·rcases hk with z | z <;> (rw [k] at z;cases z)
   ·obtain⟨d,hd⟩:=hcl1 _ hm rfl
    have e:=hcl2 _ _ hd
    have ec':X.env.cells.lookup x=some d:=e
    rw [ec] at ec';cases ec'
    obtain⟨o,ho,hod⟩:=hc
    exact⟨c,hd,o,hold c o ho,hod⟩
 ·obtain⟨v,o,ho,hod⟩:=I.cell x c (hcl2 _ _ e)
  exact⟨v,o,hold c o ho,hod⟩
 ·have hp':p∈X.pn++pins:=by simpa using hp
  obtain⟨a1,a2,a3,a4,a5⟩:=I.pin p hp'
  refine⟨hold _ _ a1,a2,szc _ _ a1,fun z=>?_,a5⟩
  rcases List.mem_cons.mp (I.stkSub _ z) with q | q
  ·exact a3 q
  ·exact a4 q
noncomputable def Im(X:Cx)(ifs:List Expr)(t:TT):Prop :=
 ∀(pins:List (Addr × Obj))(s:Shared)(σ:St)(H:Hp)(Q:Bool->Hp->Prop),Inv X pins σ H s->t σ H Q ->
  wpAny (model X.prog X.w) X.A (forIn ifs true fun c r=>if r=true then do let ok ← isTrue c X.env (eval c X.env);pure (ForInStep.yield ok) else pure (ForInStep.yield r)) (TP X pins σ Q) X.xe s
noncomputable def Ij:TT:=fun _ H Q=>Q true H
theorem bC{X:Cx}:Im X [] Ij:=fun _ _ _ H _ I h=>wpAny_tests_nil ⟨H,I,h⟩
theorem jG{X:Cx}{c:Expr}{t:TT}(h:PT X c t):Im X [c] t:=fun pins s σ H Q I hw=>wpAny_tests_one (h pins s σ H Q I hw)
section
variable {prog:Program}{w:World}{A:Around}{R:Result->Shared->Prop}{s:Shared}
theorem eO{elt target iter:Expr}{ifs:List Expr}{scope:Scope}{pos:Pos}{it acc:Value}{env:Env}(I:Nat->Shared->Prop)
  (turn:∀ n s,I n s->wpAny (model prog w) A (pyNext it) (fun r s₁=>match r with
   | none=>R (.ok .next) s₁
   | some v=>wpAny (model prog w) A (letOwnedTupleGo target it v) (fun _ s₁'=>wpAny (model prog w) A (assign target env v) (fun _ s₂ =>
     wpAny (model prog w) A (forIn ifs true fun c r=>if r=true then do let ok ← isTrue c env (eval c env);pure (ForInStep.yield ok) else pure (ForInStep.yield r)) (fun ok s₃ =>
      if ok=true then wpAny (model prog w) A (eval elt env) (fun x s₄ =>
       wpAny (model prog w) A (call (.builtin "list.append") [acc,x]) (fun _ s₅=>∃ m,m < n/\I m s₅) (notedBy (model prog w) A env fun e s'=>R (.error e) s') s₄) (notedBy (model prog w) A env fun e s'=>R (.error e) s') s₃
      else ∃ m,m < n/\I m s₃) (notedBy (model prog w) A env fun e s'=>R (.error e) s') s₂) (notedBy (model prog w) A env fun e s'=>R (.error e) s') s₁') (notedBy (model prog w) A env fun e s'=>R (.error e) s') s₁)
    (notedBy (model prog w) A env fun e s'=>R (.error e) s') s)
  (n:Nat)(h:I n s) :
  codeAny (model prog w) A (.compLoop (.ListComp elt [⟨target,iter,ifs,0⟩] scope pos) 0 it acc env) R s:=by
 refine codeAny_loop rfl I (fun n s hI=>?_) n h
 show wpAny _ A ((compTurn (.ListComp elt [⟨target,iter,ifs,0⟩] scope pos) 0 it acc env).onRaise (fun x=>do noteFrame x env;theTreesLotGoes x)) _ _ s
 refine wpAny_noted ?_
 rw [compTurn_list]
 refine wpAny_bind (wpAny_standAt (wpAny_bind (wpAny_mono (turn n s hI) (fun r s₁ h₁=>?_) fun _ _ h'=>h')))
 cases r with
 | none=>exact wpAny_pure h₁
 | some v =>
  refine wpAny_bind (wpAny_mono h₁ (fun _ s₁' h₁'=>?_) fun _ _ h'=>h')
  refine wpAny_bind (wpAny_mono h₁' (fun _ s₂ h₂=>wpAny_bind (wpAny_mono h₂ (fun ok s₃ h₃=>?_) fun _ _ h'=>h')) fun _ _ h'=>h')
  cases ok with
  | false=>exact wpAny_pure ⟨rfl,h₃⟩
  | true =>
   exact wpAny_bind (wpAny_bind (wpAny_mono h₃ (fun x s₄ h₄=>wpAny_bind (wpAny_mono h₄ (fun _ s₅ h₅=>wpAny_pure (wpAny_pure ⟨rfl,h₅⟩)) fun _ _ h'=>h')) fun _ _ h'=>h'))
end
noncomputable def CK(wi:TI)(g:TG)(tc:TT)(te:TE)(lift:St->St):TE:=fun σ H Q=>wi σ H fun J H1=>∀ l,H1 l=none->∃ W:Nat->Nat->St->Hp->Prop,(∃ m,W 0 m (lift σ) (upd H1 l (.lst [])))/\∀ i m σ H,W i m σ H ->
 (J.stop i H/\Q (.ref l) H)\/(J.go i H/\∃ N:St->Hp->Prop,(∀ σ' H',N σ' H'->∃ m',m' < m/\W (i+1) m' σ' H') /\
  ∀ x H',J.yld i H x H'->g x σ H' fun σ2 H2=>tc σ2 H2 fun b H3=>if b=true then te σ2 H3 fun v H4=>∃ ys,H4 l=some (.lst ys)/\ys.length < sizeLine/\N σ2 (upd H4 l (.lst (ys++[v]))) else N σ2 H3)
theorem HF{X:Cx}{elt tg iter:Expr}{ifs:List Expr}{scope:Scope}{pos:Pos}{wi:TI}{g:TG}{tc:TT}{te:TE}(N:List Str)(lift:St->St)(hc:X.calm=true)(hi:PI X tg iter wi)
  (hkind:scope.kind=.function)(hcell:∀ y∈scope.names,y.2≠.cell)(hfree:∀ y∈scope.names,y.2=.free->X.env.kindOf y.1=some .cell\/X.env.kindOf y.1=some .free)
  (hnames:∀ y∈scope.names,y.2=.local->scope.names.lookup y.1=some .local)
  (hlen:∀ σ:St,σ.length=X.N.length->(lift σ).length=N.length)
  (hσ:∀(σ:St)(i:Nat)(x:Str)(v:V),σ.length=X.N.length->N[i]?=some x->(lift σ)[i]?=some (some v)->scope.names.lookup x=some .free/\∃ j:Nat,X.N[j]?=some x/\σ[j]?=some (some v))
  (hg:∀ cl C s H ex pn E,PG (cN X scope N cl C s H ex pn E) tg g)(ht:∀ cl C s H ex pn E,Im (cN X scope N cl C s H ex pn E) ifs tc)(he:∀ cl C s H ex pn E,PE (cN X scope N cl C s H ex pn E) elt te)
  (hs:∀ x,foldedSetIterable iter X.env x=pure x:=by intro _;rfl) :
  PE X (.ListComp elt [⟨tg,iter,ifs,0⟩] scope pos) (CK wi g tc te lift):=by
 intro pins s σ H Q I h
 rw [eval_ListComp]
 obtain⟨cl,hclos,hcl1,hcl2⟩:=nF (scope:=scope) (env:=X.env) fun y hy hf=>I.ok.has y.1 (hfree y hy hf)
 refine wpAny_comprehension_free (use:=none) rfl hs hclos hkind hnames (thn (hi pins s σ H _ I h) fun v s1 h1=>thn h1 fun itv s2 h2=>?_)
 obtain⟨it,fp,tn,J,H2,e,I2,T,st2,f2,q⟩:=h2
 subst e
 refine wpAny_newObj_type (wpAny_newFunctionEnv hcell (by intro y hy;simp at hy) (fun h₁ hns₁ hsb₁=>?_) hkind)
 have I3:Inv X pins σ (upd H2 s2.heap.objs.size (.lst [])) { s2 with heap:=s2.heap.push { cls:=.type "list",data:=.seq ([]:List Value).toArray } }:=I2.lnew (its:=[]) (t':=s2.toks) .nil (Nat.zero_le _)
 have fr:H2 s2.heap.objs.size=none:=I2.fresh
 have hold:∀ b o,(s2.heap.push { cls:=.type "list",data:=.seq ([]:List Value).toArray }).get? b=some o->h₁.get? b=some o:=fun b o e=>hsb₁.extBut b o (Nat.ne_of_lt (Heap.lt_size e)) (Heap.get?_push_of_some _ e)
 have f3:∀ b∈fp,vL X pins (upd H2 s2.heap.objs.size (.lst [])) b:=fun b hb=>by
  obtain⟨o,eo,_⟩:=T.obj 0 _ st2 b hb
  exact⟨by rw [aL (Nat.ne_of_lt (Heap.lt_size eo))];exact (f2 b hb).1,(f2 b hb).2⟩
 have fo:∀ b∈fp,∃ o,(s2.heap.push { cls:=.type "list",data:=.seq ([]:List Value).toArray }).get? b=some o:=fun b hb=>by
  obtain⟨o,eo,_⟩:=T.obj 0 _ st2 b hb
  exact⟨o,Heap.get?_push_of_some _ eo⟩
 generalize hP:s2.heap.push { cls:=.type "list",data:=.seq ([]:List Value).toArray }=P at *
 obtain⟨W,⟨m0,w0⟩,turn⟩:=q s2.heap.objs.size fr
 generalize hL:s2.heap.objs.size=L at *
 let R:Result->Shared->Prop:=compPost (model X.prog X.w) X.A X.xe none (EP X pins σ Q) (.ref L) P.objs.size
 let Y:Cx:=cN X scope N cl P.objs.size { s2 with heap:=P } (upd H2 L (.lst [])) fp (X.pn++pins) (notedBy (model X.prog X.w) X.A (compEnvC scope cl P.objs.size X.env) fun e s'=>R (.error e) s')
 have IY:Inv Y [] (lift σ) (upd H2 L (.lst [])) { s2 with heap:=h₁,toks:=s2.toks+([]:List (Str × Value)).length } :=
  vC (s:={ s2 with heap:=P }) I3 hkind hcell hfree hcl1 hcl2 f3 fo (hlen σ I.len) (fun i x v=>hσ σ i x v I.len) hns₁ hold
 have stY:tn 0 h₁:=T.keep _ _ _ st2 fun b hb o e=>hold b o (by rw [← hP];exact Heap.get?_push_of_some _ e)
 have fC:∀ b∈fp,b≠P.objs.size/\(b∈fp):=fun b hb=>by
  obtain⟨o,eo⟩:=fo b hb
  exact⟨Nat.ne_of_lt (Heap.lt_size eo),hb⟩
 have fpY:∀ {H':Hp},(∀ b∈fp,H' b=none)->∀ b∈fp,vL Y [] H' b:=fun {H'} hn b hb=>by
  refine⟨hn b hb,(fC b hb).1,fun z=>?_,.inl hb,fun x c ex=>(f3 b hb).2.2.2.2.1 x c (hcl2 _ _ ex),fun p hp=>?_⟩
  ·rcases List.mem_cons.mp (I3.stkSub b z) with y | y
   ·exact (f3 b hb).2.1 y
   ·exact (f3 b hb).2.2.1 y
  ·have hp':p∈(X.pn++pins)++[]:=hp
   rw [List.append_nil] at hp'
   exact (f3 b hb).2.2.2.2.2 p hp'
 have loop:∀ s4:Shared,s4={ s2 with heap:=h₁,toks:=s2.toks+([]:List (Str × Value)).length } ->
   codeAny (model X.prog X.w) X.A (.compLoop (.ListComp elt [⟨tg,iter,ifs,0⟩] scope pos) 0 (.ref it) (.ref L) (compEnvC scope cl P.objs.size X.env)) R s4:=by
  rintro s4 rfl
  refine eO (fun n s'=>∃ i σ' H',Inv Y [] σ' H' s'/\tn i s'.heap/\(∀ b∈fp,H' b=none)/\W i n σ' H') ?_ m0 ⟨0,_,_,IY,stY,fun b hb=>(f3 b hb).1,w0⟩
  rintro n s5 ⟨i,σ5,H5,I5,st5,fr5,w5⟩
  rcases turn i n σ5 H5 w5 with ⟨stop,qn⟩ | ⟨go,Nx,hNx,step⟩
  ·refine thn (T.done Y rfl rfl rfl hc i [] s5 σ5 H5 Y.xe I5 (fpY fr5) st5 stop) fun r s6 ⟨hr,I6⟩=>?_
   subst hr
   show R (.ok .next) s6
   obtain⟨m6,hn6,_⟩:=id I6.loc
   have IX:Inv X pins σ H5 s6:=I3.call' (s':=s6) (ch:=fp) I6.os I6.base I6.hok I6.bare fun b hb=>⟨(f3 b hb).2.2.2.1,(f3 b hb).2.1,(f3 b hb).2.2.2.2.1,(f3 b hb).2.2.2.2.2⟩
   refine⟨m6,hn6,fun h' sb=>⟨.ref L,H5,IX.turned (t':=s6.toks) (it:=P.objs.size) (fun b o hb e=>(sb.2 b hb).trans e) I6.free (Nat.ne_of_gt I3.lt) (.inr I3.sz) (fun x c ec z=>?_) fun p hp z=>?_,rfl,qn⟩⟩
   ·obtain⟨v0,qv⟩:=I3.cell x c ec
    exact absurd qv.lt (by rw [z];exact Nat.lt_irrefl _)
   ·have z0:=Heap.lt_size (I3.pin p hp).1
    exact absurd z0 (by rw [z];exact Nat.lt_irrefl _)
  ·refine thn (T.item Y rfl rfl rfl hc i [] s5 σ5 H5 Y.xe I5 (fpY fr5) st5 go) fun r s6 ⟨u,hr,h6⟩=>?_
   subst hr
   refine thn h6 fun _ s7 ⟨x,H7,I7,r7,y7,st7,fr7⟩=>?_
   have I7':=I7.pinned (fpY fr7) (T.obj _ _ st7)
   refine thn (hg _ _ _ _ _ _ _ _ s7 σ5 H7 x u _ I7' r7 (step x H7 y7)) fun _ s8 ⟨σ8,H8,I8,q8⟩=>?_
   refine thn (ht _ _ _ _ _ _ _ _ s8 σ8 H8 _ I8 q8) fun ok s9 ⟨H9,I9,q9⟩=>?_
   have again:∀ {sx:Shared}{Hx:Hp},Inv Y ([]++mU fp s7.heap) σ8 Hx sx->Nx σ8 Hx->∃ m,m < n/\∃ i σ' H',Inv Y [] σ' H' sx/\tn i sx.heap/\(∀ b∈fp,H' b=none)/\W i m σ' H':=fun {sx Hx} Ix nx=>by
    obtain⟨m',hm,wx⟩:=hNx σ8 Hx nx
    refine⟨m',hm,i+1,σ8,Hx,Ix.unpinned,T.keep _ _ _ st7 fun b hb o e=>(Ix.pin (b,o) (List.mem_append_right _ (List.mem_append_right _ (fu hb e)))).1,fun b hb=>?_,wx⟩
    obtain⟨o,e,d⟩:=T.obj _ _ st7 b hb
    exact (Ix.pin (b,o) (List.mem_append_right _ (List.mem_append_right _ (fu hb e)))).2.1
   cases ok with
   | false =>
    rw [if_neg Bool.false_ne_true] at q9 ⊢
    exact again I9 q9
   | true =>
    rw [if_pos rfl] at q9 ⊢
    refine thn (he _ _ _ _ _ _ _ _ s9 σ8 H9 _ I9 q9) fun y s10 ⟨v10,H10,I10,r10,ys,hys,hz,q10⟩=>?_
    refine thn (bN (X:=Y) _ s10 σ8 H10 (.ref L) [v10] (.ref L) [y] (fun _ H'=>Nx σ8 H') I10 rfl (.cons r10 .nil) ⟨L,ys,v10,rfl,rfl,hys,hz,q10⟩) fun _ s11 ⟨_,H11,I11,_,q11⟩=>?_
    exact again I11 q11
 exact codeAny_compStart_list (loop _ rfl) (T.self X.A 0 _ _ _ stY (loop _ rfl))
theorem bL{J:It}{g:TG}{tc:TT}{te:TE}{R:Hp->Prop}{l:Addr}{σ0:St}{H0:Hp}(n:Nat)(Pv:Nat->St->Hp->Prop)(h0:Pv 0 σ0 H0)(hstop:∀ σ H,Pv n σ H->J.stop n H/\R H)
  (hgo:∀ i σ H,i < n->Pv i σ H->J.go i H/\∀ x H',J.yld i H x H'->g x σ H' fun σ2 H2=>tc σ2 H2 fun b H3=>if b=true then te σ2 H3 fun v H4=>∃ ys,H4 l=some (.lst ys)/\ys.length < sizeLine/\Pv (i+1) σ2 (upd H4 l (.lst (ys++[v]))) else Pv (i+1) σ2 H3) :
  ∃ W:Nat->Nat->St->Hp->Prop,(∃ m,W 0 m σ0 H0)/\∀ i m σ H,W i m σ H ->
   (J.stop i H/\R H)\/(J.go i H/\∃ N:St->Hp->Prop,(∀ σ' H',N σ' H'->∃ m',m' < m/\W (i+1) m' σ' H') /\
    ∀ x H',J.yld i H x H'->g x σ H' fun σ2 H2=>tc σ2 H2 fun b H3=>if b=true then te σ2 H3 fun v H4=>∃ ys,H4 l=some (.lst ys)/\ys.length < sizeLine/\N σ2 (upd H4 l (.lst (ys++[v]))) else N σ2 H3):=by
 refine⟨fun i m σ H=>m=n - i/\i<=n/\Pv i σ H,⟨n,by simp,Nat.zero_le _,h0⟩,?_⟩
 rintro i m σ H ⟨rfl,hi,p⟩
 by_cases hlt:i < n
 ·obtain⟨go,st⟩:=hgo i σ H hlt p
  exact .inr ⟨go,Pv (i+1),fun σ' H' p'=>⟨n - (i+1),by omega,rfl,hlt,p'⟩,st⟩
 ·have e:i=n:=by omega
  subst e
  exact .inl (hstop σ H p)
theorem iM{σ:St}{H:Hp}{F:Bool->Hp->Prop}(h:F true H):Ij σ H F:=h
theorem gN{i:Nat}{v:V}{σ:St}{H:Hp}{Q:St->Hp->Prop}(h:Q (σ.set i (some v)) H):cP i v σ H Q:=h
noncomputable def Its(x:Str):It:=⟨fun i _=>i < x.cps.size,fun i H v H'=>H'=H/\∃ c,x.cps[i]?=some c/\v=.str ⟨#[c]⟩,fun i _=>x.cps.size<=i⟩
theorem Dr{P:Program}{w:World}{K:PySem.W.Frag}{tg:Expr}{it:Addr}{x:Str}{t:Tok}{ty:String}(hty:ty = "str_ascii_iterator"\/ty = "str_iterator") :
  Turn P w K tg (Its x) [it] it (fun i h=>i<=x.cps.size/\h.IsStrIter it ty x t i) where
 mem:=by simp
 obj:=fun i h st b hb=>by
  have e:b=it:=by simpa using hb
  subst e
  obtain⟨_,o,e,c,d⟩:=st
  exact⟨o,e,fun v z=>by rw [d] at z;cases z⟩
 keep:=fun i h h' st k=>by
  obtain⟨hi,o,e,r⟩:=st
  exact⟨hi,o,k it (by simp) o e,r⟩
 item:=by
  intro X hP hw hK hc i pins s σ H E I hf st hg
  subst hP hw hK
  obtain⟨f0,f1,f2,f3,f4,f5⟩:=hf it (by simp)
  have hlt:i < x.cps.size:=hg
  obtain⟨_,st⟩:=st
  have W:Walks X.prog X.w X.A it [it] [it] x.cps.size (SignAt x) (fun i h=>h.IsStrIter it ty x t i):=by
   rcases hty with rfl | rfl
   ·exact Walks.strAscii (I.ok.hd hc) it x t
   ·exact Walks.strWide (I.ok.hd hc) it x t
  refine W.item i s _ _ hlt st fun v h' tk hv st' kk=>?_
  obtain⟨c,u,hc',rfl⟩:=hv
  have I1:Inv X pins σ H { s with heap:=h',toks:=tk }:=I.turned (fun b o hb e=>kk b o (by simpa using hb) e) f0 f1 f3 f4 f5
  obtain⟨o,e,c2,d⟩:=id st'
  refine⟨_,rfl,yW (s:={ s with heap:=h',toks:=tk }) (n:=ty) e c2 d ?_ ⟨.str ⟨#[c]⟩,H,I1,⟨u,rfl⟩,⟨rfl,c,hc',rfl⟩,⟨by omega,st'⟩,fun b hb=>(hf b hb).1⟩⟩
  rcases hty with rfl | rfl <;> decide
 done:=by
  intro X hP hw hK hc i pins s σ H E I hf st hg
  subst hP hw hK
  obtain⟨f0,f1,f2,f3,f4,f5⟩:=hf it (by simp)
  have hge:x.cps.size<=i:=hg
  obtain⟨hi,st⟩:=st
  have e:i=x.cps.size:=by omega
  subst e
  have W:Walks X.prog X.w X.A it [it] [it] x.cps.size (SignAt x) (fun i h=>h.IsStrIter it ty x t i):=by
   rcases hty with rfl | rfl
   ·exact Walks.strAscii (I.ok.hd hc) it x t
   ·exact Walks.strWide (I.ok.hd hc) it x t
  exact W.done s _ _ st fun h' tk kk=>⟨rfl,I.turned (fun b o hb e=>kk b o (by simpa using hb) e) f0 f1 f3 f4 f5⟩
 self:=fun A i s Q E st h=>by
  obtain⟨_,st⟩:=st
  rcases hty with rfl | rfl
  ·exact wpAny_pyIter_striter_ascii st h
  ·exact wpAny_pyIter_striter_wide st h
noncomputable def Og(tl:TE):TI:=fun σ H R=>tl σ H fun v H1=>∃ x,v=.str x/\R (Its x) H1
theorem zj{X:Cx}{tg l:Expr}{tl:TE}(hl:PE X l tl):PI X tg l (Og tl):=by
 intro pins s σ H R I h
 refine thn (hl pins s σ H _ I h) fun v s1 ⟨y,H1,I1,r1,q1⟩=>?_
 obtain⟨x,e,q⟩:=q1
 subst e
 obtain⟨t,rfl⟩:=r1
 refine wpAny_pyIter_strU ?_
 have hty:strIterType x = "str_ascii_iterator"\/strIterType x = "str_iterator":=by
  unfold strIterType
  split
  ·exact .inl rfl
  ·exact .inr rfl
 refine⟨s1.heap.objs.size,[s1.heap.objs.size],_,_,H1,rfl,I1.kept (t':=s1.toks) fun b o e=>Heap.get?_push_of_some _ e,Dr (t:=t) hty,⟨Nat.zero_le _,_,Heap.get?_push_size _ rfl,rfl,rfl⟩,fun b hb=>?_,q⟩
 have e:b=s1.heap.objs.size:=by simpa using hb
 subst e
 exact I1.fpOk (Nat.le_refl _) (I1.hok.fresh (Nat.le_refl _))
theorem Ge{x:Str}{g:TG}{tb:TS}{D:Ends}{σ:St}{H:Hp}(Pv:Nat->St->Hp->Prop)(h0:Pv 0 σ H)
  (hs:∀ i c σ H,x.cps[i]?=some c->Pv i σ H->g (.str ⟨#[c]⟩) σ H fun σ2 H2=>tb { D with nx:=Pv (i+1),ct:=Pv (i+1),bk:=D.nx } σ2 H2)(hd:∀ σ H,Pv x.cps.size σ H->D.nx σ H) :
  ∃ W:Nat->Nat->St->Hp->Prop,(∃ m,W 0 m σ H)/\∀ i m σ H,W i m σ H ->
   ((Its x).stop i H/\D.nx σ H)\/((Its x).go i H/\∃ N:St->Hp->Prop,(∀ σ' H',N σ' H'->∃ m',m' < m/\W (i+1) m' σ' H')/\∀ v H',(Its x).yld i H v H'->g v σ H' fun σ2 H2=>tb { D with nx:=N,ct:=N,bk:=D.nx } σ2 H2):=by
 refine⟨fun i m σ H=>m=x.cps.size - i/\i<=x.cps.size/\Pv i σ H,⟨x.cps.size,by simp,Nat.zero_le _,h0⟩,?_⟩
 rintro i m σ H ⟨rfl,hi,p⟩
 by_cases hlt:i < x.cps.size
 ·refine .inr ⟨hlt,Pv (i+1),fun σ' H' p'=>⟨x.cps.size - (i+1),by omega,rfl,hlt,p'⟩,fun v H' y=>?_⟩
  obtain⟨e,c,hc,rfl⟩:=y
  subst e
  exact hs i c σ _ hc p
 ·have e:i=x.cps.size:=by omega
  subst e
  exact .inl ⟨Nat.le_refl _,hd σ H p⟩
theorem Inv.turnedT{X:Cx}{pins:List (Addr × Obj)}{σ:St}{H:Hp}{s:Shared}{h':Heap}{t':Nat}{e it:Addr}{xs:List V}{its:List Value}(I:Inv X pins σ H s)(k:∀ b o,b≠e->b≠it->s.heap.get? b=some o->h'.get? b=some o)
  (fe:vL X pins H e)(fi:vL X pins H it)(he:∃ o,s.heap.get? e=some o)(hi:∃ o,s.heap.get? it=some o)(hv:Vals xs its)(hz:xs.length<=sizeLine)
  (hn:h'.get? s.heap.objs.size=some { cls:=.type "tuple",data:=.seq its.toArray }):Inv X pins σ (upd H s.heap.objs.size (.tup xs)) { s with heap:=h',toks:=t' }:=by
 have fr:H s.heap.objs.size=none:=I.fresh
 have nel:∀ b o,s.heap.get? b=some o->b≠s.heap.objs.size:=fun b o q=>Nat.ne_of_lt (Heap.lt_size q)
 refine I.step (g':=s.gens) (d':=s.drawn) (ch:=[e,it]) (fun b hb=>?_) (fun b o _ _ hc q _=>k b o (fun z=>hc (by simp [z])) (fun z=>hc (by simp [z])) q)
  (fun b o _ _ hc q _=>⟨o.slots,k b o (fun z=>hc (by simp [z])) (fun z=>hc (by simp [z])) q⟩) (fun b o _ q n=>by rw [aL (nel b o q)];exact n)
  (fun b o hc q=>⟨o,k b o (fun z=>hc (by simp [z])) (fun z=>hc (by simp [z])) q⟩) (fun b ys q=>by rw [aL (aF q fr)];exact q) (fun b o u q=>by rw [aL (aF q fr)];exact q) (fun b ps q=>⟨#[],by rw [aL (aF q fr),q];simp⟩)
  (fun m hm=>?_) (fun b u q=>?_) I.bare
 ·have hb':b=e\/b=it:=by simpa using hb
  rcases hb' with rfl | rfl
  ·exact⟨fe.2.2.2.1,fe.2.1,fe.2.2.2.2.1,fe.2.2.2.2.2⟩
  ·exact⟨fi.2.2.2.1,fi.2.1,fi.2.2.2.2.1,fi.2.2.2.2.2⟩
 ·obtain⟨o,es,ep,ho,r⟩:=hm
  exact⟨o,es,ep,k _ o (Ne.symm fe.2.1) (Ne.symm fi.2.1) ho,r⟩
 ·by_cases hb:b=s.heap.objs.size
  ·subst hb
   rw [ak] at q
   cases q
   exact⟨hz,its,hv,_,hn,rfl,_,rfl⟩
  ·rw [aL hb] at q
   refine (I.hok b u q).stay (fun c v hc q'=>k c v ?_ ?_ q') (fun c q'=>by rw [aL (aF q' fr)];exact q') fun c ys q'=>by rw [aL (aF q' fr)];exact q'
   ·rintro rfl
    rcases hc with z | z
    ·rw [← z,fe.1] at q;cases q
    ·rw [fe.1] at z;cases z
   ·rintro rfl
    rcases hc with z | z
    ·rw [← z,fi.1] at q;cases q
    ·rw [fi.1] at z;cases z
theorem c7{X:Cx}:gA X (.builtin "isinstance") (fun xs H Q=>∃ x n t b,xs=[x,.ty n]/\wk X.K H x t/\W.kitOne X.K t (.type n)=some b/\Q (.bl b) H):=by
 intro pins s σ H xs us Q I r h
 obtain⟨x,n,t,b,rfl,ty,e,q⟩:=h
 obtain⟨u,v,rfl,ru,rv⟩:=vals2 r
 cases rv
 exact yF I ru ty e fun tk=>⟨.bl b,H,I.tok _,rfl,q⟩
theorem vB{X:Cx}:MtR X "str.count" (fun x xs H Q=>∃ y c,x=.str y/\xs=[.str ⟨#[c]⟩]/\Q (.int (cnt c y.cps.toList)) H):=by
 intro pins s σ H x xs v us Q I rx r h
 obtain⟨y,c,rfl,rfl,q⟩:=h
 obtain⟨t,rfl⟩:=rx
 obtain⟨u,rfl,t',rfl⟩:=vals1 r
 refine SC.count ?_
 rw [count_cnt]
 exact⟨.int _,H,I.tok _,⟨_,rfl⟩,q⟩
theorem wG{ys:List Str}:∀ {us:List Value},Vals (ys.map V.str) us->StrsAre us ys:=by
 induction ys with
 | nil=>intro us r;rw [List.map_nil] at r;cases r;exact .nil
 | cons y ys ih =>
  intro us r
  rw [List.map_cons] at r
  cases r with
  | cons r1 r2 =>
   obtain⟨t,e⟩:=r1
   subst e
   exact .cons y t (ih r2)
theorem xZ{X:Cx}:MtR X "str.join" (fun x xs H Q=>∃ y l ys,x=.str y/\xs=[.ref l]/\SqL X.K H l (ys.map V.str)/\(ys.map (·.length)).sum+ys.length * y.length<=16777216/\Q (.str (Str.join y ys)) H):=by
 intro pins s σ H x xs v us Q I rx r h
 obtain⟨y,l,ys,rfl,rfl,hq,hz,q⟩:=h
 obtain⟨t,rfl⟩:=rx
 obtain⟨u,rfl,ru⟩:=vals1 r
 cases ru
 obtain⟨its,rv,p,_⟩:=I.list hq
 refine join_list p.isList (ys:=ys) (by simpa using wG rv) hz fun t' k=>?_
 have e:Txt.join y ys=Str.join y ys:=StrLaws.glued_eq_join y ys
 rw [e]
 exact⟨.str _,H,I.tok _,⟨_,rfl⟩,q⟩
noncomputable def Ls(i j:Int):Prop:=0 < j/\j < 2 ^ 64
theorem lB{X:Cx}:OpR X (binaryOp .FloorDiv) (rI Ls fun i j=>.int (i / j)):=opI fun i j _ _ _ _ _ hc q=>by
 have h1:(0:Int) < j:=hc.1
 have h2:j < 2 ^ 64:=hc.2
 refine floordiv_int (by omega) (by rw [Int.fdiv_eq_ediv_of_nonneg i (by omega)];exact q) (.inl (PyProof.noPylong_of_log2 ?_))
 have h3:j.natAbs≠0:=by omega
 have h4:j.natAbs < 2 ^ 64:=by omega
 have h5:j.natAbs.log2 < 64:=(Nat.log2_lt h3).mpr h4
 omega
noncomputable def j6(js:List (Option Nat))(σ:St):St:=js.map fun j=>match j with | some j=>σ.getD j none | none=>none
noncomputable def jP(N:List Str)(js:List (Option Nat))(XN:List Str)(names:List (Str × NameKind)):Bool :=
 decide (N.length=js.length) && (N.zip js).all fun p=>match p.2 with | none=>true | some j=>decide (XN[j]?=some p.1) && decide (names.lookup p.1=some .free)
theorem Bl{N:List Str}{js:List (Option Nat)}{XN:List Str}{names:List (Str × NameKind)}(h:jP N js XN names=true)(σ:St):(j6 js σ).length=N.length:=by
 unfold jP at h
 rw [Bool.and_eq_true] at h
 unfold j6
 rw [List.length_map]
 exact (of_decide_eq_true h.1).symm
theorem Ek{N:List Str}{js:List (Option Nat)}{XN:List Str}{names:List (Str × NameKind)}(h:jP N js XN names=true)(σ:St)(i:Nat)(x:Str)(v:V)(h1:N[i]?=some x)(h2:(j6 js σ)[i]?=some (some v)) :
  names.lookup x=some .free/\∃ j:Nat,XN[j]?=some x/\σ[j]?=some (some v):=by
 unfold jP at h
 rw [Bool.and_eq_true,List.all_eq_true] at h
 unfold j6 at h2
 rw [List.getElem?_map] at h2
 cases e:js[i]? with
 | none=>rw [e] at h2;cases h2
 | some j =>
  rw [e] at h2
  cases j with
  | none=>cases h2
  | some j =>
   have h3:σ.getD j none=some v:=Option.some.inj h2
   have hm:(x,some j)∈N.zip js:=by
    refine List.mem_of_getElem? (i:=i) ?_
    rw [List.getElem?_zip_eq_some]
    exact⟨h1,e⟩
   have q:=h.2 _ hm
   simp only [Bool.and_eq_true,decide_eq_true_eq] at q
   refine⟨q.2,j,q.1,?_⟩
   rw [List.getD_eq_getElem?_getD] at h3
   cases e2:σ[j]? with
   | none=>rw [e2] at h3;cases h3
   | some o=>rw [e2] at h3;exact congrArg some h3
theorem bD{X:Cx}{elt tg iter:Expr}{ifs:List Expr}{scope:Scope}{pos:Pos}{wi:TI}{g:TG}{tc:TT}{te:TE}(XN:List Str)(sc:Scope)(N:List Str)(js:List (Option Nat))(hXN:X.N=XN)(hsc:X.env.scope=sc)(hc:X.calm=true)(hi:PI X tg iter wi)
  (hkind:scope.kind=.function)(hchk:jP N js XN scope.names=true)(hcell:∀ y∈scope.names,y.2≠.cell)(hfree:∀ y∈scope.names,y.2=.free->sc.names.lookup y.1=some .cell\/sc.names.lookup y.1=some .free)
  (hnames:∀ y∈scope.names,y.2=.local->scope.names.lookup y.1=some .local)
  (hg:∀ cl C s H ex pn E,PG (cN X scope N cl C s H ex pn E) tg g)(ht:∀ cl C s H ex pn E,Im (cN X scope N cl C s H ex pn E) ifs tc)(he:∀ cl C s H ex pn E,PE (cN X scope N cl C s H ex pn E) elt te)
  (hs:∀ x,foldedSetIterable iter X.env x=pure x:=by intro _;rfl) :
  PE X (.ListComp elt [⟨tg,iter,ifs,0⟩] scope pos) (CK wi g tc te (j6 js)):=by
 subst hXN
 subst hsc
 exact HF N (j6 js) hc hi hkind hcell hfree hnames (fun σ _=>Bl hchk σ) (fun σ i x v _ h1 h2=>Ek hchk σ i x v h1 h2) hg ht he hs
theorem vH(K:W.Frag){T U:String}{b:Bool}(h:(if (Value.type T == Value.type U)=true then some true else (if W.kitMeta U=true then (fastBuiltinMro T).map (·.contains (.type U)) else none))=some b) :
  W.kitOne K (.type T) (.type U)=some b:=h
theorem rO(K:W.Frag):W.kitOne K (.type "int") (.type "bool")=some false:=vH K (by decide +kernel)
theorem sV(K:W.Frag):W.kitOne K (.type "int") (.type "int")=some true:=vH K (by decide +kernel)
theorem Bg{α:Type}{xs:List α}{r:Int}(h0:0<=r)(h1:r < xs.length):∃ v,atI xs r=some v/\v∈xs:=by
 have hk:r.toNat < xs.length:=by omega
 have ek:r=((r.toNat:Nat):Int):=by omega
 refine⟨xs[r.toNat],?_,List.getElem_mem hk⟩
 have q:atI xs ((r.toNat:Nat):Int)=some xs[r.toNat]:=aO (List.getElem?_eq_getElem hk)
 rw [← ek] at q
 exact q
theorem xU(ns:List Int)(lo hi:Option Int):∃ ms:List Int,je (ns.map V.int) lo hi=ms.map V.int/\ms.length<=ns.length:=by
 refine⟨(ns.drop (HT.sIx ns.length 0 lo)).take (HT.sIx ns.length ns.length hi - HT.sIx ns.length 0 lo),?_,?_⟩
 ·unfold je
  rw [List.length_map,List.map_take,List.map_drop]
 ·rw [List.length_take,List.length_drop]
  omega
theorem aq{H:Hp}{p:Addr}(h:H p=none)(o:HO):Same H (upd H p o):=fun b u q=>by rw [aL (aF q h)];exact q
theorem vQ{ns:List Int}{i:Nat}{y:V}(h:(ns.map V.int)[i]?=some y):∃ z,y=V.int z:=by
 rw [List.getElem?_map] at h
 cases e:ns[i]? with
 | none=>rw [e] at h;cases h
 | some z=>rw [e] at h;exact⟨z,(Option.some.inj h).symm⟩
theorem small{n:Nat}(h:n<=1000):n<=sizeLine:=Nat.le_of_lt (aK h)
theorem smn(n:Nat)(h:n<=1000:=by decide):n<=sizeLine:=small h
theorem cu:(1000000:Nat)<=sizeLine:=by rw [sizeLine_eq];decide
structure Pot(H0:Hp)(p:Addr)(H:Hp):Prop where
 at_:∃ a b:Int,H p=some (.lst [.int a,.int b])
 old:∀ c o,H0 c=some o->c≠p->H c=some o
theorem Pot.turn{H0 H:Hp}{p:Addr}{a b:Int}(P:Pot H0 p H):Pot H0 p (upd H p (.lst [.int a,.int b])) :=
 ⟨⟨a,b,ak⟩,fun c u q hc=>by rw [aL hc];exact P.old c u q hc⟩
theorem Pot.apart{H0 H:Hp}{p l:Addr}(P:Pot H0 p H)(h:H l=none):l≠p:=by
 obtain⟨a,b,e⟩:=P.at_
 exact (aF e h).symm
theorem pN{y:Str}(hy:y=⟨#[]⟩)(cs:List Nat)(h:cs.length<=1000000):((cs.map fun c=>(⟨#[c]⟩:Str)).map (·.length)).sum+(cs.map fun c=>(⟨#[c]⟩:Str)).length * y.length<=16777216:=by
 subst hy
 have e:((cs.map fun c=>(⟨#[c]⟩:Str)).map (·.length)).sum=cs.length:=by
  clear h
  induction cs with
  | nil=>rfl
  | cons c r ih =>
   rw [List.map_cons,List.map_cons,List.sum_cons,ih,List.length_cons]
   show 1+r.length=r.length+1
   omega
 rw [e]
 show cs.length+_ * 0<=_
 omega
noncomputable def sz:List Nat->Int
 | []=>0
 | c :: r=>(if c=32\/c=10 then 0 else 1)+sz r
theorem qe(a b:List Nat):sz (a++b)=sz a+sz b:=by
 induction a with
 | nil=>show sz b=0+sz b;omega
 | cons c r ih=>show (if c=32\/c=10 then (0:Int) else 1)+sz (r++b)=(if c=32\/c=10 then (0:Int) else 1)+sz r+sz b;rw [ih];omega
theorem Ku(l:List Nat):(l.length:Int) - cnt 32 l - cnt 10 l=sz l:=by
 induction l with
 | nil=>rfl
 | cons c r ih =>
  rw [cnt_cons,cnt_cons,List.length_cons]
  show _=(if c=32\/c=10 then (0:Int) else 1)+sz r
  by_cases h1:c=32
  ·subst h1
   simp only [if_true,true_or]
   rw [if_neg (by decide)]
   omega
  ·by_cases h2:c=10
   ·subst h2
    simp only [or_true,if_true]
    rw [if_neg (by decide)]
    omega
   ·rw [if_neg h1,if_neg h2,if_neg (by simp [h1,h2])]
    omega
theorem yU(l:List Nat)(c:Nat):sz (l++[c])=sz l+(if c=32\/c=10 then 0 else 1):=by
 rw [qe]
 show sz l+((if c=32\/c=10 then (0:Int) else 1)+0)=_
 omega
theorem Ei{bs:List Bool}{its:List Value}(r:Vals (bs.map V.bl) its){i:Nat}{v:Value}(h:its.toArray[i]?=some v):v=.bool (bs.getD i true):=by
 have h':its[i]?=some v:=by simpa using h
 have hl:=r.length
 have hi:i < its.length:=(List.getElem?_eq_some_iff.mp h').1
 have hb:i < bs.length:=by rw [List.length_map] at hl;omega
 obtain⟨u,hu,ru⟩:=r.get (i:=i) (x:=V.bl bs[i]) (by rw [List.getElem?_map,List.getElem?_eq_getElem hb];rfl)
 rw [h'] at hu
 cases hu
 have e:bs.getD i true=bs[i]:=by rw [List.getD_eq_getElem?_getD,List.getElem?_eq_getElem hb];rfl
 rw [e]
 exact ru
theorem all_range(bs:List Bool):(List.range bs.length).all (fun i=>bs.getD i true)=bs.all id:=by
 rw [Bool.eq_iff_iff,List.all_eq_true,List.all_eq_true]
 constructor
 ·intro h b hb
  obtain⟨i,hi,e⟩:=List.getElem_of_mem hb
  have q:=h i (List.mem_range.mpr hi)
  rw [List.getD_eq_getElem?_getD,List.getElem?_eq_getElem hi] at q
  rw [← e]
  exact q
 ·intro h i hi
  have hi':=List.mem_range.mp hi
  rw [List.getD_eq_getElem?_getD,List.getElem?_eq_getElem hi']
  exact h _ (List.getElem_mem hi')
theorem jx{X:Cx}(hc:X.calm=true):gA X (.builtin "all") (fun xs H Q=>∃(l:Addr)(bs:List Bool),xs=[.ref l]/\SqL X.K H l (bs.map V.bl)/\Q (.bl (bs.all id)) H):=by
 intro pins s σ H xs us Q I r h
 obtain⟨l,bs,rfl,hq,q⟩:=h
 obtain⟨u,rfl,ru⟩:=vals1 r
 cases ru
 obtain⟨its,rv,p,hz⟩:=I.list hq
 have hd:X.A.in1.handled=none:=I.ok.hd hc
 have hl:=rv.length
 refine call_all_walk (wpAny_pyIter_list p.isList ?_)
 obtain⟨o,n,eo,_⟩:=id p
 have hne:l≠s.heap.objs.size:=Nat.ne_of_lt (Heap.lt_size eo)
 refine⟨s.heap.objs.size,_,_,_,_,_,fun i=>bs.getD i true,rfl,Walks.list hd s.heap.objs.size l hne its.toArray,⟨⟨_,Heap.get?_push_size _ rfl,rfl,rfl⟩,p.isList.push _⟩,fun i v s' Q' E' hv hQ'=>?_,fun h' tk hk=>?_⟩
 ·rw [Ei rv hv]
  exact wpAny_truthy_bool hQ'
 ·have e:its.toArray.size=bs.length:=by rw [List.size_toArray,← hl,List.length_map]
  rw [e,all_range]
  have I1:Inv X pins σ H { s with heap:=s.heap.push { cls:=.type "list_iterator",data:=.fields #[.ref l,.int 0 0] } }:=I.kept (t':=s.toks) fun b o q=>Heap.get?_push_of_some _ q
  obtain⟨f0,f1,f2,f3,f4,f5⟩:=I.fpOk (b:=s.heap.objs.size) (Nat.le_refl _) I.fresh
  exact⟨.bl _,H,I1.turned (it:=s.heap.objs.size) (fun b o hb e=>hk b o (by simpa using hb) e) f0 f1 f3 f4 f5,rfl,q⟩
theorem sO{X:Cx}:OpR X (compareOp .IsNot) (fun x y H Q=>∃ a b,x=.bl a/\y=.bl b/\Q (.bl (!(a == b))) H):=by
 intro pins s σ H x y v u Q I rx ry h
 obtain⟨a,b,rfl,rfl,q⟩:=h
 cases rx
 cases ry
 refine wpAny_isNot_plain rfl ?_
 have e:(Value.bool a == Value.bool b)=(a == b):=by cases a <;> cases b <;> rfl
 rw [e]
 exact⟨.bl _,H,I,rfl,q⟩
theorem oM(K:W.Frag):W.kitOne K (.type "bool") (.type "bool")=some true:=vH K (by decide +kernel)
theorem dJ(K:W.Frag):W.kitOne K (.type "tuple") (.type "tuple")=some true:=vH K (by decide +kernel)
noncomputable def isNm(x:Str):Bool:=decide (1<=x.length) && decide (x.length<=8) && x.cps.toList.all fun c=>decide (97<=c/\c<=122)
end L2
namespace ZT
open PySem
open Sem (wp)
section
variable {prog:Program}{w:World}{A:Around}{E:Value->Shared->Prop}{s:Shared}
theorem vo{it t:Addr}{i:Nat}{its:Array Value}{x:Value}{Q:Value->Shared->Prop}(ti:s.heap.IsTupleIter it t i)(tt:s.heap.IsTuple t its)(tx:its[i]?=some x)
  (k:∀ g,g.IsTupleIter it t (i+1)->Heap.SameBut it s.heap g->Q x { s with heap:=g }):wpAny (model prog w) A (Builtin.SmallTypes.nextOf (.ref it)) Q E s:=by
 obtain⟨o,eo,ec,ed⟩:=id ti
 obtain⟨ol,el,_,nl,dl⟩:=tt
 unfold Builtin.SmallTypes.nextOf
 refine wpAny_bind (wpAny_callSpecial?_slot (name:=Str.ofString "__next__") ti.typeIs F.slot_tuple_iterator_next (wpAny_call_entry F.slot_tuple_iterator_next ti.typeIs F.entry_tuple_iterator_next ?_ (F.args_tuple_iterator_next_1 _)))
 show wpAny _ _ (field (.ref it) 0 >>= _) _ _ s
 refine wpAny_bind (wpAny_field eo ed (x:=.ref t) rfl ?_)
 show wpAny _ _ (if (Value.ref t == Value.none)=true then _ else _) _ _ s
 rw [if_neg (by intro z;cases z)]
 show wpAny _ _ (field (.ref it) 1 >>= _) _ _ s
 refine wpAny_bind (wpAny_field eo ed (x:=.int i 0) rfl ?_)
 show wpAny _ _ (seqItems? (.ref t) >>= _) _ _ s
 refine wpAny_bind (wpAny_seqItems el dl ?_)
 simp only [Int.toNat_natCast,tx]
 refine wpAny_bind (wpAny_setField eo ed (by simp) (wpAny_pure ⟨x,rfl,wpAny_pure (k _ ?_ (Heap.SameBut.update ..))⟩))
 refine⟨_,Heap.get?_update_self _ eo (Obj.isFreed_of_fields (Obj.data_mapFields ed _)),(Obj.cls_mapFields ..).trans ec,?_⟩
 rw [Obj.data_mapFields ed]
 simp [rawInt]
theorem tM{it t:Addr}{i:Nat}{its:Array Value}{Q:Value->Shared->Prop}(hd:A.handled=none)(ti:s.heap.IsTupleIter it t i)(tt:s.heap.IsTuple t its)(tx:its[i]?=none)
  (k:∀ g e,Heap.ExtBut it s.heap g->(∃ o,g.get? e=some o/\o.cls=.type "StopIteration")->E (.ref e) { s with heap:=g }):wpAny (model prog w) A (Builtin.SmallTypes.nextOf (.ref it)) Q E s:=by
 obtain⟨o,eo,ec,ed⟩:=id ti
 obtain⟨ol,el,_,nl,dl⟩:=tt
 unfold Builtin.SmallTypes.nextOf
 refine wpAny_bind (wpAny_callSpecial?_slot (name:=Str.ofString "__next__") ti.typeIs F.slot_tuple_iterator_next (wpAny_call_entry F.slot_tuple_iterator_next ti.typeIs F.entry_tuple_iterator_next ?_ (F.args_tuple_iterator_next_1 _)))
 show wpAny _ _ (field (.ref it) 0 >>= _) _ _ s
 refine wpAny_bind (wpAny_field eo ed (x:=.ref t) rfl ?_)
 show wpAny _ _ (if (Value.ref t == Value.none)=true then _ else _) _ _ s
 rw [if_neg (by intro z;cases z)]
 show wpAny _ _ (field (.ref it) 1 >>= _) _ _ s
 refine wpAny_bind (wpAny_field eo ed (x:=.int i 0) rfl ?_)
 show wpAny _ _ (seqItems? (.ref t) >>= _) _ _ s
 refine wpAny_bind (wpAny_seqItems el dl ?_)
 simp only [Int.toNat_natCast,tx]
 refine wpAny_bind (wpAny_rule (wpAny_bind (wpAny_setField eo ed (by simp) ?_)))
 show wpAny _ _ (newExc (.type "StopIteration") [] >>= _) _ _ _
 refine wpAny_bind ?_
 simp only [newExc,newTuple]
 refine wpAny_bind (wpAny_newObj_type ?_ (by size_fits))
 refine wpAny_bind (m:=firstArgMember _ _) (wpAny_of_eq (a:=Value.none) (by first | rfl | (simp only [firstArgMember];rfl)) ?_)
 refine wpAny_newObj_type ?_ (by size_fits)
 simp only [raiseNew]
 refine wpAny_bind (wpAny_handled ?_)
 first | rw [show A.in1.handled=none from hd] | rw [hd]
 refine wpAny_bind (wpAny_pure (wpAny_throw ?_))
 exact k _ _ (((Heap.SameBut.update ..).extBut.push _).push _) ⟨_,Heap.get?_push_size _ rfl,rfl⟩
structure Apart(z TI TO i1 i2 t1 t2:Addr):Prop where
 a1:TI≠z
 a2:TO≠z
 a3:i1≠z
 a4:i2≠z
 b1:TI≠TO
 b2:TI≠i1
 b3:TI≠i2
 b4:TO≠i1
 b5:TO≠i2
 b6:i1≠i2
 c1:t1≠z
 c2:t1≠TO
 c3:t1≠i1
 c4:t1≠i2
 d1:t2≠z
 d2:t2≠TO
 d3:t2≠i1
 d4:t2≠i2
end
noncomputable abbrev zh1(h:Heap)(t1:Addr):Heap:=h.push { cls:=.type "tuple_iterator",data:=.fields #[.ref t1,.int 0 0] }
end ZT
namespace L2
open PySem PySem.Spec PyProof.Rows
section
variable {X:Cx}{pins:List (Addr × Obj)}{σ:St}{H:Hp}{s:Shared}{h':Heap}{t':Nat}{ch:List Addr}
end
end L2
namespace M01
open PySem
noncomputable def isW(c:Nat):Bool:=decide (97<=c/\c<=122) || decide (65<=c/\c<=90) || decide (48<=c/\c<=57)
noncomputable abbrev S:=List (List Nat) × List Nat
noncomputable def stp(st:S)(c:Nat):S:=if isW c=true then (st.1,st.2++[c]) else (if st.2=[] then st else (st.1++[st.2],[]))
noncomputable def scn(l:List Nat):S:=l.foldl stp ([],[])
noncomputable def fn(st:S):List (List Nat):=if st.2=[] then st.1 else st.1++[st.2]
noncomputable def wds(l:List Nat):List (List Nat):=fn (scn l)
theorem vf(l:List Nat)(c:Nat):scn (l++[c])=stp (scn l) c:=by
 unfold scn
 rw [List.foldl_append]
 rfl
noncomputable def cmp(st:S)(rest:List Nat):List (List Nat):=if st.2=[] then st.1 else st.1++[st.2++rest.takeWhile isW]
noncomputable def bl(c:Nat):Nat:=if isW c=true then c else 32
theorem Jm(c:Nat):Unicode.isSpace (bl c)=!isW c:=by
 unfold bl
 by_cases h:isW c=true
 ·rw [if_pos h,h]
  have hc:c < 123:=by
   unfold isW at h
   simp only [Bool.or_eq_true,decide_eq_true_eq] at h
   omega
  have all:∀ d,d < 123->isW d=true->Unicode.isSpace d=false:=by decide +kernel
  rw [all c hc h]
  rfl
 ·have h':isW c=false:=by simpa using h
  rw [if_neg h,h']
  decide +kernel
theorem str_len(l:List Nat):(⟨l.toArray⟩:Str).length=l.length:=by simp [Str.length]
theorem qz:∀(l:List Nat)(st:KWd.St)(q:S),st.1=q.1.map (fun r=>(⟨r.toArray⟩:Str))->st.2=⟨q.2.toArray⟩ ->
  ((l.map bl).foldl KWd.step st).1=((l.foldl stp q).1).map (fun r=>(⟨r.toArray⟩:Str))/\((l.map bl).foldl KWd.step st).2=⟨(l.foldl stp q).2.toArray⟩
 | [],st,q,h1,h2=>⟨h1,h2⟩
 | c :: r,st,q,h1,h2=>by
  rw [List.map_cons,List.foldl_cons,List.foldl_cons]
  refine qz r _ _ ?_ ?_
  ·unfold KWd.step stp
   rw [Jm]
   by_cases h:isW c=true
   ·rw [h]
    simp only [Bool.not_true,Bool.false_eq_true,if_false,if_true]
    exact h1
   ·have h':isW c=false:=by simpa using h
    rw [h']
    simp only [Bool.not_false,if_true,Bool.false_eq_true,if_false]
    by_cases e:q.2=[]
    ·rw [if_pos (by rw [h2,e];rfl),if_pos e]
     exact h1
    ·have hl:¬ st.2.length=0:=by
      rw [h2,str_len]
      intro z
      exact e (List.length_eq_zero_iff.mp z)
     rw [if_neg hl,if_neg e]
     show st.1++[st.2]=(q.1++[q.2]).map _
     rw [List.map_append,h1,h2]
     rfl
  ·unfold KWd.step stp
   rw [Jm]
   by_cases h:isW c=true
   ·rw [h]
    simp only [Bool.not_true,Bool.false_eq_true,if_false,if_true]
    rw [h2]
    show Str.mk (q.2.toArray ++ #[bl c])=_
    unfold bl
    rw [if_pos h]
    congr 1
    simp
   ·have h':isW c=false:=by simpa using h
    rw [h']
    simp only [Bool.not_false,if_true,Bool.false_eq_true,if_false]
    by_cases e:q.2=[]
    ·rw [if_pos (by rw [h2,e];rfl),if_pos e]
     exact h2
    ·have hl:¬ st.2.length=0:=by
      rw [h2,str_len]
      intro z
      exact e (List.length_eq_zero_iff.mp z)
     rw [if_neg hl,if_neg e]
     rfl
theorem yI(l:List Nat):Txt.words ⟨(l.map bl).toArray⟩=(wds l).map (fun r=>(⟨r.toArray⟩:Str)):=by
 rw [KWd.words_scan]
 obtain⟨h1,h2⟩:=qz l ([],Str.empty) ([],[]) rfl rfl
 have e:KWd.scan ⟨(l.map bl).toArray⟩=(l.map bl).foldl KWd.step ([],Str.empty):=by
  unfold KWd.scan
  simp
 unfold KWd.fin wds fn scn
 rw [e,h1,h2,str_len]
 by_cases z:(l.foldl stp ([],[])).2=[]
 ·rw [if_pos (by rw [z];rfl),if_pos z]
 ·rw [if_neg (fun q=>z (List.length_eq_zero_iff.mp q)),if_neg z,List.map_append]
  rfl
theorem uh:∀(l:List Nat)(q:S),(l.foldl stp q).1.length+(l.foldl stp q).2.length<=q.1.length+q.2.length+l.length
 | [],q=>by simp
 | c :: r,q=>by
  rw [List.foldl_cons]
  have ih:=uh r (stp q c)
  have h:(stp q c).1.length+(stp q c).2.length<=q.1.length+q.2.length+1:=by
   unfold stp
   by_cases h:isW c=true
   ·rw [if_pos h]
    simp only [List.length_append,List.length_cons,List.length_nil]
    omega
   ·rw [if_neg h]
    by_cases e:q.2=[]
    ·rw [if_pos e];omega
    ·rw [if_neg e]
     have:0 < q.2.length:=List.length_pos_iff.mpr e
     simp only [List.length_append,List.length_cons,List.length_nil]
     omega
  rw [List.length_cons]
  omega
theorem FJ(l:List Nat):(wds l).length<=l.length:=by
 have h:=uh l ([],[])
 simp only [List.length_nil,Nat.zero_add] at h
 unfold wds fn
 show (if (l.foldl stp ([],[])).2=[] then _ else _:List (List Nat)).length<=_
 by_cases e:(l.foldl stp ([],[])).2=[]
 ·rw [if_pos e]
  show (l.foldl stp ([],[])).1.length<=_
  omega
 ·rw [if_neg e,List.length_append]
  have:0 < (l.foldl stp ([],[])).2.length:=List.length_pos_iff.mpr e
  show (l.foldl stp ([],[])).1.length+1<=_
  omega
end M01
namespace L2
open PySem PySem.Spec PyProof.Rows
theorem rP{v:Value}{o:Option Int}(h:IsPart v o):∃ q:Option (Int × Tok),v=partValue q/\o=q.map (·.1):=by
 cases h with
 | none=>exact⟨none,rfl,rfl⟩
 | int i t=>exact⟨some (i,t),rfl,rfl⟩
noncomputable def O1:V->Option Int->Option Int->Hp->VK->Prop:=fun x lo hi H Q=>∃ y:Str,x=.str y/\y.length<=sizeLine/\Q (.str (Txt.slice y lo hi)) H
theorem Ew{X:Cx}:SlR X O1:=by
 intro pins s σ H x v vl vu lo hi sl Q I rx hs pl pu h
 obtain⟨y,rfl,hz,q⟩:=h
 obtain⟨t,rfl⟩:=rx
 obtain⟨ql,rfl,rfl⟩:=rP pl
 obtain⟨qu,rfl,rfl⟩:=rP pu
 refine⟨"str",_,F.slot_str_getitem.lookup,typeIs_str _ _ _,?_⟩
 refine wpAny_getItem_str_slice (l:=ql) (u:=qu) (st:=none) hs rfl ?_
 exact post_val_or_str ⟨Nat.le_trans (Txt.slice_le y _ _) hz,fun t' k=>⟨.str _,H,I.tok _,⟨_,rfl⟩,q⟩⟩
theorem wN(l:List (Str × Tok)):Vals ((l.map (·.1)).map V.str) (strValues l):=by
 induction l with
 | nil=>exact .nil
 | cons p r ih=>exact .cons ⟨p.2,rfl⟩ ih
theorem Dg{X:Cx}:MtR X "str.split" (fun x xs H Q=>∃ y:Str,x=.str y/\xs=[]/\y.length<=100000/\∀ l,H l=none->Q (.ref l) (upd H l (.lst ((Txt.words y).map V.str)))):=by
 intro pins s σ H x xs v us Q I rx r h
 obtain⟨y,rfl,rfl,hz,q⟩:=h
 obtain⟨t,rfl⟩:=rx
 cases r
 have hb:=cu
 have e1:=(StrLaws.sw_weight y).1
 have e2:=StrLaws.len_le_wsum (Builtin.Str.spaceWords y (y.length+1))
 have hn:(Builtin.Str.spaceWords y (y.length+1)).length<=sizeLine:=by omega
 refine call_meets F.slot_str_split (typeIs_str _ _ _) F.entry_str_split (F.args_str_split_1 _) (meets_str_split_space y t (by omega) hn) ?_
 have fin:∀(l:List (Str × Tok))(tk:Nat),l.map (·.1)=Txt.words y->l.length<=sizeLine->EP X pins σ Q (.ref s.heap.objs.size) { s with heap:=s.heap.push { cls:=.type "list",data:=.seq (strValues l).toArray },toks:=tk }:=fun l tk e hl=>by
  refine⟨.ref s.heap.objs.size,_,I.lnew (its:=strValues l) (ys:=(l.map (·.1)).map V.str) (wN l) (by rw [List.length_map,List.length_map];exact hl),rfl,?_⟩
  rw [e]
  exact q _ I.fresh
 cases hw:Builtin.Str.spaceWords y (y.length+1) == [(0,y.length)]
 ·simp only [Bool.false_eq_true,if_false]
  rw [strsFrom_eq]
  have et:=numbered_texts s.toks (wordsOf y)
  refine fin (numbered s.toks (wordsOf y)) _ (et.trans (if_neg (ne_true_of_eq_false hw)).symm) ?_
  have el:=congrArg List.length et
  rw [List.length_map] at el
  rw [el]
  unfold wordsOf
  rw [List.length_map]
  exact hn
 ·simp only [if_true]
  exact fin [(y,t)] s.toks (if_pos hw).symm (by show 1<=sizeLine;omega)
theorem G4(a c:Nat):decide (([c]:List Nat) < [a])=decide (c < a):=by
 rw [Bool.eq_iff_iff]
 simp only [decide_eq_true_eq]
 constructor
 ·intro h
  cases h with
  | cons h=>cases h
  | rel h=>exact h
 ·intro h
  exact List.Lex.rel h
noncomputable def Dz:R2:=fun x y H Q=>∃ a c:Nat,x=.str ⟨#[a]⟩/\y=.str ⟨#[c]⟩/\Q (.bl (decide (a<=c))) H
theorem nG{X:Cx}:OpR X (compareOp .LtE) Dz:=by
 intro pins s σ H x y v u Q I rx ry h
 obtain⟨a,c,rfl,rfl,q⟩:=h
 obtain⟨t,rfl⟩:=rx
 obtain⟨t',rfl⟩:=ry
 refine PySem.P.le_str ?_
 have e:(!decide (([c]:List Nat) < [a]))=decide (a<=c):=by
  rw [G4,Bool.eq_iff_iff]
  simp
 show EP X pins σ Q (.bool (!decide (([c]:List Nat) < [a]))) s
 rw [e]
 exact⟨.bl _,H,I,rfl,q⟩
theorem jJ{i a b c:Nat}{x z:Str}{σ:St}{H:Hp}{Q:VK}(hx:x=⟨#[a]⟩)(hz:z=⟨#[b]⟩)(h0:σ[i]?=some (some (.str ⟨#[c]⟩)))(q:Q (.bl (decide (a<=c/\c<=b))) H) :
  pI Dz Dz (tC (.str x)) (vM i) (tC (.str z)) σ H Q:=by
 subst hx
 subst hz
 refine⟨_,h0,a,c,rfl,rfl,_,rfl,?_⟩
 refine cU (fun h=>?_) (fun h=>?_)
 ·refine⟨c,b,rfl,rfl,?_⟩
  have h':a<=c:=of_decide_eq_true h
  have e:decide (a<=c/\c<=b)=decide (c<=b):=decide_eq_decide.mpr ⟨fun z=>z.2,fun z=>⟨h',z⟩⟩
  rw [← e]
  exact q
 ·have e:decide (a<=c/\c<=b)=false:=decide_eq_false fun z=>h (decide_eq_true z.1)
  rw [e] at q
  exact q
structure Cal(P:Program)(w:World)(K:W.Frag)(mg:Str->Option Value)(base:Heap)(x:Str)(k:Nat)(ps:List Str)(sp:Sp):Prop where
 ex:∃(f:Addr)(fd:FuncData),oR P w K mg base CX0 k f fd ps sp/\Binds K fd ps []/\W.keepIn K (.ref f)=true/\mg x=some (.ref f)
structure Has(K:W.Frag)(mg:Str->Option Value)(x:Str)(st:Stmt)(ps:List Str):Prop where
 ex:∃(f:Addr)(fd:FuncData),Fun K x x st f fd/\Binds K fd ps []/\mg x=some (.ref f)
section
variable {P:Program}{w:World}{K:W.Frag}{mg:Str->Option Value}{base:Heap}
theorem Has.cal{x:Str}{st:Stmt}{ps:List Str}{k:Nat}{sp:Sp}(h:Has K mg x st ps)(ok:∀(f:Addr)(fd:FuncData),Fun K x x st f fd->mg x=some (.ref f)->Binds K fd ps []->oR P w K mg base CX0 k f fd ps sp):Cal P w K mg base x k ps sp:=by
 obtain⟨f,fd,F,b,m⟩:=h.ex
 exact⟨f,fd,ok f fd F m b,b,F.kp,m⟩
theorem Has.mk'{x:Str}{st:Stmt}{N ps:List Str}{k:Nat}{sp:Sp}(h:Has K mg x st ps)(S:aQ N ps (aB st))(len:∀ vs H Q E,sp vs H Q E->vs.length=ps.length)
  (hbody:∀(f:Addr)(cdv:Value)(A:Around)(outer:List Env)(s:Shared)(H:Hp)(vs:List V)(Q:VK)(E:XK),kJ k (A.deeper (envOfC x (aB st) s.heap.objs.size f cdv))->sp vs H Q E ->
   ∃ t,PSs (Gx CX0 P w K mg base N x (aB st) f cdv A outer s H E).nox (fQ st) t/\t { nx:=fun _ H'=>Q .non H',rt:=Q } (start N vs) H):Cal P w K mg base x (k+1) ps sp :=
 h.cal fun f fd F _ _=>F.ok S len (hbody f)
end
theorem aG{X:Cx}{x:Str}{k n:Nat}{ps:List Str}{sp:Sp}{e:Expr}{es:List Expr}{t:TA}{p pos:Pos}(C:Cal X.prog X.w X.K X.mg X.base x k ps sp)(hr:kJ n X.A)(hk:k<=n)(hg:Gl X x)(ha:PA X (e :: es) t)
  (hdb:(x == ("__debug__" : Str))=false:=by decide)(he:starEach (e :: es) X.env=(false,eval e X.env) :: starEach es X.env:=by rfl)(hpl:(backTo pos (starEach es X.env)).any (·.1)=false:=by rfl) :
  PE X (.Call (.Name x p) (e :: es) [] pos) (Hh sp [] E0 t):=by
 obtain⟨f,fd,F,b,kp,m⟩:=C.ex
 exact Ac F (hr.mono hk) hg m kp b .nil Jc ha hdb he hpl
theorem vp{X:Cx}:MtR X "str.lower" (fun x xs H Q=>∃ r:List Nat,x=.str ⟨r.toArray⟩/\xs=[]/\(∀ c∈r,c < 128)/\r.length<=100000/\Q (.str ⟨(r.map lo1).toArray⟩) H):=by
 intro pins s σ H x xs v us Q I rx r h
 obtain⟨l,rfl,rfl,hc,hl,q⟩:=h
 obtain⟨t,rfl⟩:=rx
 cases r
 refine SCL.lower (by show l.toArray.size<=_;rw [List.size_toArray];omega) fun _=>?_
 rw [lower_ascii (x:=⟨l.toArray⟩) (by simpa using hc)]
 have e:(⟨l.toArray.map lo1⟩:Str)=⟨(l.map lo1).toArray⟩:=by rw [List.map_toArray]
 rw [e]
 exact⟨.str _,H,I.tok _,⟨_,rfl⟩,q⟩
inductive D where
 | non | bl (b:Bool) | int (i:Int) | str (x:Str) | tup (ds:List D)
mutual
noncomputable def Den(H:Hp):V->D->Prop
 | v,.non=>v=.non
 | v,.bl b=>v=.bl b
 | v,.int i=>v=.int i
 | v,.str x=>v=.str x
 | v,.tup ds=>∃(p:Addr)(vs:List V),v=.ref p/\H p=some (.tup vs)/\cj H vs ds
noncomputable def cj(H:Hp):List V->List D->Prop
 | [],[]=>True
 | v :: vs,d :: ds=>Den H v d/\cj H vs ds
 | _,_=>False
end
mutual
theorem Den.same{H H':Hp}(e:Same H H'):∀ {d:D}{v:V},Den H v d->Den H' v d
 | .non,_,h=>h
 | .bl _,_,h=>h
 | .int _,_,h=>h
 | .str _,_,h=>h
 | .tup ds,_,h=>by
  obtain⟨p,vs,rfl,hp,hd⟩:=h
  exact⟨p,vs,rfl,e _ _ hp,cj.same e hd⟩
theorem cj.same{H H':Hp}(e:Same H H'):∀ {ds:List D}{vs:List V},cj H vs ds->cj H' vs ds
 | [],[],_=>trivial
 | _ :: _,_ :: _,h=>⟨Den.same e h.1,cj.same e h.2⟩
 | [],_ :: _,h=>h.elim
 | _ :: _,[],h=>h.elim
end
theorem cj.len{H:Hp}:∀ {ds:List D}{vs:List V},cj H vs ds->vs.length=ds.length
 | [],[],_=>rfl
 | _ :: ds,_ :: vs,h=>by rw [List.length_cons,List.length_cons,cj.len h.2]
 | [],_ :: _,h=>h.elim
 | _ :: _,[],h=>h.elim
theorem cj.at_{H:Hp}:∀ {ds:List D}{vs:List V}{i:Nat}{v:V},cj H vs ds->vs[i]?=some v->∃ d,ds[i]?=some d/\Den H v d
 | [],[],i,v,_,h=>by simp at h
 | d :: ds,_ :: vs,0,v,h,e=>by
  simp at e
  subst e
  exact⟨d,rfl,h.1⟩
 | _ :: ds,_ :: vs,i+1,v,h,e=>cj.at_ (i:=i) h.2 (by simpa using e)
 | [],_ :: _,_,_,h,_=>h.elim
 | _ :: _,[],_,_,h,_=>h.elim
theorem cj.strs{H:Hp}:∀ xs:List Str,cj H (xs.map V.str) (xs.map D.str)
 | []=>trivial
 | _ :: r=>⟨rfl,cj.strs r⟩
theorem cj.snoc{H:Hp}{v:V}{d:D}(hd:Den H v d):∀ {ds:List D}{vs:List V},cj H vs ds->cj H (vs++[v]) (ds++[d])
 | [],[],_=>⟨hd,trivial⟩
 | _ :: _,_ :: _,h=>⟨h.1,cj.snoc hd h.2⟩
 | [],_ :: _,h=>h.elim
 | _ :: _,[],h=>h.elim
noncomputable def jf:Nat->D->Prop
 | 0,d=>d≠.non/\∀ ds,d≠.tup ds
 | n+1,d=>d≠.non/\∀ ds,d=.tup ds->ds.length<=100000/\∀ e∈ds,jf n e
theorem jf.up:∀ {n:Nat}{d:D},jf n d->jf (n+1) d
 | 0,d,h=>⟨h.1,fun ds e=>absurd e (h.2 ds)⟩
 | n+1,d,h=>⟨h.1,fun ds e=>⟨(h.2 ds e).1,fun x hx=>((h.2 ds e).2 x hx).up⟩⟩
theorem pF(x:Int):jf 0 (.int x):=⟨(fun z=>nomatch z),fun _ z=>nomatch z⟩
theorem Has.never{P:Program}{w:World}{K:W.Frag}{mg:Str->Option Value}{base:Heap}{x:Str}{st:Stmt}{ps:List Str}{sp:Sp}(h:Has K mg x st ps)(no:∀ vs H Q E,¬ sp vs H Q E):Cal P w K mg base x 0 ps sp :=
 h.cal fun f fd F _ _=>⟨fun vs H Q E z=>absurd z (no vs H Q E),fun A outer s H args us vs Q E _ _ _ _ z=>absurd z (no vs H Q E)⟩
theorem bO{H:Hp}{ds:List D}{v:V}(h:Den H v (.tup ds)):∃(p:Addr)(vs:List V),v=.ref p/\H p=some (.tup vs)/\cj H vs ds:=h
noncomputable def O5(p:Addr)(H H':Hp):Prop:=∀ c o,H c=some o->c≠p->H' c=some o
mutual
theorem Den.keepT{H H':Hp}(e:∀(b:Addr)(vs:List V),H b=some (.tup vs)->H' b=some (.tup vs)):∀ {d:D}{v:V},Den H v d->Den H' v d
 | .non,_,h=>h
 | .bl _,_,h=>h
 | .int _,_,h=>h
 | .str _,_,h=>h
 | .tup ds,_,h=>by
  obtain⟨p,vs,rfl,hp,hd⟩:=h
  exact⟨p,vs,rfl,e _ _ hp,cj.keepT e hd⟩
theorem cj.keepT{H H':Hp}(e:∀(b:Addr)(vs:List V),H b=some (.tup vs)->H' b=some (.tup vs)):∀ {ds:List D}{vs:List V},cj H vs ds->cj H' vs ds
 | [],[],_=>trivial
 | _ :: _,_ :: _,h=>⟨Den.keepT e h.1,cj.keepT e h.2⟩
 | [],_ :: _,h=>h.elim
 | _ :: _,[],h=>h.elim
end
section
variable {X:Cx}{K:W.Frag}{o e:Expr}{es:List Expr}{to:TE}{t:TA}{name:Str}{apos cpos:Pos}{T id:String}{r:V->List V->Hp->VK->Prop}
theorem HW(hK:X.K=K)(pa:PlainAttrs T)(slot:Slot T name id)(hty:typeOf (.builtin id)=pure (.type "method_descriptor"))(hm:MtR X id r)(ho:PE X o to)
  (hbase:attributeBase o name X.env (eval o X.env)=eval o X.env:=by rfl)(hline:(apos.endLine == cpos.line)=true:=by rfl):PE X (.Call (.Attribute o name apos) [] [] cpos) (M8 K T r to):=by
 subst hK
 exact pJ pa slot hty hm ho hbase hline
theorem yE(hK:X.K=K):IxR X (Ms K):=by subst hK;exact uP
theorem dH(hK:X.K=K):gA X (.builtin "len") (fun xs H Q=>∃ p ys,xs=[.ref p]/\(SqL K H p ys\/SqT K H p ys)/\Q (.int ys.length) H):=by subst hK;exact aN
end
section
variable {κ:Type} [DecidableEq κ]
noncomputable def lq(kvs:List (κ × V))(k:κ):Option V:=(kvs.find? fun kv=>decide (kv.1=k)).map (·.2)
noncomputable def putK(kvs:List (κ × V))(k:κ)(v:V):List (κ × V) :=
 if (kvs.any fun kv=>decide (kv.1=k))=true then kvs.map (fun kv=>if kv.1=k then (kv.1,v) else kv) else kvs++[(k,v)]
noncomputable def Oh(kvs:List (κ × V))(k:κ):List (κ × V):=kvs.filter fun kv=>decide (kv.1≠k)
theorem dB{p:κ × V}{r:List (κ × V)}{k:κ}(e:p.1=k):lq (p :: r) k=some p.2:=by simp [lq,List.find?_cons,e]
theorem dI{p:κ × V}{r:List (κ × V)}{k:κ}(e:¬ p.1=k):lq (p :: r) k=lq r k:=by simp [lq,List.find?_cons,e]
theorem lC(k:κ):∀ kvs:List (κ × V),(kvs.any fun kv=>decide (kv.1=k))=(lq kvs k).isSome
 | []=>rfl
 | p :: r=>by
  rw [List.any_cons]
  by_cases e:p.1=k
  ·simp only [dB e,decide_eq_true e,Bool.true_or,Option.isSome_some]
  ·rw [dI e,decide_eq_false e,Bool.false_or];exact lC k r
theorem ug(k j:κ)(y:V):∀ kvs:List (κ × V),lq (kvs.map fun kv=>if kv.1=k then (kv.1,y) else kv) j=(lq kvs j).map fun x=>if j=k then y else x
 | []=>rfl
 | p :: r=>by
  have ih:=ug k j y r
  rw [List.map_cons]
  by_cases h:p.1=k
  ·rw [if_pos h]
   by_cases e:p.1=j
   ·rw [dB (p:=(p.1,y)) e,dB e,Option.map_some,if_pos (e.symm.trans h)]
   ·rw [dI (p:=(p.1,y)) e,dI e,ih]
  ·rw [if_neg h]
   by_cases e:p.1=j
   ·rw [dB (p:=p) e,dB e,Option.map_some,if_neg (fun z=>h (e.trans z))]
   ·rw [dI (p:=p) e,dI e,ih]
theorem qT(k j:κ)(y:V):∀ kvs:List (κ × V),lq kvs k=none->lq (kvs++[(k,y)]) j=if j=k then some y else lq kvs j
 | [],_=>by
  by_cases e:k=j
  ·rw [if_pos e.symm];exact dB (p:=(k,y)) e
  ·rw [if_neg (fun z=>e z.symm)];exact dI (p:=(k,y)) e
 | p :: r,hn=>by
  rw [List.cons_append]
  have hk:¬ p.1=k:=fun z=>by rw [dB z] at hn;cases hn
  rw [dI hk] at hn
  have ih:=qT k j y r hn
  by_cases e:p.1=j
  ·rw [dB e,dB e,if_neg (fun z=>hk (e.trans z))]
  ·rw [dI e,dI e,ih]
theorem nR(kvs:List (κ × V))(k j:κ)(y:V):lq (putK kvs k y) j=if j=k then some y else lq kvs j:=by
 unfold putK
 by_cases a:(kvs.any fun kv=>decide (kv.1=k))=true
 ·rw [if_pos a,ug]
  rw [lC] at a
  by_cases e:j=k
  ·obtain⟨x,hx⟩:=Option.isSome_iff_exists.mp a
   rw [if_pos e,e,hx,Option.map_some,if_pos rfl]
  ·rw [if_neg e]
   cases lq kvs j with
   | none=>rfl
   | some x=>rw [Option.map_some,if_neg e]
 ·rw [if_neg a]
  refine qT k j y kvs ?_
  rw [lC] at a
  cases q:lq kvs k with
  | none=>rfl
  | some x=>rw [q] at a;exact (a rfl).elim
theorem iR(kvs:List (κ × V))(k:κ)(v:V):(putK kvs k v).length<=kvs.length+1:=by
 unfold putK
 split
 ·rw [List.length_map];omega
 ·rw [List.length_append,List.length_cons,List.length_nil];omega
theorem vZ.isSome_eq{o:Option V}{u:Option Value}(r:vZ o u):o.isSome=u.isSome:=by
 cases o with
 | none=>cases u with
  | none=>rfl
  | some _=>exact (show False from r).elim
 | some _=>cases u with
  | none=>exact (show False from r).elim
  | some _=>rfl
theorem vZ.getD{o:Option V}{u:Option Value}{d:V}{d':Value}(r:vZ o u)(rd:RelV d d'):RelV (o.getD d) (u.getD d'):=by
 cases o with
 | none=>cases u with
  | none=>exact rd
  | some _=>exact (show False from r).elim
 | some _=>cases u with
  | none=>exact (show False from r).elim
  | some _=>exact r
theorem KV.val{kvs:List (κ × V)}{vs:List (κ × Value)}(r:KV kvs vs)(k:κ):vZ (lq kvs k) (valueAt vs k):=by
 unfold KV at r
 induction r with
 | nil=>exact True.intro
 | @cons p q ps qs h t ih =>
  obtain⟨h1,h2⟩:=h
  by_cases e:p.1=k
  ·have e':q.1=k:=h1.symm.trans e
   have b:valueAt (q :: qs) k=some q.2:=by simp [valueAt,List.find?_cons,e']
   rw [dB e,b];exact h2
  ·have e':¬ q.1=k:=fun z=>e (h1.trans z)
   have b:valueAt (q :: qs) k=valueAt qs k:=by simp [valueAt,List.find?_cons,e']
   rw [dI e,b];exact ih
theorem KV.any{kvs:List (κ × V)}{vs:List (κ × Value)}(r:KV kvs vs)(k:κ):(kvs.any fun kv=>decide (kv.1=k))=vs.any fun kv=>decide (kv.1=k):=by
 unfold KV at r
 induction r with
 | nil=>rfl
 | cons h t ih=>rw [List.any_cons,List.any_cons,ih,h.1]
theorem KV.repl{kvs:List (κ × V)}{vs:List (κ × Value)}(r:KV kvs vs)(k:κ){y:V}{u:Value}(ry:RelV y u) :
  KV (kvs.map fun kv=>if kv.1=k then (kv.1,y) else kv) (vs.map fun kv=>if kv.1=k then (kv.1,u) else kv):=by
 unfold KV at r ⊢
 induction r with
 | nil=>exact .nil
 | @cons p q ps qs h t ih =>
  rw [List.map_cons,List.map_cons]
  refine .cons ?_ ih
  obtain⟨h1,h2⟩:=h
  by_cases e:p.1=k
  ·rw [if_pos e,if_pos (h1.symm.trans e)];exact⟨h1,ry⟩
  ·rw [if_neg e,if_neg (fun z=>e (h1.trans z))];exact⟨h1,h2⟩
theorem KV.put{kvs:List (κ × V)}{vs:List (κ × Value)}(r:KV kvs vs)(k:κ){y:V}{u:Value}(ry:RelV y u):KV (putK kvs k y) (stored vs k u):=by
 unfold putK stored
 rw [r.any k]
 by_cases e:(vs.any fun kv=>decide (kv.1=k))=true
 ·rw [if_pos e,if_pos e];exact r.repl k ry
 ·rw [if_neg e,if_neg e];exact Paired.snoc r ⟨rfl,ry⟩
theorem KV.keys{kvs:List (κ × V)}{vs:List (κ × Value)}(r:KV kvs vs):kvs.map (·.1)=vs.map (·.1):=by
 unfold KV at r
 induction r with
 | nil=>rfl
 | cons h t ih=>rw [List.map_cons,List.map_cons,ih,h.1]
theorem KV.length{kvs:List (κ × V)}{vs:List (κ × Value)}(r:KV kvs vs):kvs.length=vs.length:=Paired.length r
end
theorem BW{P:Program}{w:World}{k:Key}{u:Value}(r:RelV (kV k) u):(dN P w).is k u=true:=by
 cases k with
 | inl i=>obtain⟨t,e⟩:=(show ∃ t,u=Value.int i t from r);subst e;exact tV P w i t
 | inr x=>obtain⟨t,e⟩:=(show ∃ t,u=Value.str x t from r);subst e;exact sH P w x t
theorem qC{P:Program}{w:World}:∀ {ks:List Key}{us:List Value},Vals (ks.map kV) us->ItemsAre (dN P w) ks us
 | [],_,r=>by rw [List.map_nil] at r;cases r;exact .nil
 | k :: ks,_,r=>by
  rw [List.map_cons] at r
  cases r with
  | cons h t=>exact .cons (BW h) (qC t)
noncomputable abbrev KT(H:Hp):List (List Key × V)->List (List Key × Addr × Value)->Prop:=Paired fun p q=>p.1=q.1/\H q.2.1=some (.tup (p.1.map kV))/\RelV p.2 q.2.2
theorem KT.val{H:Hp}{kvs:List (List Key × V)}{xs:List (List Key × Addr × Value)}(r:KT H kvs xs)(k:List Key):vZ (lq kvs k) ((atKey xs k).map (·.2)):=by
 induction r with
 | nil=>exact True.intro
 | @cons p q ps qs h t ih =>
  obtain⟨h1,_,h2⟩:=h
  by_cases e:p.1=k
  ·have e':q.1=k:=h1.symm.trans e
   have b:atKey (q :: qs) k=some q.2:=by simp [atKey,List.find?_cons,e']
   rw [dB e,b];exact h2
  ·have e':¬ q.1=k:=fun z=>e (h1.trans z)
   have b:atKey (q :: qs) k=atKey qs k:=by simp [atKey,List.find?_cons,e']
   rw [dI e,b];exact ih
theorem KT.repl{H:Hp}{kvs:List (List Key × V)}{xs:List (List Key × Addr × Value)}(r:KT H kvs xs)(k:List Key){y:V}{u:Value}(ry:RelV y u) :
  KT H (kvs.map fun kv=>if kv.1=k then (kv.1,y) else kv) (xs.map (putAt k u)):=by
 induction r with
 | nil=>exact .nil
 | @cons p q ps qs h t ih =>
  rw [List.map_cons,List.map_cons]
  refine .cons ?_ ih
  obtain⟨h1,h2,h3⟩:=h
  unfold putAt
  by_cases e:p.1=k
  ·rw [if_pos e,if_pos (h1.symm.trans e)];exact⟨h1,h2,ry⟩
  ·rw [if_neg e,if_neg (fun z=>e (h1.trans z))];exact⟨h1,h2,h3⟩
theorem KT.put{H:Hp}{kvs:List (List Key × V)}{xs:List (List Key × Addr × Value)}(r:KT H kvs xs)(k:List Key){b:Addr}{y:V}{u:Value}(hb:H b=some (.tup (k.map kV)))(ry:RelV y u) :
  KT H (putK kvs k y) (storedH xs k b u):=by
 have e:(kvs.any fun kv=>decide (kv.1=k))=(atKey xs k).isSome:=by
  rw [lC,(r.val k).isSome_eq,Option.isSome_map]
 unfold putK storedH
 rw [e]
 by_cases q:(atKey xs k).isSome=true
 ·rw [if_pos q,if_pos q];exact r.repl k ry
 ·rw [if_neg q,if_neg q];exact Paired.snoc r ⟨rfl,hb,ry⟩
theorem KT.keeps{H H':Hp}{kvs:List (List Key × V)}{xs:List (List Key × Addr × Value)}(r:KT H kvs xs)(ht:∀ b ys,H b=some (.tup ys)->H' b=some (.tup ys)):KT H' kvs xs :=
 Paired.mapP r fun _ _ z=>⟨z.1,ht _ _ z.2.1,z.2.2⟩
section
variable {P:Program}{w:World}{H:Hp}{h:Heap}{a:Addr}
theorem J4{u:HO}(ok:HOk P w H h)(e:Rd H a u):cV P w H h a u:=e.ok ok
theorem Cm{kvs:List (Key × V)}(ok:HOk P w H h)(e:Rd H a (.dK kvs)):kvs.length<=sizeLine/\(a == sysModules)=false/\∃ vs,KV kvs vs/\h.DictOf (dN P w) a vs :=
 show cV P w H h a (.dK kvs) from J4 ok e
theorem Li{kvs:List (Key × V)}(ok:HOk P w H h)(e:H a=some (.dK kvs)):kvs.length<=sizeLine/\(a == sysModules)=false/\∃ vs,KV kvs vs/\h.DictOf (dN P w) a vs:=Cm ok (.inl e)
theorem uG{ks:List Key}(ok:HOk P w H h)(e:H a=some (.tup (ks.map kV))):(tupleKind (dN P w)).is h ks a:=by
 obtain⟨_,its,r,o,h1,h2,n,h3⟩:=(show cV P w H h a (.tup (ks.map kV)) from ok a _ e)
 exact⟨o,its.toArray,n,h1,h2,h3,by simpa using qC r⟩
theorem Ca{kvs:List (List Key × V)}(ok:HOk P w H h)(e:Rd H a (.dT kvs)):kvs.length<=sizeLine/\(a == sysModules)=false /\
  ∃ xs,KT H kvs xs/\h.DictOfH (tupleKind (dN P w)) a xs:=by
 obtain⟨z,y,xs,r,o,es,ep,h1,h2,h3,h4,h5⟩:=(show cV P w H h a (.dT kvs) from J4 ok e)
 refine⟨z,y,xs,r,o,es,ep,h1,h2,h3,h4,fun x hx=>?_,h5⟩
 have all:∀ {l:List (List Key × V)}{m:List (List Key × Addr × Value)},KT H l m->∀ x∈m,(tupleKind (dN P w)).is h x.1 x.2.1:=by
  intro l m q
  induction q with
  | nil=>intro x hx;exact nomatch hx
  | @cons p q ps qs hq t ih =>
   intro x hx
   rcases List.mem_cons.mp hx with e | hx
   ·subst e
    exact uG ok (by rw [← hq.1];exact hq.2.1)
   ·exact ih x hx
 exact all r x hx
theorem Mu{kvs:List (List Key × V)}(ok:HOk P w H h)(e:H a=some (.dT kvs)):kvs.length<=sizeLine/\(a == sysModules)=false /\
  ∃ xs,KT H kvs xs/\h.DictOfH (tupleKind (dN P w)) a xs:=Ca ok (.inl e)
end
noncomputable def vA(H:Hp)(a:Addr)(y:V)(r:Option V):Prop :=
 (∃ kvs k,Rd H a (.dK kvs)/\y=kV k/\r=lq kvs k)\/∃ kvs k b,Rd H a (.dT kvs)/\y=.ref b/\H b=some (.tup (k.map kV))/\r=lq kvs k
noncomputable def El(H:Hp)(a:Addr)(y v:V)(H':Hp):Prop :=
 (∃ kvs k,H a=some (.dK kvs)/\y=kV k/\kvs.length < sizeLine/\H'=upd H a (.dK (putK kvs k v))) \/
 ∃ kvs k b,H a=some (.dT kvs)/\y=.ref b/\H b=some (.tup (k.map kV))/\kvs.length < sizeLine/\H'=upd H a (.dT (putK kvs k v))
theorem vA.k{H:Hp}{a:Addr}{kvs:List (Key × V)}{k:Key}(e:H a=some (.dK kvs)):vA H a (kV k) (lq kvs k):=.inl ⟨kvs,k,.inl e,rfl,rfl⟩
theorem vA.t{H:Hp}{a b:Addr}{kvs:List (List Key × V)}{k:List Key}(e:H a=some (.dT kvs))(eb:H b=some (.tup (k.map kV))):vA H a (.ref b) (lq kvs k):=.inr ⟨kvs,k,b,.inl e,rfl,eb,rfl⟩
theorem El.k{H:Hp}{a:Addr}{kvs:List (Key × V)}{k:Key}{v:V}(e:H a=some (.dK kvs))(hl:kvs.length < sizeLine):El H a (kV k) v (upd H a (.dK (putK kvs k v))):=.inl ⟨kvs,k,e,rfl,hl,rfl⟩
theorem El.t{H:Hp}{a b:Addr}{kvs:List (List Key × V)}{k:List Key}{v:V}(e:H a=some (.dT kvs))(eb:H b=some (.tup (k.map kV)))(hl:kvs.length < sizeLine) :
  El H a (.ref b) v (upd H a (.dT (putK kvs k v))):=.inr ⟨kvs,k,b,e,rfl,eb,hl,rfl⟩
section
variable {X:Cx}{pins:List (Addr × Obj)}{σ:St}{H:Hp}{s:Shared}{a:Addr}{y v:V}{u r:Value}{o:Option V}{A:Around}{E:Value->Shared->Prop}
theorem Inv.big(I:Inv X pins σ H s):sysModules < s.heap.objs.size:=by
 have h:mainGlobals < s.heap.objs.size:=(I.mod.glob.keeps I.bk).lt
 exact Nat.lt_trans (by decide) h
theorem xJ{Q:Value->Shared->Prop}(hu:A.units+1 < cLine)(I:Inv X pins σ H s)(g:vA H a y (some v))(ry:RelV y u)(h:∀ w' s',Inv X pins σ H s'->RelV v w'->Q w' s') :
  wpAny (model X.prog X.w) A (getItem (.ref a) u) Q E s:=by
 rcases g with ⟨kvs,k,e,ey,l⟩ | ⟨kvs,k,b,e,ey,eb,l⟩
 ·subst ey
  obtain⟨z,hd,vs,rel,dd⟩:=Cm I.hok e
  obtain⟨w',hw,rw'⟩:=vZ.some_of (v:=v) (o:=valueAt vs k) (by rw [l];exact rel.val k)
  exact wpAny_getItem_of (BW ry) dd.mapOf hw (h w' _ (I.tok _) rw')
 ·subst ey
  cases (show u=Value.ref b from ry)
  obtain⟨z,hd,xs,rel,dd⟩:=Ca I.hok e
  obtain⟨w',hw,rw'⟩:=vZ.some_of (v:=v) (o:=(atKey xs k).map (·.2)) (by rw [l];exact rel.val k)
  obtain⟨p,hp,hp2⟩:=Option.map_eq_some_iff.mp hw
  refine wpAny_getItem_heap (tupleKind_room_in1 hu) (uG I.hok eb) dd hp ?_
  rw [hp2]
  exact h w' _ (I.tok _) rw'
theorem Oo{Q:Value->Shared->Prop}(hu:A.units+1 < cLine)(I:Inv X pins σ H s)(g:vA H a y o)(ry:RelV y u)(h:∀ s',Inv X pins σ H s'->Q (.bool o.isSome) s') :
  wpAny (model X.prog X.w) A (compareOp .In u (.ref a)) Q E s:=by
 rcases g with ⟨kvs,k,e,ey,l⟩ | ⟨kvs,k,b,e,ey,eb,l⟩
 ·subst ey
  obtain⟨z,hd,vs,rel,dd⟩:=Cm I.hok e
  refine wpAny_in_of (BW ry) hd dd.mapOf ?_
  rw [← (rel.val k).isSome_eq,← l]
  exact h _ (I.tok _)
 ·subst ey
  cases (show u=Value.ref b from ry)
  obtain⟨z,hd,xs,rel,dd⟩:=Ca I.hok e
  refine wpAny_in_heap (tupleKind_room_in1 hu) (uG I.hok eb) hd dd ?_
  have q:=(rel.val k).isSome_eq
  rw [Option.isSome_map] at q
  rw [← q,← l]
  exact h _ (I.tok _)
theorem Am{h':Heap}{t':Nat}{ob:HO}(I:Inv X pins σ H s)(mu:Mut (H a))(hs:Heap.SameBut a s.heap h')(he:∃ q,h'.get? a=some q)(new:cV X.prog X.w (upd H a ob) h' a ob) :
  Inv X pins σ (upd H a ob) { s with heap:=h',toks:=t' } :=
 I.write (x:=a) (e:=a) mu (.inl rfl) (fun b q hb z=>(hs.2 b hb).trans z) he new
theorem Ir{P:Program}{w:World}{H':Hp}{h':Heap}{kvs:List (Key × V)}{vs:List (Key × Value)}(z:kvs.length<=sizeLine)(hd:(a == sysModules)=false)(rel:KV kvs vs)(dd:h'.DictOf (dN P w) a vs) :
  cV P w H' h' a (.dK kvs):=⟨z,hd,vs,rel,dd⟩
theorem Bh{H':Hp}{Q:Unit->Shared->Prop}(hu:A.units+1 < cLine)(I:Inv X pins σ H s)(g:El H a y v H')(ry:RelV y u)(rv:RelV v r)(h:∀ s',Inv X pins σ H' s'->Q () s') :
  wpAny (model X.prog X.w) A (setItem (.ref a) u r) Q E s:=by
 rcases g with ⟨kvs,k,e,ey,l,eH⟩ | ⟨kvs,k,b,e,ey,eb,l,eH⟩
 ·subst ey eH
  obtain⟨z,hd,vs,rel,dd⟩:=Li I.hok e
  have hz:vs.length<=sizeLine:=by rw [← rel.length];exact z
  have hl:(putK kvs k v).length<=sizeLine:=by have:=iR kvs k v;omega
  refine wpAny_setItem_pairs (hsz:=hz) (BW ry) dd fun h' dd' hs=>h _ ?_
  have he:∃ q,h'.get? a=some q:=let ⟨q,_,_,hq,_⟩:=dd';⟨q,hq⟩
  exact Am I (by rw [e];exact True.intro) hs he (Ir hl hd (rel.put k rv) dd')
 ·subst ey eH
  cases (show u=Value.ref b from ry)
  obtain⟨z,hd,xs,rel,dd⟩:=Mu I.hok e
  have hz:xs.length<=sizeLine:=by rw [← Paired.length rel];exact z
  have hl:(putK kvs k v).length<=sizeLine:=by have:=iR kvs k v;omega
  refine wpAny_setItem_heap (hsz:=hz) (tupleKind_room_in1 hu) (uG I.hok eb) dd fun h' dd' hs=>h _ ?_
  obtain⟨q,es,ep,hq,h2,h3,h4,_,h5⟩:=dd'
  refine Am I (by rw [e];exact True.intro) hs ⟨q,hq⟩ ⟨hl,hd,_,(rel.put k eb rv).keeps fun c ys ec=>?_,q,es,ep,hq,h2,h3,h4,h5⟩
  rw [aL (mL ec e (fun z=>nomatch z))]
  exact ec
end
section
variable {X:Cx}{pins:List (Addr × Obj)}{σ:St}{H:Hp}{s:Shared}{a:Addr}{kvs:List (Key × V)}{k:Key}{u:Value}{A:Around}{E:Value->Shared->Prop}
end
noncomputable def M6(i:Expr):Prop:=∀ ov iv,subscripted i false ov iv=operate [ov,iv] (getItem ov iv)
theorem Gp{prog:Program}{w:World}{A:Around}{E:Value->Shared->Prop}{s:Shared}{env:Env}{value slice:Expr}{pos:Pos}{T id:String}{Q:Value->Shared->Prop}
  (hl:typeLookup (.type T) "__getitem__" = pure (some (.builtin id)))(hs:M6 slice)
  (h:wpAny (model prog w) A (eval value env) (fun o s₁=>wpAny (model prog w) A (eval slice env) (fun i s₂=>s₂.TypeIs o T/\wpAny (model prog w) A (getItem o i) Q E s₂) E s₁) E s) :
  wpAny (model prog w) A (eval (.Subscript value slice pos) env) Q E s:=by
 refine Subscript_ (wpAny_mono h (fun o s₁ h₁=>wpAny_mono h₁ (fun i s₂ h₂=>?_) fun _ _ x=>x) fun _ _ x=>x)
 obtain⟨hT,h₂⟩:=h₂
 unfold subscriptTail
 refine wpAny_bind ?_
 rw [getitemInPython_of_ne hT.not_modules]
 refine wpAny_bind (wpAny_specialOf hT hl ?_)
 have fin:wpAny (model prog w) A (subscripted slice false o i) (fun r s₃=>wpAny (model prog w) A (letTemporaryGo value o r >>= fun _=>pure r) Q E s₃) E s₂:=by
  rw [hs o i]
  exact wpAny_operating (wpAny_mono h₂ (fun r s₃ h₃=>wpAny_bind (wpAny_letTemporaryGo (wpAny_pure h₃))) fun _ _ x=>x)
 first
  | exact wpAny_pure (wpAny_bind fin)
  | exact wpAny_bind (wpAny_pure (wpAny_bind fin))
  | exact wpAny_bind fin
theorem sZ{X:Cx}{pins:List (Addr × Obj)}{σ:St}{H:Hp}{s:Shared}{a:Addr}{y:V}{o:Option V}(I:Inv X pins σ H s)(g:vA H a y o):s.TypeIs (.ref a) "dict":=by
 rcases g with ⟨kvs,k,e,_,_⟩ | ⟨kvs,k,b,e,_,_,_⟩
 ·obtain⟨_,_,vs,_,dd⟩:=Cm I.hok e
  exact dd.typeIs
 ·obtain⟨_,_,xs,_,dd⟩:=Ca I.hok e
  exact dd.typeIs
noncomputable def LK(td ty:TE):TE:=fun σ H Q=>td σ H fun x H1=>ty σ H1 fun y H2=>∃ a v,x=.ref a/\vA H2 a y (some v)/\Q v H2
noncomputable def Ol(ty td:TE):TE:=fun σ H Q=>ty σ H fun y H1=>td σ H1 fun x H2=>∃ a o,x=.ref a/\vA H2 a y o/\Q (.bl o.isSome) H2
noncomputable def LC(td ty tv:TE):TS:=fun D σ H=>tv σ H fun v H1=>td σ H1 fun x H2=>ty σ H2 fun y H3=>∃ a H4,x=.ref a/\El H3 a y v H4/\D.nx σ H4
section
variable {X:Cx}{o i e value:Expr}{pos pos' tpos:Pos}{td ty tv:TE}
theorem Bj(hu:X.A.units+1 < cLine)(ho:PE X o td)(hi:PE X i ty)(hs:M6 i):PE X (.Subscript o i pos) (LK td ty):=by
 intro pins s σ H Q I h
 refine Gp PySem.F.slot_dict_getitem.lookup hs (thn (ho pins s σ H _ I h) fun u s1 ⟨x,H1,I1,rx,q1⟩=>thn (hi pins s1 σ H1 _ I1 q1) fun iv s2 ⟨y,H2,I2,ry,a,v,ex,g,q2⟩=>?_)
 subst ex
 obtain rfl:u=Value.ref a:=rx
 exact⟨sZ I2 g,xJ hu I2 g ry fun w' s3 I3 rw'=>⟨v,H2,I3,rw',q2⟩⟩
theorem J5(hu:X.A.units+1 < cLine)(hi:PE X i ty)(ho:PE X o td):PC X .In i o (Ol ty td):=by
 intro pins s σ H Q I h
 refine thn (hi pins s σ H _ I h) fun iv s1 ⟨y,H1,I1,ry,q1⟩=>thn (ho pins s1 σ H1 _ I1 q1) fun u s2 ⟨x,H2,I2,rx,a,ov,ex,g,q2⟩=>?_
 subst ex
 obtain rfl:u=Value.ref a:=rx
 exact Oo hu I2 g ry fun s3 I3=>⟨.bl ov.isSome,H2,I3,rfl,q2⟩
theorem yx(hu:X.A.units+1 < cLine)(ho:PE X o td)(hi:PE X i ty)(hv:PE X value tv)(hs:swapsWith value (some (.Subscript o i pos')) pos.line X.env=pure false) :
  PS X (.Assign [.Subscript o i pos'] value pos) (LC td ty tv):=by
 intro pins s σ H D I h
 refine wpAny_Assign_Subscript (thn (hv pins s σ H _ I h) fun r s1 ⟨v,H1,I1,rv,q1⟩=>thn (ho pins s1 σ H1 _ I1 q1) fun u s2 ⟨x,H2,I2,rx,q2⟩=>thn (hi pins s2 σ H2 _ I2 q2) fun iv s3 ⟨y,H3,I3,ry,a,H4,ex,g,q3⟩=>?_) hs
 subst ex
 obtain rfl:u=Value.ref a:=rx
 exact Bh hu I3 g ry rv fun s4 I4=>⟨σ,H4,I4,q3⟩
end
theorem CP{P:Program}{w:World}{H:Hp}(h:Heap)(hb:sysModules < h.objs.size):cV P w H (h.push { cls:=.type "dict",data:=.dict #[] }) h.objs.size (.dK []) :=
 ⟨Nat.zero_le _,beq_eq_false_iff_ne.mpr (Ne.symm (Nat.ne_of_lt hb)),[],.nil,Heap.DictOf.new h⟩
theorem Cv{P:Program}{w:World}{H:Hp}(h:Heap)(hb:sysModules < h.objs.size):cV P w H (h.push { cls:=.type "dict",data:=.dict #[] }) h.objs.size (.dT []) :=
 ⟨Nat.zero_le _,beq_eq_false_iff_ne.mpr (Ne.symm (Nat.ne_of_lt hb)),[],.nil,_,#[],0,Heap.get?_push_size _ rfl,⟨rfl,rfl,rfl⟩,rfl,rfl,List.nodup_nil⟩
noncomputable def Jz:TE:=fun _ H Q=>∀ p,H p=none->Q (.ref p) (upd H p (.dK []))
noncomputable def Ju:TE:=fun _ H Q=>∀ p,H p=none->Q (.ref p) (upd H p (.dT []))
section
variable {X:Cx}{pos:Pos}
theorem Dp:PE X (.Dict [] [] pos) Jz:=fun pins s σ H Q I h =>
 wpAny_Dict_empty ⟨.ref s.heap.objs.size,_,I.laid (a:=s.heap.objs.size) (o:=.dK []) (t':=s.toks) (fun _ _ q=>Heap.get?_push_of_some _ q) (Nat.le_refl _) (CP s.heap I.big),rfl,h _ (I.hok.fresh (Nat.le_refl _))⟩
theorem DW:PE X (.Dict [] [] pos) Ju:=fun pins s σ H Q I h =>
 wpAny_Dict_empty ⟨.ref s.heap.objs.size,_,I.laid (a:=s.heap.objs.size) (o:=.dT []) (t':=s.toks) (fun _ _ q=>Heap.get?_push_of_some _ q) (Nat.le_refl _) (Cv s.heap I.big),rfl,h _ (I.hok.fresh (Nat.le_refl _))⟩
end
noncomputable def EY(kvs more:List (Key × V)):List (Key × V):=more.foldl (fun acc kv=>putK acc kv.1 kv.2) kvs
theorem jD:∀(more kvs:List (Key × V)),(EY kvs more).length<=kvs.length+more.length
 | [],kvs=>by show kvs.length<=kvs.length+0;omega
 | p :: r,kvs=>by
  have h1:=jD r (putK kvs p.1 p.2)
  have h2:=iR kvs p.1 p.2
  show (EY (putK kvs p.1 p.2) r).length<=_
  rw [List.length_cons];omega
structure M1(X:Cx)(o:Expr)(m:Str)(apos:Pos)(e:Expr)(cpos:Pos):Prop where
 base:attributeBase o m X.env (eval o X.env)=eval o X.env
 few:((backTo cpos (starEach [e] X.env)).all (fun x=>!x.1) && (backToKw cpos (keywordEach [] X.env)).all (fun x=>x.1.isSome)
  && decide (([e]:List Expr).length+([]:List Keyword).length+(if ([]:List Keyword).isEmpty then 0 else 1) < 30))=true
 line:(apos.endLine == cpos.line)=true
 trees:backTo cpos (starEach [e] X.env)=[(false,eval e X.env)]
structure M2(X:Cx)(o:Expr)(m:Str)(apos:Pos)(e f:Expr)(cpos:Pos):Prop where
 base:attributeBase o m X.env (eval o X.env)=eval o X.env
 few:((backTo cpos (starEach [e,f] X.env)).all (fun x=>!x.1) && (backToKw cpos (keywordEach [] X.env)).all (fun x=>x.1.isSome)
  && decide (([e,f]:List Expr).length+([]:List Keyword).length+(if ([]:List Keyword).isEmpty then 0 else 1) < 30))=true
 line:(apos.endLine == cpos.line)=true
 trees:backTo cpos (starEach [e,f] X.env)=[(false,eval e X.env),(false,eval f X.env)]
section
variable {X:Cx}{pins:List (Addr × Obj)}{σ:St}{H:Hp}{s:Shared}{a:Addr}{y d:V}{u r:Value}{o:Option V}{A:Around}{E:Value->Shared->Prop}
end
section
variable {X:Cx}{o e f:Expr}{apos cpos:Pos}{td ty tx:TE}
end
section
variable {X:Cx}{pins:List (Addr × Obj)}{σ:St}{H:Hp}{s:Shared}{a:Addr}{kvs:List (Key × V)}{A:Around}{E:Value->Shared->Prop}
end
section
variable {X:Cx}{pins:List (Addr × Obj)}{σ:St}{H:Hp}{s:Shared}{a:Addr}{y:V}{u:Value}{A:Around}{E:Value->Shared->Prop}
end
end L2
namespace MD
open PySem
noncomputable abbrev kwD(d:Value):List (Str × Value):=[(Str.ofString "default",d)]
section
variable {prog:Program}{w:World}{A:Around}{R:Result->Shared->Prop}{It:Addr}{fp wr:List Addr}{n:Nat}{Pr:Nat->Value->Prop}{Sx:Nat->Heap->Prop}
end
section
variable {prog:Program}{w:World}{A:Around}{E:Value->Shared->Prop}{s:Shared}
end
end MD
namespace MQ
open PySem
theorem K8:typeLookup (.type "list") "keys" = pure none:=am_miss_of_fast (by decide +kernel)
end MQ
namespace DP
open PySem
theorem Io:entryFor table "dict.update.loop" = some Builtin.«dict.update.loop»:=entryFor_of_tree (by kernel_rfl)
theorem Ik:plainId "dict.update.loop" = true:=by decide +kernel
section
variable {prog:Program}{w:World}{K:Type} [DecidableEq K] {knd:KeyKind prog w K}{A:Around}{R:Result->Shared->Prop}{It:Addr}{fp wr:List Addr}{n:Nat}{Pr:Nat->Value->Prop}{Sx:Nat->Heap->Prop}
noncomputable def GD(ks:Nat->K)(vx:Nat->Value):Nat->Nat->List (K × Value)->List (K × Value)
 | _,0,kvs=>kvs
 | i,k+1,kvs=>GD ks vx (i+1) k (stored kvs (ks i) (vx i))
theorem Ig(kvs:List (K × Value))(k:K)(v:Value):(stored kvs k v).length<=kvs.length+1:=by
 unfold stored
 split
 ·rw [List.length_map];omega
 ·simp
end
section
variable {prog:Program}{w:World}{K:Type} [DecidableEq K] {knd:KeyKind prog w K}{A:Around}{E:Value->Shared->Prop}{s:Shared}
end
end DP
namespace L2
open PySem PySem.Spec PyProof.Rows
noncomputable def Prs(H:Hp):List V->List (Key × V)->Prop:=Paired fun v kv=>∃ p:Addr,v=.ref p/\H p=some (.tup [kV kv.1,kv.2])
noncomputable def Itd(a:Int)(n:Nat):It:=⟨fun i _=>i < n,fun i H x H'=>H'=H/\x=.int (a - i),fun i _=>n<=i⟩
theorem yg{P:Program}{w:World}{K:W.Frag}{tg:Expr}(it:Addr)(a:Int)(n:Nat):Turn P w K tg (Itd a n) [it] it (fun i h=>IsRangeIter h it (a+(i:Nat) * (-1)) ((n:Int) - (i:Nat)) (-1)) where
 mem:=by simp
 obj:=fun i h st b hb=>by
  have e:b=it:=by simpa using hb
  subst e
  refine⟨_,st,fun v z=>?_⟩
  have z':Data.fields _=Data.cell v:=z
  cases z'
 keep:=fun i h h' st k=>k it (by simp) _ st
 item:=by
  intro X hP hw hK hc i pins s σ H E I hf st hg
  subst hP hw hK
  obtain⟨f0,f1,f2,f3,f4,f5⟩:=hf it (by simp)
  refine (Walks.range (prog:=X.prog) (w:=X.w) (I.ok.hd hc) it a (-1) n).item i s _ _ hg st fun v h' tk hv st' kk=>?_
  obtain⟨t,rfl⟩:=hv
  have I1:Inv X pins σ H { s with heap:=h',toks:=tk }:=I.turned (fun b o hb e=>kk b o (by simpa using hb) e) f0 f1 f3 f4 f5
  refine⟨_,rfl,yW (s:={ s with heap:=h',toks:=tk }) (n:="range_iterator") st' rfl rfl (by decide) ⟨.int (a - i),H,I1,⟨t,?_⟩,⟨rfl,rfl⟩,st',fun b hb=>(hf b hb).1⟩⟩
  congr 1
  omega
 done:=by
  intro X hP hw hK hc i pins s σ H E I hf st hg
  subst hP hw hK
  obtain⟨f0,f1,f2,f3,f4,f5⟩:=hf it (by simp)
  refine wpAny_pyNext_range_end (I.ok.hd hc) st (by have:n<=i:=hg;omega) fun h' eb=>⟨rfl,?_⟩
  exact I.turned (t':=s.toks) (fun b o hb e=>eb b o hb e) f0 f1 f3 f4 f5
 self:=fun _ _ _ _ _ st h=>wpAny_pyIter_rangeiter st h
theorem uM{a:Int}{n:Nat}{g:TG}{tb:TS}{D:Ends}{σ:St}{H:Hp}(Pv:Nat->St->Hp->Prop)(h0:Pv 0 σ H)
  (hs:∀ i σ H,i < n->Pv i σ H->g (.int (a - i)) σ H fun σ2 H2=>tb { D with nx:=Pv (i+1),ct:=Pv (i+1),bk:=D.nx } σ2 H2)(hd:∀ σ H,Pv n σ H->D.nx σ H) :
  ∃ W:Nat->Nat->St->Hp->Prop,(∃ m,W 0 m σ H)/\∀ i m σ H,W i m σ H ->
   ((Itd a n).stop i H/\D.nx σ H)\/((Itd a n).go i H/\∃ N:St->Hp->Prop,(∀ σ' H',N σ' H'->∃ m',m' < m/\W (i+1) m' σ' H')/\∀ x H',(Itd a n).yld i H x H'->g x σ H' fun σ2 H2=>tb { D with nx:=N,ct:=N,bk:=D.nx } σ2 H2):=by
 refine⟨fun i m σ H=>m=n - i/\i<=n/\Pv i σ H,⟨n,rfl,Nat.zero_le _,h0⟩,?_⟩
 rintro i m σ H ⟨rfl,hi,p⟩
 by_cases hlt:i < n
 ·refine .inr ⟨hlt,Pv (i+1),fun σ' H' p'=>⟨n - (i+1),by omega,rfl,hlt,p'⟩,fun x H' y=>?_⟩
  obtain⟨rfl,rfl⟩:=y
  exact hs i σ _ hlt p
 ·have e:i=n:=by omega
  subst e
  exact .inl ⟨Nat.le_refl _,hd σ H p⟩
end L2
namespace M08
end M08
namespace SLi
open PySem
theorem clip(a b n:Nat):Builtin.Str.strSliceIndices (some (a:Int)) (some (b:Int)) 1 n=Builtin.Str.strSliceIndices (some ((min a n:Nat):Int)) (some ((min b n:Nat):Int)) 1 n:=by
 have e1:¬ ((a:Int) < 0):=by omega
 have e2:¬ ((b:Int) < 0):=by omega
 have e3:¬ (((min a n:Nat):Int) < 0):=by omega
 have e4:¬ (((min b n:Nat):Int) < 0):=by omega
 have h1:max (0:Int) (min (a:Int) (n:Int))=max 0 (min ((min a n:Nat):Int) (n:Int)):=by omega
 have h2:max (0:Int) (min (b:Int) (n:Int))=max 0 (min ((min b n:Nat):Int) (n:Int)):=by omega
 simp only [Builtin.Str.strSliceIndices,e1,e2,e3,e4,if_false,h1,h2]
 rfl
theorem both(x:Str){a b:Nat}(h:a<=b):Txt.slice x (some (a:Int)) (some (b:Int))=⟨((x.cps.toList.drop a).take (b - a)).toArray⟩:=by
 have hl:x.cps.toList.length=x.length:=by simp [Str.length]
 have e:Txt.slice x (some (a:Int)) (some (b:Int))=Txt.slice x (some ((min a x.length:Nat):Int)) (some ((min b x.length:Nat):Int)):=by
  unfold Txt.slice
  rw [clip]
 rw [e]
 have p:=StrLaws.sliceText_plain (x:=x) (i:=((min a x.length:Nat):Int)) (j:=((min b x.length:Nat):Int)) ⟨by omega,by omega,by omega⟩
 have p':Txt.slice x (some ((min a x.length:Nat):Int)) (some ((min b x.length:Nat):Int))=_:=p
 rw [p']
 congr 1
 have e1:(((min a x.length:Nat):Int)).toNat=min a x.length:=by omega
 have e2:(((min b x.length:Nat):Int) - ((min a x.length:Nat):Int)).toNat=min b x.length - min a x.length:=by omega
 rw [e1,e2]
 congr 1
 by_cases ha:a<=x.length
 ·rw [Nat.min_eq_left ha]
  by_cases hb:b<=x.length
  ·rw [Nat.min_eq_left hb]
  ·rw [Nat.min_eq_right (by omega)]
   rw [List.take_of_length_le (by rw [List.length_drop];omega),List.take_of_length_le (by rw [List.length_drop];omega)]
 ·rw [Nat.min_eq_right (by omega),List.drop_eq_nil_of_le (by omega),List.drop_eq_nil_of_le (by omega)]
  simp
end SLi
namespace L2
open PySem PySem.Spec PyProof.Rows M08
structure OkC(cs:List (List Nat)):Prop where
 few:cs.length<=100
 size:∀ c∈cs,1<=c.length/\c.length<=8
theorem cJ{α:Type}(x:α)(xs:List α):atI (x :: xs) 0=some x:=aO (xs:=x :: xs) (j:=0) rfl
noncomputable def HS:V->List V->Hp->VK->Prop:=fun x vs H Q=>∃(l:Addr)(xs:List V)(n:Int)(y:V)(i:Nat),x=.ref l/\vs=[.int n,y]/\n=(i:Int)/\H l=some (.lst xs)/\i<=xs.length/\xs.length < 1000000/\Q .non (upd H l (.lst (xs.take i++y :: xs.drop i)))
theorem yr{X:Cx}:MtR X "list.insert" HS:=by
 intro pins s σ H x vs v us Q I rx rv h
 obtain⟨l,xs,m,y,i,rfl,rfl,hm,hH,hi,hz,q⟩:=h
 cases rx
 obtain⟨u,u',rfl,⟨t,rfl⟩,ry⟩:=vals2 rv
 obtain⟨z,its,n,r,hl,e⟩:=I.lstM hH
 have hb:=cu
 have hf:¬ (!Builtin.List.listFitsIndex m)=true:=by
  unfold Builtin.List.listFitsIndex
  have h1:(-(2 ^ 63:Int)<=m):=by omega
  have h2:(m < 2 ^ 63):=by omega
  rw [decide_eq_true h1,decide_eq_true h2]
  decide
 have hsz:its.toArray.size<=sizeLine:=by rw [List.size_toArray,← hl];exact z
 refine call_meets F.slot_list_insert ⟨_,e,rfl⟩ F.entry_list_insert (F.args_list_insert_3 _ _ _) (PySem.AutoListH.list_insert_list_int_val_1 l its.toArray n m t u' hf hsz) ⟨e,?_⟩
 refine⟨.non,_,I.lset (its':=its.take i++u' :: its.drop i) hH e ?_ ((r.take i).append (.cons ry (r.drop i))) ?_,rfl,q⟩
 ·have hk:(if m < 0 then (m+((its.toArray.size:Nat):Int)).toNat else min m.toNat its.toArray.size)=i:=by
   rw [if_neg (by omega),List.size_toArray]
   omega
  show (have k:=if m < 0 then (m+((its.toArray.size:Nat):Int)).toNat else min m.toNat its.toArray.size;(its.toArray.extract 0 k).push u'++its.toArray.extract k)=_
  rw [hk]
  apply Array.toList_inj.mp
  rw [Array.toList_append,Array.toList_push,Array.toList_extract,Array.toList_extract,List.extract_eq_take_drop,List.extract_eq_take_drop]
  simp
  exact List.take_of_length_le (by rw [List.length_drop];omega)
 ·rw [List.length_append,List.length_cons,List.length_take,List.length_drop]
  omega
end L2
namespace M08
end M08
namespace M05
noncomputable def nmN:Nat->Nat->List Nat
 | 0,_=>[]
 | f+1,r=>if r=0 then [] else nmN f ((r - 1) / 26)++[97+(r - 1) % 26]
noncomputable def nm(r:Nat):List Nat:=nmN r r
noncomputable def sh:Nat->Nat
 | 0=>0
 | s+1=>26 * sh s+(if s=0 then 0 else 26)
end M05
namespace M05
theorem least{F:Nat->Prop}:∀ N:Nat,(∃ m,m<=N/\F m)->∃ m,m<=N/\F m/\∀ j,j < m->¬ F j
 | 0,⟨m,h,f⟩=>⟨m,h,f,fun j hj=>by omega⟩
 | N+1,⟨m,h,f⟩=>by
  by_cases hx:∃ m,m<=N/\F m
  ·obtain⟨m',h',f',g'⟩:=least N hx
   exact⟨m',by omega,f',g'⟩
  ·have em:m=N+1:=by
    by_cases z:m<=N
    ·exact absurd ⟨m,z,f⟩ hx
    ·omega
   subst em
   exact⟨N+1,Nat.le_refl _,f,fun j hj z=>hx ⟨j,by omega,z⟩⟩
end M05
namespace L2
open PySem PySem.Spec PyProof.Rows
noncomputable def LR:R2:=fun x y H Q=>∃(a b:Addr)(xs ys:List V),x=.ref a/\y=.ref b/\H a=some (.tup xs)/\H b=some (.tup ys)/\xs.length+ys.length<=sizeLine/\∀(q:Addr)(H':Hp),Same H H'->H' q=some (.tup (xs++ys))->Q (.ref q) H'
theorem fM{X:Cx}:OpR X (binaryOp .Add) LR:=by
 intro pins s σ H x y v u Q I rx ry h
 obtain⟨a,b,xs,ys,rfl,rfl,ha,hb,hz,q⟩:=h
 cases xs with
 | cons x1 xs =>
  refine Gk pins s σ H (.ref a) (.ref b) v u Q I rx ry ⟨a,b,_,_,rfl,rfl,SqT.of ha,SqT.of hb,by simp,hz,fun z=>?_,fun z p hp=>q p _ (aq hp _) ak⟩
  refine q a H (Same.refl H) ?_
  rw [ha,z,List.append_nil]
 | nil =>
  cases rx
  cases ry
  obtain⟨its,r1,p1,_⟩:=I.tuple (SqT.of (K:=X.K) ha)
  obtain⟨its2,r2,p2,_⟩:=I.tuple (SqT.of (K:=X.K) hb)
  cases r1
  obtain⟨⟨cls,dd,data,sl⟩,ho,hc,n,hd⟩:=id p1
  obtain⟨⟨cls2,dd2,data2,sl2⟩,ho2,hc2,n2,hd2⟩:=id p2
  simp only at hc hd hc2 hd2
  subst hc hd hc2 hd2
  refine concat_meets ⟨_,ho,rfl⟩ ⟨_,ho2,rfl⟩ noFill_tuple_add seq_tuple_add PySem.F.slot_tuple_add PySem.F.entry_tuple_add (PySem.F.args_tuple_add_2 _ _) (tuple_addW0 a b _ its2.toArray n n2 dd dd2 sl sl2 rfl) ⟨ho,ho2,?_⟩
  exact⟨.ref b,H,I,rfl,q b H (Same.refl H) hb⟩
theorem tH(a:Str):∀ xs:List Str,inV (.str a) (xs.map V.str)=decide (a∈xs)
 | []=>rfl
 | x :: xs=>by
  have ih:=tH a xs
  unfold inV at ih ⊢
  rw [List.map_cons,List.any_cons,ih]
  show (x == a || decide (a∈xs))=_
  rw [Bool.eq_iff_iff,Bool.or_eq_true,decide_eq_true_eq,decide_eq_true_eq,List.mem_cons,beq_iff_eq]
  constructor
  ·rintro (h | h)
   ·exact .inl h.symm
   ·exact .inr h
  ·rintro (h | h)
   ·exact .inl h.symm
   ·exact .inr h
end L2
namespace ET
open PySem
open Sem (wp)
open AutoSeq1 (wpAny_loadPart')
theorem Jx{prog:Program}{w:World}{A:Around}(hd:A.handled=none)(it t:Addr)(ne:t≠it)(its:Array Value) :
  Draws prog w A it [it,t] its.size (fun i v=>its[i]?=some v) (fun i h=>h.IsTupleIter it t i/\h.IsTuple t its) where
 live:=fun _ _ st=>by
  obtain⟨⟨o,ho,_⟩,_⟩:=st
  exact⟨o,ho⟩
 frame:=fun _ _ _ st k=>⟨st.1.at fun o e=>k it (by simp) o e,st.2.at fun o e=>k t (by simp) o e⟩
 item:=fun i s Q E hi st q=>by
  refine ZT.vo st.1 st.2 (x:=its[i]) (by simp [hi]) fun g ti sb=>?_
  exact q _ g s.toks (by simp [hi]) ⟨ti,st.2.extBut sb.extBut ne⟩ sb
 done:=fun s Q E st q=>ZT.tM hd st.1 st.2 (by simp) q
theorem Ao(t:Addr)(us:Array Value):Meets (Builtin.«enumerate.__new__» ⟨[.type "enumerate",.ref t],[]⟩) (fun _ R s=>s.heap.IsTuple t us /\
   R (.ok (.ret (.ref (s.heap.push { cls:=.type "tuple_iterator",data:=.fields #[.ref t,.int 0 0] }).objs.size)))
    { s with heap:=(s.heap.push { cls:=.type "tuple_iterator",data:=.fields #[.ref t,.int 0 0] }).push { cls:=.type "enumerate",data:=.fields #[.none,.bool false,.ref s.heap.objs.size,rawInt 0,.none,.none] } }):=by
 refine .of_wp fun prog w A R s h=>?_
 obtain⟨hp,g,d,tk,os⟩:=s
 obtain⟨u1,h⟩:=h
 have u1':Heap.IsTuple (Shared.heap ⟨hp,g,d,tk,os⟩) t us:=u1
 have sub:=sub_enumerate
 wp_walk
 refine wpAny_stack_any fun st=>wpAny_pure ?_
 split
 ·rename_i c _ _ _ _ _
  cases (c == Value.type "enumerate")
  all_goals
   wp_walk using wpAny_pyIter_tuple u1'
   exact⟨_,rfl,h⟩
 ·wp_walk using wpAny_pyIter_tuple u1'
  exact⟨_,rfl,h⟩
theorem vX{prog:Program}{w:World}{A:Around}{E:Value->Shared->Prop}{s:Shared}{t:Addr}{us:Array Value}{Q:Value->Shared->Prop}(u1:s.heap.IsTuple t us)
  (k:∀ g,IsEnum g (s.heap.objs.size+1) s.heap.objs.size 0 .none->g.IsTupleIter s.heap.objs.size t 0->(∀ c o,s.heap.get? c=some o->g.get? c=some o)->Q (.ref (s.heap.objs.size+1)) { s with heap:=g }) :
  wpAny (model prog w) A (call (.type "enumerate") [.ref t]) Q E s:=by
 refine callType_new F.called_enumerate (by decide) (F.typeCall_enumerate_1 _) (F.newCall_enumerate_1 _) (fun obj=>F.args_object_init_2 obj _) F.entry_enumerate_new (Ao t us) ⟨u1,?_⟩
 have n1:(ZT.zh1 s.heap t).objs.size=s.heap.objs.size+1:=Heap.size_push ..
 have p1:((ZT.zh1 s.heap t).push { cls:=.type "enumerate",data:=.fields #[.none,.bool false,.ref s.heap.objs.size,rawInt 0,.none,.none] }).get? (ZT.zh1 s.heap t).objs.size=some _:=Heap.get?_push_size _ rfl
 rw [n1] at p1
 show _/\_
 rw [n1]
 exact⟨⟨_,p1,rfl⟩,k _ p1 ⟨_,Heap.get?_push_of_some _ (Heap.get?_push_size _ rfl),rfl,rfl⟩ fun c o q=>Heap.get?_push_of_some _ (Heap.get?_push_of_some _ q)⟩
theorem Av{prog:Program}{w:World}{A:Around}{E:Value->Shared->Prop}{s:Shared}{e it t:Addr}{i:Nat}{j:Int}{us:Array Value}{old:Value}{Q:Option Value->Shared->Prop}(hd:A.handled=none)
  (ee:IsEnum s.heap e it j old)(ti:s.heap.IsTupleIter it t i)(tt:s.heap.IsTuple t us)(tx:us[i]?=none)(k:∀ g,Heap.ExtBut it s.heap g->Q none { s with heap:=g }):wpAny (model prog w) A (pyNext (.ref e)) Q E s:=by
 have ty:s.TypeIs (.ref e) "enumerate":=⟨_,ee,rfl⟩
 unfold pyNext
 refine wpAny_bind (wpAny_attempt (wpAny_callSpecial?_slot (name:=Str.ofString "__next__") ty F.slot_enumerate_next (wpAny_call_entry F.slot_enumerate_next ty F.entry_enumerate_next ?_ (F.args_enumerate_next_1 _))))
 show wpAny _ _ (field (.ref e) 2 >>= _) _ _ _
 refine wpAny_bind (wpAny_field ee rfl (x:=.ref it) rfl (wpAny_bind (ZT.tM hd ti tt tx fun g x eb hx=>?_)))
 obtain⟨o,ho,c⟩:=hx
 exact wpAny_bind (wpAny_isInstance (T:="StopIteration") (b:=true) ⟨o,ho,c⟩ isSubtype_stop (wpAny_pure (k _ eb)))
end ET
namespace L2
open PySem PySem.Spec PyProof.Rows
noncomputable def Ba(K:W.Frag)(a:Addr):It :=
 ⟨fun i H=>∃ xs x,SqT K H a xs/\xs[i]?=some x,fun i H v H'=>∃ t x,v=.ref t/\H t=none/\H'=upd H t (.tup [.int (i:Nat),x])/\∀ xs,SqT K H a xs->xs[i]?=some x,fun i H=>∃ xs,SqT K H a xs/\xs.length<=i⟩
theorem vY{P:Program}{w:World}{K:W.Frag}{elts:List Expr}{k1:Nat}{p1:Pos}(a e it:Addr)(hne:e≠it)(hae:a≠e)(hai:a≠it) :
  Turn P w K (.Tuple elts k1 p1) (Ba K a) [e,it] e (fun i h=>(∃ old,IsEnum h e it ((i:Nat):Int) old)/\h.IsTupleIter it a i) where
 mem:=by simp
 obj:=fun i h st b hb=>by
  obtain⟨⟨old,he⟩,o,ho,c,d⟩:=st
  have hb':b=e\/b=it:=by simpa using hb
  rcases hb' with rfl | rfl
  ·exact⟨_,he,fun v z=>by
    have z':Data.fields _=Data.cell v:=z
    cases z'⟩
  ·exact⟨o,ho,fun v z=>by rw [d] at z;cases z⟩
 keep:=fun i h h' st k=>by
  obtain⟨⟨old,he⟩,hit⟩:=st
  exact⟨⟨old,k e (by simp) _ he⟩,hit.at fun o q=>k it (by simp) o q⟩
 item:=by
  intro X hP hw hK hc i pins s σ H E I hf st hg
  subst hP hw hK
  obtain⟨xs,x,hq,hx⟩:=hg
  obtain⟨its,rv,p,hz⟩:=I.tuple hq
  obtain⟨u,hu,ru⟩:=rv.get hx
  obtain⟨⟨old,he⟩,hit⟩:=st
  have fe:=hf e (by simp)
  have fi:=hf it (by simp)
  obtain⟨oi,hoi,_⟩:=id hit
  have pT:s.heap.IsTuple a its.toArray:=p
  have hlt:i < its.toArray.size:=by
   have:=(List.getElem?_eq_some_iff.mp hu).1
   simpa using this
  refine wpAny_pyNext_enum_itemD (ET.Jx (A:=X.A.in1) (I.ok.hd hc) it a hai its.toArray) he ⟨hit,pT⟩ hlt hne (by simp [hne,Ne.symm hae]) fun x' h1 tk hx' heo hst1 ht1 hz1 hk1=>?_
  have ex:x'=u:=by
   have:its.toArray[i]?=some u:=by simpa using hu
   exact Option.some.inj (hx'.symm.trans this)
  subst ex
  refine⟨_,rfl,wpAny_letOwnedTupleGo_enum heo fun h2 he2 hs2=>?_⟩
  have hs2':Heap.SameBut e h1 h2:=hs2
  have hel:e < s.heap.objs.size:=Heap.lt_size he
  have I1:Inv X pins σ (upd H s.heap.objs.size (.tup [.int (i:Nat),x])) { s with heap:=h2,toks:=tk+1 } :=
   I.turnedT (its:=[.int i tk,x']) (fun b o h1' h2' q=>hs2'.extBut b o h1' (hk1 b o h1' h2' q)) fe fi ⟨_,he⟩ ⟨_,hoi⟩ (.cons ⟨_,rfl⟩ (.cons ru .nil)) (by show 2<=sizeLine;decide) ((hs2'.2 _ (Nat.ne_of_gt hel)).trans ht1)
  refine⟨.ref s.heap.objs.size,_,I1,rfl,⟨s.heap.objs.size,x,rfl,I.fresh,rfl,fun ys hy=>by rw [I.tuple_inj hy hq];exact hx⟩,⟨⟨x',?_⟩,hst1.1.extBut hs2'.extBut (Ne.symm hne)⟩,fun b hb=>?_⟩
  ·have e3:(((i+1:Nat)):Int)=(i:Int)+1:=by push_cast;rfl
   rw [e3]
   exact he2
  ·have hb':b=e\/b=it:=by simpa using hb
   have hbl:b≠s.heap.objs.size:=by
    rcases hb' with rfl | rfl
    ·exact Nat.ne_of_lt (Heap.lt_size he)
    ·exact Nat.ne_of_lt (Heap.lt_size hoi)
   rw [aL hbl]
   exact (hf b hb).1
 done:=by
  intro X hP hw hK hc i pins s σ H E I hf st hg
  subst hP hw hK
  obtain⟨xs,hq,hx⟩:=hg
  obtain⟨its,rv,p,hz⟩:=I.tuple hq
  obtain⟨⟨old,he⟩,hit⟩:=st
  obtain⟨f0,f1,f2,f3,f4,f5⟩:=hf it (by simp)
  have hl:=rv.length
  have pT:s.heap.IsTuple a its.toArray:=p
  exact ET.Av (I.ok.hd hc) he hit pT (by simp;omega) fun h' eb=>⟨rfl,I.turned (t':=s.toks) (fun b o hb e=>eb b o hb e) f0 f1 f3 f4 f5⟩
 self:=fun A i s Q E st h=>by
  obtain⟨⟨old,he⟩,hit⟩:=st
  exact wpAny_pyIter_enum he h
noncomputable def Eu(K:W.Frag)(ta:TA):TI:=fun σ H R=>ta σ H fun vs H1=>∃ a,vs=[.ref a]/\(∃ xs,SqT K H1 a xs)/\R (Ba K a) H1
theorem BL{X:Cx}{elts:List Expr}{k1:Nat}{p1:Pos}{a:Expr}{ta:TA}{p pos:Pos}(hg:Gl X "enumerate")(hm:X.mg "enumerate" = none)(ha:PA X [a] ta)(hs:starEach [a] X.env=[(false,eval a X.env)]:=by rfl)
  (hb:bootBuiltins "enumerate" = some (.type "enumerate"):=PyProof.Rows.boot_enumerate):PI X (.Tuple elts k1 p1) (.Call (.Name "enumerate" p) [a] [] pos) (Eu X.K ta):=by
 intro pins s σ H R I h
 refine Call_ (j8 I hg hm hb (PyProof.Rows.callWith_type1 (thn (ha pos pins s σ H _ I h) fun us s1 ⟨vs,H1,I1,r1,q1⟩=>?_) hs rfl))
 obtain⟨l,e,⟨xs,hq⟩,q⟩:=q1
 subst e
 cases r1 with
 | cons r rr =>
  cases rr
  cases r
  obtain⟨its,rv,pl,hz⟩:=I1.tuple hq
  have pT:s1.heap.IsTuple l its.toArray:=pl
  have hll:l < s1.heap.objs.size:=by
   obtain⟨o,ho,_⟩:=pT
   exact Heap.lt_size ho
  refine ET.vX pT fun h' he hit hk=>?_
  refine wpAny_pyIter_enum he ?_
  have I2:Inv X pins σ H1 { s1 with heap:=h' }:=I1.kept (t':=s1.toks) hk
  refine⟨s1.heap.objs.size+1,[s1.heap.objs.size+1,s1.heap.objs.size],_,_,H1,rfl,I2,vY l _ _ (Nat.succ_ne_self _) (Nat.ne_of_lt (Nat.lt_succ_of_lt hll)) (Nat.ne_of_lt hll),⟨⟨_,he⟩,hit⟩,fun b hb=>?_,q⟩
  have hb':b=s1.heap.objs.size+1\/b=s1.heap.objs.size:=by simpa using hb
  rcases hb' with rfl | rfl
  ·exact I1.fpOk (Nat.le_succ _) (I1.hok.fresh (Nat.le_succ _))
  ·exact I1.fpOk (Nat.le_refl _) (I1.hok.fresh (Nat.le_refl _))
theorem qy{K:PySem.W.Frag}{a:Addr}{xs:List V}{g:TG}{tb:TS}{D:Ends}{σ:St}{H:Hp}(Pv:Nat->St->Hp->Prop)(h0:Pv 0 σ H)(hl:∀ i σ H,i<=xs.length->Pv i σ H->SqT K H a xs)
  (hs:∀ i x t σ H,xs[i]?=some x->Pv i σ H->H t=none->g (.ref t) σ (upd H t (.tup [.int (i:Nat),x])) fun σ2 H2=>tb { D with nx:=Pv (i+1),ct:=Pv (i+1),bk:=D.nx } σ2 H2)(hd:∀ σ H,Pv xs.length σ H->D.nx σ H) :
  ∃ W:Nat->Nat->St->Hp->Prop,(∃ m,W 0 m σ H)/\∀ i m σ H,W i m σ H ->
   ((Ba K a).stop i H/\D.nx σ H)\/((Ba K a).go i H/\∃ N:St->Hp->Prop,(∀ σ' H',N σ' H'->∃ m',m' < m/\W (i+1) m' σ' H')/\∀ x H',(Ba K a).yld i H x H'->g x σ H' fun σ2 H2=>tb { D with nx:=N,ct:=N,bk:=D.nx } σ2 H2):=by
 refine⟨fun i m σ H=>m=xs.length - i/\i<=xs.length/\Pv i σ H,⟨xs.length,by simp,Nat.zero_le _,h0⟩,?_⟩
 rintro i m σ H ⟨rfl,hi,p⟩
 have q:=hl i σ H hi p
 by_cases hlt:i < xs.length
 ·refine .inr ⟨⟨xs,xs[i],q,by simp [hlt]⟩,Pv (i+1),fun σ' H' p'=>⟨xs.length - (i+1),by omega,rfl,hlt,p'⟩,fun v H' y=>?_⟩
  obtain⟨t,x,rfl,ht,rfl,y⟩:=y
  exact hs i x t σ _ (y xs q) p ht
 ·have e:i=xs.length:=by omega
  subst e
  exact .inl ⟨⟨xs,q,Nat.le_refl _⟩,hd σ H p⟩
theorem jT{prog:Program}{w:World}{A:Around}{E:Value->Shared->Prop}{s:Shared}{t sl:Addr}{items:Array Value}{vl vu:Value}{lo hi:Option Int}{Q:Value->Shared->Prop}(ht:IsTup s.heap t items)(hs:s.heap.IsSliceOf sl vl vu .none)(pl:IsPart vl lo)(pu:IsPart vu hi)
  (hw:HT.sIx items.size 0 lo=0/\HT.sIx items.size items.size hi=items.size)(h:Q (.ref t) s):wpAny (model prog w) A (getItem (.ref t) (.ref sl)) Q E s:=by
 obtain⟨os,hos,hcs,hds⟩:=id hs
 have hTs:s.TypeIs (.ref sl) "slice":=⟨os,hos,hcs⟩
 unfold getItem
 try with_reducible refine wpAny_holding ?_
 first | refine wpAny_bind (wpAny_pure ?_) | skip
 refine wpAny_bind (wpAny_sequenceKey ht.typeIs (by decide) ?_)
 refine wpAny_bind (wpAny_callSpecial?_slot (name:=Str.ofString "__getitem__") ht.typeIs PyProof.Rows.slot_tuple_getitem
  (wpAny_call_entry PyProof.Rows.slot_tuple_getitem ht.typeIs PyProof.Rows.entry_tuple_getitem ?_ (PyProof.Rows.args_tuple_getitem _ _)))
 show wpAny _ _ (Builtin.Tuple.tupleItemsOf (.ref t) >>= _) _ _ s
 refine wpAny_bind (PyProof.Rows.tupleItemsOf_ ht ?_)
 refine wpAny_bind (wpAny_typeOf hTs ?_)
 rw [if_pos (by decide)]
 refine wpAny_bind (HT.gF hs pl pu ?_)
 have hno:(((HT.sIx items.size 0 lo:Nat):Int) == 0 && (1:Int) == 1 && (HT.sIx items.size items.size hi - HT.sIx items.size 0 lo) == items.size)=true:=by
  rw [hw.1,hw.2]
  simp
 show wpAny _ _ (if (((HT.sIx items.size 0 lo:Nat):Int) == 0 && (1:Int) == 1 && (HT.sIx items.size items.size hi - HT.sIx items.size 0 lo) == items.size)=true then _ else _) _ _ s
 rw [if_pos hno]
 refine wpAny_bind (m:=Builtin.Tuple.tupleIsExact _) (wpAny_bind (wpAny_typeOf ht.typeIs (wpAny_pure ?_)))
 rw [if_pos (by decide)]
 exact wpAny_bind (wpAny_rule (wpAny_pure ⟨_,rfl,wpAny_pure h⟩))
noncomputable def MK(K:W.Frag):V->Option Int->Option Int->Hp->VK->Prop:=fun x lo hi H Q=>∃ a xs,x=.ref a/\H a=some (.tup xs)/\∀(p:Addr)(H':Hp),Same H H'->H' p=some (.tup (je xs lo hi))->Q (.ref p) H'
theorem fX{X:Cx}:SlR X (MK X.K):=by
 intro pins s σ H x v vl vu lo hi sl Q I rx hs pl pu h
 obtain⟨a,xs,rfl,hx,q⟩:=h
 by_cases hw:HT.sIx xs.length 0 lo=0/\HT.sIx xs.length xs.length hi=xs.length
 ·cases rx
  obtain⟨its,r,ht,hz⟩:=I.tuple (SqT.of hx)
  have hlen:its.toArray.size=xs.length:=by rw [List.size_toArray];exact r.length.symm
  refine⟨"tuple",_,PyProof.Rows.slot_tuple_getitem.lookup,ht.typeIs,?_⟩
  refine jT ht hs pl pu (by rw [hlen];exact hw) ⟨.ref a,H,I,rfl,q a H (Same.refl H) ?_⟩
  rw [hx]
  unfold je
  rw [hw.1,hw.2,List.drop_zero,Nat.sub_zero,List.take_length]
 ·exact Kf pins s σ H _ v vl vu lo hi sl Q I rx hs pl pu ⟨a,xs,rfl,SqT.of hx,hw,fun p hp=>q p _ (aq hp _) ak⟩
noncomputable def NK:R2:=fun x y H Q=>∃(l b:Addr)(xs:List V),x=.ref l/\y=.ref b/\H l=some (.lst xs)/\H b=some (.lst [])/\Q (.bl (!xs.isEmpty)) H
theorem JQ{X:Cx}(hu:X.A.units < cLine):OpR X (compareOp .NotEq) NK:=by
 intro pins s σ H x y v u Q I rx ry h
 obtain⟨l,b,xs,rfl,rfl,hl,hb,q⟩:=h
 cases rx
 cases ry
 obtain⟨its,r1,p1,_⟩:=I.list (SqL.of (K:=X.K) hl)
 obtain⟨its2,r2,p2,_⟩:=I.list (SqL.of (K:=X.K) hb)
 cases r2
 cases r1 with
 | nil=>exact SeqAt.RcNeAt.lists (e:=fun _=>true) p1.isList p2.isList rfl hu (fun j h1 _=>absurd h1 (Nat.not_lt_zero j)) X.prog X.w _ _ ⟨.bl false,H,I,rfl,q⟩
 | cons _ _=>exact SeqAt.RcNeAt.lists_lengths p1.isList p2.isList (by simp) hu X.prog X.w _ _ ⟨.bl true,H,I,rfl,q⟩
noncomputable def Lq(ta:TA):TI:=fun σ H R=>ta σ H fun vs H1=>∃(a:Int)(n:Nat),vs=[.int a,.int (-1),.int (-1)]/\a=(n:Int) - 1/\n<=1000000/\R (Itd a n) H1
theorem rm{X:Cx}{tg a b c:Expr}{ta:TA}{p pos:Pos}(hg:Gl X "range")(hm:X.mg "range" = none)(ha:PA X [a,b,c] ta)(hs:starEach [a,b,c] X.env=(false,eval a X.env) :: starEach [b,c] X.env:=by rfl)(hpl:(backTo pos (starEach [b,c] X.env)).any (·.1)=false:=by rfl) :
  PI X tg (.Call (.Name "range" p) [a,b,c] [] pos) (Lq ta):=by
 intro pins s σ H R I h
 refine Call_ (j8 I hg hm boot_range (PyProof.Rows.callWith_type1 (thn (ha pos pins s σ H _ I h) fun us s1 ⟨vs,H1,I1,r1,z,n,e,en,hn,q⟩=>?_) hs hpl))
 subst e
 cases r1 with
 | cons r rr =>
  obtain⟨u,u',rfl,⟨t2,rfl⟩,⟨t3,rfl⟩⟩:=vals2 rr
  obtain⟨t1,rfl⟩:=r
  refine call_range_3 (by decide) ?_
  have hsz:Builtin.Range.rangeSize z (-1) (-1)=(n:Int):=by
   unfold Builtin.Range.rangeSize
   rw [if_neg (by decide)]
   split
   ·have:z - -1 - 1=z:=by omega
    rw [this,show (-(-1:Int))=1 from rfl,Int.ediv_one]
    omega
   ·omega
  refine wpAny_pyIter_range (IsRange.new ..) ?_ ?_
  ·unfold Builtin.Range.small
   rw [hsz]
   simp [Builtin.Range.rangeFitsLong]
   omega
  have I2:Inv X pins σ H1 { s1 with heap:=s1.heap.push { cls:=.type "range",data:=.fields #[.int z t1,.int (-1) t2,.int (-1) t3] },toks:=s1.toks }:=I1.kept fun b o e=>Heap.get?_push_of_some _ e
  rw [hsz]
  refine⟨_,[(s1.heap.push { cls:=.type "range",data:=.fields #[.int z t1,.int (-1) t2,.int (-1) t3] }).objs.size],_,_,H1,rfl,I2.kept (t':=s1.toks) fun b o e=>Heap.get?_push_of_some _ e,yg _ z n,?_,fun b hb=>?_,q⟩
  ·have:=Heap.get?_push_size (s1.heap.push { cls:=.type "range",data:=.fields #[.int z t1,.int (-1) t2,.int (-1) t3] }) (o:={ cls:=.type "range_iterator",data:=.fields #[rawInt z,rawInt (n:Int),rawInt (-1)] }) rfl
   simpa [IsRangeIter] using this
  ·have e:b=(s1.heap.push { cls:=.type "range",data:=.fields #[.int z t1,.int (-1) t2,.int (-1) t3] }).objs.size:=by simpa using hb
   subst e
   exact I2.fpOk (Nat.le_refl _) (I2.hok.fresh (Nat.le_refl _))
end L2
namespace DR
open PySem PySem.W
open Sem (wp)
noncomputable def Raw(g:Heap)(d:Addr)(es:Array DictEntry)(ep:Nat):Prop:=∃ o,g.get? d=some o/\o.ExactDict/\o.data=.dict es ep
section
variable {prog:Program}{w:World}{A:Around}{E:Value->Shared->Prop}{s:Shared}{it dd:Addr}{es:Array DictEntry}{i ep:Nat}
theorem Raw.typeIs(r:Raw s.heap dd es ep):s.TypeIs (.ref dd) "dict":=by
 obtain⟨o,eo,ec,ed⟩:=r
 exact⟨o,eo,ec.1⟩
theorem Raw.at{g g':Heap}(r:Raw g dd es ep)(k:∀ o,g.get? dd=some o->g'.get? dd=some o):Raw g' dd es ep:=by
 obtain⟨o,eo,x⟩:=r
 exact⟨o,k o eo,x⟩
end
end DR
namespace L2
open PySem PySem.Spec PyProof.Rows
noncomputable def GR:R2:=fun x y H Q=>∃(b l:Addr)(us:List V)(ps:List (Str × Str))(p:Str × Str),x=.ref b/\y=.ref l/\H l=some (.lst us)/\H b=some (.tup [.str p.1,.str p.2])/\us.length=ps.length /\
 (∀(i:Nat)(u:V)(q:Str × Str),us[i]?=some u->ps[i]?=some q->∃ a:Addr,u=.ref a/\H a=some (.tup [.str q.1,.str q.2]))/\Q (.bl (!decide (p∈ps))) H
theorem yw{X:Cx}{pins:List (Addr × Obj)}{σ:St}{H:Hp}{s:Shared}{A:Around}{a b:Addr}{p q:Str × Str}(I:Inv X pins σ H s)(hu:A.units < cLine)(ha:H a=some (.tup [.str q.1,.str q.2]))(hb:H b=some (.tup [.str p.1,.str p.2])) :
  SeqAt.EqAt A s (.ref a) (.ref b) (decide (q=p)):=by
 by_cases hab:a=b
 ·subst hab
  rw [ha] at hb
  have e:q=p:=by
   injection hb with hb
   injection hb with hb
   injection hb with h1 h2
   injection h1 with h1
   injection h2 with h2
   injection h2 with h2
   exact Prod.ext h1 h2
  rw [decide_eq_true e]
  exact SeqAt.EqAt.same _
 ·obtain⟨its,r1,p1,_⟩:=I.tuple (SqT.of (K:=X.K) ha)
  obtain⟨its2,r2,p2,_⟩:=I.tuple (SqT.of (K:=X.K) hb)
  obtain⟨u1,u2,rfl,⟨t1,rfl⟩,⟨t2,rfl⟩⟩:=vals2 r1
  obtain⟨v1,v2,rfl,⟨t3,rfl⟩,⟨t4,rfl⟩⟩:=vals2 r2
  have key:=SeqAt.EqAt.of_refs hab (SeqAt.RcAt.tuples (A:=A) (s:=s) (e:=fun j=>if j=0 then q.1 == p.1 else q.2 == p.2) p1 p2 hu fun j h1 h2=>?_)
  ·have e:((List.range (min ([.str q.1 t1,.str q.2 t2]:List Value).toArray.size ([.str p.1 t3,.str p.2 t4]:List Value).toArray.size)).all (fun j=>if j=0 then q.1 == p.1 else q.2 == p.2) && ([.str q.1 t1,.str q.2 t2]:List Value).toArray.size == ([.str p.1 t3,.str p.2 t4]:List Value).toArray.size)=decide (q=p):=by
    show ((List.range 2).all _ && (2:Nat) == 2)=_
    rw [Bool.eq_iff_iff]
    simp [List.range_succ,Prod.ext_iff]
   rw [← e]
   exact key
  ·match j,h1,h2 with
   | 0,_,_=>exact SeqAt.EqAt.str_str q.1 t1 p.1 t3
   | 1,_,_=>exact SeqAt.EqAt.str_str q.2 t2 p.2 t4
   | j+2,h1,_ =>
    have h1':j+2 < 2:=h1
    omega
open Classical in
theorem Al{X:Cx}(hu:X.A.units+1 < cLine):OpR X (compareOp .NotIn) GR:=by
 intro pins s σ H x y v u Q I rx ry h
 obtain⟨b,l,us,ps,p,rfl,rfl,hl,hb,hlen,hat,q⟩:=h
 cases rx
 cases ry
 obtain⟨its,r,pl,hz⟩:=I.list (SqL.of (K:=X.K) hl)
 have hil:=r.length
 have hel:∀ w∈its,∃(a:Addr)(c:Str × Str),w=.ref a/\H a=some (.tup [.str c.1,.str c.2])/\c∈ps:=fun w hw=>by
  obtain⟨i,hi,rfl⟩:=List.getElem_of_mem hw
  have hui:us[i]?=some us[i]:=List.getElem?_eq_getElem (by omega)
  have hpi:ps[i]?=some ps[i]:=List.getElem?_eq_getElem (by omega)
  obtain⟨a,e1,e2⟩:=hat i _ _ hui hpi
  obtain⟨w',hw',rw'⟩:=r.get hui
  rw [e1] at rw'
  cases rw'
  rw [List.getElem?_eq_getElem hi] at hw'
  exact⟨a,ps[i],Option.some.inj hw',e2,List.getElem_mem _⟩
 have tinj:∀ {c d:Str × Str}{a:Addr},H a=some (.tup [.str c.1,.str c.2])->H a=some (.tup [.str d.1,.str d.2])->c=d:=fun {c d a} h1 h2=>by
  rw [h1] at h2
  injection h2 with h2
  injection h2 with h2
  injection h2 with a1 a2
  injection a1 with a1
  injection a2 with a2
  injection a2 with a2
  exact Prod.ext a1 a2
 refine SeqAt.notIn_listAt (fun w=>decide (∃ a:Addr,w=.ref a/\H a=some (.tup [.str p.1,.str p.2]))) pl.isList (fun w hw=>?_) ⟨.bl _,H,I,rfl,?_⟩
 ·obtain⟨a,c,rfl,ha,_⟩:=hel w (by simpa using hw)
  have e:decide (∃ a':Addr,Value.ref a=.ref a'/\H a'=some (.tup [.str p.1,.str p.2]))=decide (c=p):=by
   rw [decide_eq_decide]
   constructor
   ·rintro ⟨a',e1,e2⟩
    cases e1
    exact tinj ha e2
   ·rintro rfl
    exact⟨a,rfl,ha⟩
  rw [e]
  exact yw I (by first | exact hu | (simp only [Around.in1];omega) | omega) ha hb
 ·have e:its.toArray.any (fun w=>decide (∃ a:Addr,w=.ref a/\H a=some (.tup [.str p.1,.str p.2])))=decide (p∈ps):=by
   rw [List.any_toArray,Bool.eq_iff_iff,List.any_eq_true,decide_eq_true_eq]
   constructor
   ·rintro ⟨w,hw,hd⟩
    obtain⟨a,rfl,ha⟩:=of_decide_eq_true hd
    obtain⟨a',c,e1,e2,e3⟩:=hel _ hw
    cases e1
    rw [tinj ha e2]
    exact e3
   ·intro hp
    obtain⟨i,hi,ei⟩:=List.getElem_of_mem hp
    have hui:us[i]?=some us[i]:=List.getElem?_eq_getElem (by omega)
    obtain⟨a,e1,e2⟩:=hat i _ _ hui (List.getElem?_eq_getElem hi)
    obtain⟨w',hw',rw'⟩:=r.get hui
    rw [e1] at rw'
    cases rw'
    refine⟨.ref a,List.mem_of_getElem? hw',decide_eq_true ⟨a,rfl,?_⟩⟩
    rw [← ei]
    exact e2
  rw [e]
  exact q
end L2
namespace SX
open PySem PySem.Spec PyProof.Rows
noncomputable def have_{K:Type}[DecidableEq K](val:Nat->K)(i:Nat)(k:K):Bool:=((List.range i).map val).any fun y=>decide (y=k)
theorem yt{K:Type}[DecidableEq K](val:Nat->K)(i:Nat)(k:K):have_ val (i+1) k=(have_ val i k || decide (k=val i)):=by
 unfold have_
 rw [List.range_succ,List.map_append,List.any_append]
 congr 1
 simp [eq_comm]
noncomputable def many{K:Type}[DecidableEq K](val:Nat->K):Nat->Nat
 | 0=>0
 | i+1=>if have_ val i (val i)=true then many val i else many val i+1
theorem tY{K:Type}[DecidableEq K](val:Nat->K):∀ i,many val i<=i
 | 0=>Nat.le_refl _
 | i+1=>by
  have:=tY val i
  unfold many
  split <;> omega
section
variable {prog:Program}{w:World}{A:Around}{R:Result->Shared->Prop}{I:Addr}{fp wr:List Addr}{G:Array GenState->Array GenState->Prop}{n:Nat}{P:Nat->Value->Prop}{St:Nat->Shared->Prop}{K:Type} [DecidableEq K] {knd:KeyKind prog w K}
theorem fill(W:WalksS prog w A.in1 I fp wr G n P St)(S:Addr)(nf:S ∉ fp)(val:Nat->K)(hv:∀ i v,P i v->knd.is (val i) v=true/\v.scannable=true)(room:n+1 < scanBound) :
  ∀(k i:Nat)(s:Shared),n - i=k->i<=n->St i s->s.heap.SetOf knd S (have_ val i) (many val i)->(∀ s',Moved (S :: wr) G s s'->s'.heap.SetOf knd S (have_ val n) (many val n)->R (.ok (.ret .none)) s') ->
   codeAny (model prog w) A (.builtin "set.update.loop" ⟨[.ref S,.ref I],[]⟩) R s:=by
 have nw:S ∉ wr:=fun z=>nf (W.sub _ z)
 have sub:∀ b∈wr,b∈S :: wr:=fun b z=>List.mem_cons_of_mem _ z
 intro k
 induction k with
 | zero =>
  intro i s ek le st hS q
  have e:i=n:=by omega
  subst e
  refine codeAny_builtin F.entry_set_update_loop ?_
  rw [Around.under_plainId F.plain_set_update_loop _]
  show wpAny _ A.in1 (pyNext (.ref I) >>= _) _ _ _
  refine wpAny_bind (W.done s _ _ st fun s' mv=>?_)
  show wpAny _ A.in1 (ret Value.none) _ _ _
  refine wpAny_pure (q s' (mv.mono sub) ?_)
  obtain⟨o,es,ep,t,eo,rest⟩:=hS
  exact⟨o,es,ep,t,mv.heap S _ nw eo,rest⟩
 | succ k ih =>
  intro i s ek le st hS q
  have lt:i < n:=by omega
  refine codeAny_builtin F.entry_set_update_loop ?_
  rw [Around.under_plainId F.plain_set_update_loop _]
  show wpAny _ A.in1 (pyNext (.ref I) >>= _) _ _ _
  refine wpAny_bind (W.item i s _ _ lt st fun v s' hP st' mv=>?_)
  obtain⟨hk,hsc⟩:=hv i v hP
  have hS':s'.heap.SetOf knd S (have_ val i) (many val i):=by
   obtain⟨o,es,ep,tb,eo,rest⟩:=hS
   exact⟨o,es,ep,tb,mv.heap S _ nw eo,rest⟩
  show wpAny _ A.in1 (holding [v] (setAdd S v) >>= _) _ _ _
  refine wpAny_bind (wpAny_holding ?_)
  unfold setAdd
  refine wpAny_holding (wpAny_bind (knd.pyHash hk ?_))
  refine wpAny_setAddHashed_of (knd:=knd) (s:={ s' with toks:=s'.toks+1 }) hk hsc hS' (Nat.lt_of_le_of_lt (Nat.succ_le_succ (tY val i)) (by omega)) fun g sb hS2=>?_
  have hSi:g.SetOf knd S (have_ val (i+1)) (many val (i+1)):=by
   have e:(fun k'=>have_ val i k' || decide (k'=val i))=have_ val (i+1):=funext fun k'=>(yt val i k').symm
   rw [← e]
   exact hS2
  refine wpAny_pure ⟨plainId_quiet F.plain_set_update_loop _,ih (i+1) _ (by omega) lt (W.frame _ s' _ _ st' (Nat.le_succ _) fun b hb o e=>?_) hSi fun s'' mv2 hS''=>?_⟩
  ·rw [sb.2 b fun z=>nf (z ▸ hb)]
   exact e
  ·refine q s'' (Moved.trans W.gtrans ((mv.mono sub).then_heap (Nat.le_succ _) fun b o hb e=>?_) mv2) hS''
   rw [sb.2 b fun z=>hb (by rw [z];exact List.mem_cons_self)]
   exact e
end
set_option maxHeartbeats 6400000 in
theorem call_set_list{prog:Program}{w:World}{A:Around}{E:Value->Shared->Prop}{s:Shared}{K:Type}[DecidableEq K]{knd:KeyKind prog w K}{l:Addr}{items:Array Value}{val:Nat->K}{Q:Value->Shared->Prop}
  (hd:A.handled=none)(tl:s.heap.IsList l items)(hv:∀ i v,items[i]?=some v->knd.is (val i) v=true/\v.scannable=true)(room:items.size+1 < scanBound)
  (q:∀(g:Heap)(tk:Nat),g.SetOf knd s.heap.objs.size (have_ val items.size) (many val items.size)->(∀ b o,b < s.heap.objs.size->s.heap.get? b=some o->g.get? b=some o)->Q (.ref s.heap.objs.size) { s with heap:=g,toks:=tk }) :
  wpAny (model prog w) A (call (.type "set") [.ref l]) Q E s:=by
 obtain⟨c,tl',hmro⟩:=PySem.F.called_set.mro
 have hmade:=PySem.F.called_set.made
 have hsub:=PySem.F.called_set.sub
 refine wpAny_call (codeAny_of_tree ?_)
 show wpAny _ _ (callAny (.type "set") _) _ _ _
 refine wpAny_pure ⟨Code.quiet_builtin _ (by decide +kernel),codeAny_builtin PySem.F.entry_type_call ?_⟩
 rw [Around.under_plain (weight_type_call_type "set" [.ref l] []) rfl]
 have h1:=PySem.F.called_set.notType
 have h2:=PySem.F.called_set.canCreate
 have hct:=PySem.F.typeCall_set_1 (.ref l)
 repeat (any_goals (first | assumption | wp_step))
 refine codeAny_mono (code_set_new_1 (.ref l) (E:=E) (Q₁:=fun ob s₁=>∃ led:Bool,ob=.ref s.heap.objs.size/\s₁={ s with heap:=s.heap.push { cls:=.type "set",dict:=none,data:=.set #[] 0 (.fresh 0 0 led) } }) fun led=>⟨led,rfl,rfl⟩) fun r s₁ hr=>?_
 cases r with
 | error e=>exact hr
 | ok fl =>
  cases fl with
  | ret ob =>
   obtain⟨led,rfl,rfl⟩:=hr
   have eS:(s.heap.push { cls:=.type "set",dict:=none,data:=.set #[] 0 (.fresh 0 0 led) }).get? s.heap.objs.size=some { cls:=.type "set",dict:=none,data:=.set #[] 0 (.fresh 0 0 led) }:=Heap.get?_push_size _ rfl
   have tS:Shared.TypeIs { s with heap:=s.heap.push { cls:=.type "set",dict:=none,data:=.set #[] 0 (.fresh 0 0 led) } } (.ref s.heap.objs.size) "set":=⟨_,eS,rfl⟩
   have hli:=PySem.F.called_set.init.lookup
   have hbi:=PySem.F.called_set.init.bind (.ref s.heap.objs.size)
   repeat (any_goals (first | assumption | wp_step))
   refine codeAny_mono (codeAny_call_builtin (R:=wants (fun r s₂=>r=.none/\∃ g tk,s₂={ s with heap:=g,toks:=tk }/\g.SetOf knd s.heap.objs.size (have_ val items.size) (many val items.size) /\
     (∀ b o,b < s.heap.objs.size->s.heap.get? b=some o->g.get? b=some o)) E) PySem.F.called_set.init.plain PySem.F.entry_set_init (check_set_init_1 tS ?_)) fun r₂ s₂ hr₂=>?_
   ·obtain⟨⟨oc,od,odt,osl⟩,eol,ecl,nl,edl⟩:=tl
    simp only at ecl edl
    subst ecl
    subst edl
    have eol':(s.heap.push { cls:=.type "set",dict:=none,data:=.set #[] 0 (.fresh 0 0 led) }).get? l=some { cls:=.type "list",dict:=od,data:=.seq items nl,slots:=osl }:=Heap.get?_push_of_some _ eol
    have hsls:=PySem.F.sub_list_set
    have hslf:=PySem.F.sub_list_frozenset
    have hne:(Value.type "list" == Value.type "dict")=false:=by decide
    have tl1:(s.heap.push { cls:=.type "set",dict:=none,data:=.set #[] 0 (.fresh 0 0 led) }).IsList l items:=⟨_,eol',rfl,nl,rfl⟩
    unfold Builtin.«set.__init__» noKeywords Builtin.Frozenset.updateFrom
    generalize hPI:pyIter=PI
    wp_walk
    subst hPI
    refine wpAny_pyIter_list tl1 (wpAny_bind (wpAny_runValue ?_))
    have lS:l < s.heap.objs.size:=Heap.lt_size eol
    have hd3:A.in1.in1.in1.handled=none:=by simp [hd]
    have neI:l≠(s.heap.push { cls:=.type "set",dict:=none,data:=.set #[] 0 (.fresh 0 0 led) }).objs.size:=by
     rw [Heap.size_push]
     exact Nat.ne_of_lt (Nat.lt_succ_of_lt lS)
    have nf:s.heap.objs.size ∉ [(s.heap.push { cls:=.type "set",dict:=none,data:=.set #[] 0 (.fresh 0 0 led) }).objs.size,l]:=by
     rw [Heap.size_push]
     simp only [List.mem_cons,List.mem_singleton,List.not_mem_nil,or_false,not_or]
     exact⟨Nat.ne_of_lt (Nat.lt_succ_self _),Nat.ne_of_gt lS⟩
    refine fill ((Walks.list hd3 _ l neI items).toS) s.heap.objs.size nf val hv room (items.size - 0) 0 _ (by omega) (Nat.zero_le _) ⟨⟨_,Heap.get?_push_size _ rfl,rfl,rfl⟩,tl1.push _⟩ ?hS0 ?hR
    case hS0 =>
     have eg:((s.heap.push { cls:=.type "set",dict:=none,data:=.set #[] 0 (.fresh 0 0 led) }).push { cls:=.type "list_iterator",data:=.fields #[.ref l,.int 0 0] }).get? s.heap.objs.size=some { cls:=.type "set",dict:=none,data:=.set #[] 0 (.fresh 0 0 led) }:=Heap.get?_push_of_some _ eS
     exact (setObjOf_fresh (knd:=knd) led).setOf eg (by unfold scanBound;omega)
    case hR =>
     intro s' mv hS'
     obtain⟨g,gg,d',tk',os'⟩:=s'
     have e1:gg=s.gens:=mv.gens
     have e2:d'=s.drawn:=mv.drawn
     have e3:os'=s.os:=mv.os
     subst e1
     subst e2
     subst e3
     show wpAny _ _ _ _ _ _
     refine wpAny_pure ?_
     show wpAny _ _ (ret Value.none) _ _ _
     refine wpAny_pure ⟨rfl,g,tk',rfl,hS',fun b o hb e=>?_⟩
     have hb2:b≠(s.heap.push { cls:=.type "set",dict:=none,data:=.set #[] 0 (.fresh 0 0 led) }).objs.size:=by
      rw [Heap.size_push]
      exact Nat.ne_of_lt (Nat.lt_succ_of_lt hb)
     exact mv.heap b o (by simp only [List.mem_cons,List.mem_singleton,List.not_mem_nil,or_false,not_or];exact⟨Nat.ne_of_lt hb,hb2⟩) (Heap.get?_push_of_some _ (Heap.get?_push_of_some _ e))
   ·cases r₂ with
    | error e=>exact hr₂
    | ok fl₂ =>
     cases fl₂ with
     | ret r =>
      obtain⟨rfl,g,tk,rfl,hS',hk'⟩:=hr₂
      repeat (any_goals (first | assumption | wp_step))
      exact q _ _ hS' hk'
     | _=>exact hr₂.elim
  | _=>exact hr.elim
end SX
namespace L2
open PySem PySem.Spec PyProof.Rows
end L2
namespace ZZ
open PySem
open Sem (wp)
section
variable {prog:Program}{w:World}{A:Around}{E:Value->Shared->Prop}{s:Shared}
end
end ZZ
namespace L2
open PySem PySem.Spec PyProof.Rows
noncomputable def Ov(K:W.Frag)(tl:TE):TI:=fun σ H R=>tl σ H fun x H1=>∃ a,x=.ref a/\(((∃ xs,SqL K H1 a xs)/\R (Itl K a) H1)\/((∃ xs,SqT K H1 a xs)/\R (Itt K a) H1))
theorem JM{X:Cx}{tg l:Expr}{tl:TE}(hl:PE X l tl):PI X tg l (Ov X.K tl):=by
 intro pins s σ H R I h
 refine thn (hl pins s σ H _ I h) fun v s1 ⟨x,H1,I1,r1,q1⟩=>?_
 obtain⟨a,e,q⟩:=q1
 subst e
 cases r1
 rcases q with ⟨⟨xs,hq⟩,q⟩ | ⟨⟨xs,hq⟩,q⟩
 ·obtain⟨its,rv,p,hz⟩:=I1.list hq
  refine wpAny_pyIter_list p.isList ?_
  refine⟨s1.heap.objs.size,[s1.heap.objs.size],_,_,H1,rfl,I1.kept (t':=s1.toks) fun b o e=>Heap.get?_push_of_some _ e,qI a _,⟨_,Heap.get?_push_size _ rfl,rfl,rfl⟩,fun b hb=>?_,q⟩
  have e:b=s1.heap.objs.size:=by simpa using hb
  subst e
  exact I1.fpOk (Nat.le_refl _) (I1.hok.fresh (Nat.le_refl _))
 ·obtain⟨its,rv,p,hz⟩:=I1.tuple hq
  refine wpAny_pyIter_tuple (show s1.heap.IsTuple a its.toArray from p) ?_
  refine⟨s1.heap.objs.size,[s1.heap.objs.size],_,_,H1,rfl,I1.kept (t':=s1.toks) fun b o e=>Heap.get?_push_of_some _ e,mV a _,⟨_,Heap.get?_push_size _ rfl,rfl,rfl⟩,fun b hb=>?_,q⟩
  have e:b=s1.heap.objs.size:=by simpa using hb
  subst e
  exact I1.fpOk (Nat.le_refl _) (I1.hok.fresh (Nat.le_refl _))
theorem BP{X:Cx}{ix:Nat}{xn:Str}{pos' spos:Pos}{elt tg iter:Expr}{ifs:List Expr}{scope:Scope}{pos:Pos}{wi:TI}{g:TG}{tc:TT}{te:TE}(hN:X.N.Nodup)(hix:X.N[ix]?=some xn)(hxl:X.env.scope.names.lookup xn=some .local)(N:List Str)(lift:St->St)(hc:X.calm=true)(hi:PI X tg iter wi)
  (hkind:scope.kind=.function)(hcell:∀ y∈scope.names,y.2≠.cell)(hfree:∀ y∈scope.names,y.2=.free->X.env.kindOf y.1=some .cell\/X.env.kindOf y.1=some .free)
  (hnames:∀ y∈scope.names,y.2=.local->scope.names.lookup y.1=some .local)
  (hlen:∀ σ:St,σ.length=X.N.length->(lift σ).length=N.length)
  (hσ:∀(σ:St)(i:Nat)(x:Str)(v:V),σ.length=X.N.length->N[i]?=some x->(lift σ)[i]?=some (some v)->scope.names.lookup x=some .free/\∃ j:Nat,X.N[j]?=some x/\σ[j]?=some (some v))
  (hg:∀ cl C s H ex pn E,PG (cN X scope N cl C s H ex pn E) tg g)(ht:∀ cl C s H ex pn E,Im (cN X scope N cl C s H ex pn E) ifs tc)(he:∀ cl C s H ex pn E,PE (cN X scope N cl C s H ex pn E) elt te)
  (hs:∀ x,foldedSetIterable iter X.env x=pure x)(hsw:swapsWith (.ListComp elt [⟨tg,iter,ifs,0⟩] scope pos) (some (.Name xn pos')) spos.line X.env=pure true) :
  PS X (.Assign [.Name xn pos'] (.ListComp elt [⟨tg,iter,ifs,0⟩] scope pos) spos) (Jf (CK wi g tc te lift) (cP ix)):=by
 intro pins s σ H D I h
 rw [exec_Assign_Name_used _ _ _ _ hsw]
 refine wpAny_bind (wpAny_standAt (wpAny_bind ?_))
 suffices key:wpAny (model X.prog X.w) X.A (comprehension (.ListComp elt [⟨tg,iter,ifs,0⟩] scope pos) scope X.env (firstIterPos [⟨tg,iter,ifs,0⟩] pos) (newList []) (firstAsync [⟨tg,iter,ifs,0⟩]) (firstIter [⟨tg,iter,ifs,0⟩] X.env) (some (assign (.Name xn pos') X.env))) (fun _ s''=>∃ σ' H',Inv X pins σ' H' s''/\D.nx σ' H') X.xe s by
  show wpAny _ _ (comprehension _ _ _ _ _ _ _ _ >>= fun _=>pure ()) _ _ _
  exact wpAny_bind (thn key fun _ s' q=>wpAny_pure (wpAny_pure q))
 obtain⟨cl,hclos,hcl1,hcl2⟩:=nF (scope:=scope) (env:=X.env) fun y hy hf=>I.ok.has y.1 (hfree y hy hf)
 refine wpAny_comprehension_free (use:=some (assign (.Name xn pos') X.env)) rfl hs hclos hkind hnames (thn (hi pins s σ H _ I h) fun v s1 h1=>thn h1 fun itv s2 h2=>?_)
 obtain⟨it,fp,tn,J,H2,e,I2,T,st2,f2,q⟩:=h2
 subst e
 refine wpAny_newObj_type (wpAny_newFunctionEnv hcell (by intro y hy;simp at hy) (fun h₁ hns₁ hsb₁=>?_) hkind)
 have I3:Inv X pins σ (upd H2 s2.heap.objs.size (.lst [])) { s2 with heap:=s2.heap.push { cls:=.type "list",data:=.seq ([]:List Value).toArray } }:=I2.lnew (its:=[]) (t':=s2.toks) .nil (Nat.zero_le _)
 have fr:H2 s2.heap.objs.size=none:=I2.fresh
 have hold:∀ b o,(s2.heap.push { cls:=.type "list",data:=.seq ([]:List Value).toArray }).get? b=some o->h₁.get? b=some o:=fun b o e=>hsb₁.extBut b o (Nat.ne_of_lt (Heap.lt_size e)) (Heap.get?_push_of_some _ e)
 have f3:∀ b∈fp,vL X pins (upd H2 s2.heap.objs.size (.lst [])) b:=fun b hb=>by
  obtain⟨o,eo,_⟩:=T.obj 0 _ st2 b hb
  exact⟨by rw [aL (Nat.ne_of_lt (Heap.lt_size eo))];exact (f2 b hb).1,(f2 b hb).2⟩
 have fo:∀ b∈fp,∃ o,(s2.heap.push { cls:=.type "list",data:=.seq ([]:List Value).toArray }).get? b=some o:=fun b hb=>by
  obtain⟨o,eo,_⟩:=T.obj 0 _ st2 b hb
  exact⟨o,Heap.get?_push_of_some _ eo⟩
 generalize hP:s2.heap.push { cls:=.type "list",data:=.seq ([]:List Value).toArray }=P at *
 obtain⟨W,⟨m0,w0⟩,turn⟩:=q s2.heap.objs.size fr
 generalize hL:s2.heap.objs.size=L at *
 let R:Result->Shared->Prop:=compPost (model X.prog X.w) X.A X.xe (some (assign (.Name xn pos') X.env)) (fun _ s''=>∃ σ' H',Inv X pins σ' H' s''/\D.nx σ' H') (.ref L) P.objs.size
 let Y:Cx:=cN X scope N cl P.objs.size { s2 with heap:=P } (upd H2 L (.lst [])) fp (X.pn++pins) (notedBy (model X.prog X.w) X.A (compEnvC scope cl P.objs.size X.env) fun e s'=>R (.error e) s')
 have IY:Inv Y [] (lift σ) (upd H2 L (.lst [])) { s2 with heap:=h₁,toks:=s2.toks+([]:List (Str × Value)).length } :=
  vC (s:={ s2 with heap:=P }) I3 hkind hcell hfree hcl1 hcl2 f3 fo (hlen σ I.len) (fun i x v=>hσ σ i x v I.len) hns₁ hold
 have stY:tn 0 h₁:=T.keep _ _ _ st2 fun b hb o e=>hold b o (by rw [← hP];exact Heap.get?_push_of_some _ e)
 have fC:∀ b∈fp,b≠P.objs.size/\(b∈fp):=fun b hb=>by
  obtain⟨o,eo⟩:=fo b hb
  exact⟨Nat.ne_of_lt (Heap.lt_size eo),hb⟩
 have fpY:∀ {H':Hp},(∀ b∈fp,H' b=none)->∀ b∈fp,vL Y [] H' b:=fun {H'} hn b hb=>by
  refine⟨hn b hb,(fC b hb).1,fun z=>?_,.inl hb,fun x c ex=>(f3 b hb).2.2.2.2.1 x c (hcl2 _ _ ex),fun p hp=>?_⟩
  ·rcases List.mem_cons.mp (I3.stkSub b z) with y | y
   ·exact (f3 b hb).2.1 y
   ·exact (f3 b hb).2.2.1 y
  ·have hp':p∈(X.pn++pins)++[]:=hp
   rw [List.append_nil] at hp'
   exact (f3 b hb).2.2.2.2.2 p hp'
 have loop:∀ s4:Shared,s4={ s2 with heap:=h₁,toks:=s2.toks+([]:List (Str × Value)).length } ->
   codeAny (model X.prog X.w) X.A (.compLoop (.ListComp elt [⟨tg,iter,ifs,0⟩] scope pos) 0 (.ref it) (.ref L) (compEnvC scope cl P.objs.size X.env)) R s4:=by
  rintro s4 rfl
  refine eO (fun n s'=>∃ i σ' H',Inv Y [] σ' H' s'/\tn i s'.heap/\(∀ b∈fp,H' b=none)/\W i n σ' H') ?_ m0 ⟨0,_,_,IY,stY,fun b hb=>(f3 b hb).1,w0⟩
  rintro n s5 ⟨i,σ5,H5,I5,st5,fr5,w5⟩
  rcases turn i n σ5 H5 w5 with ⟨stop,qn⟩ | ⟨go,Nx,hNx,step⟩
  ·refine thn (T.done Y rfl rfl rfl hc i [] s5 σ5 H5 Y.xe I5 (fpY fr5) st5 stop) fun r s6 ⟨hr,I6⟩=>?_
   subst hr
   show R (.ok .next) s6
   obtain⟨m6,hn6,_⟩:=id I6.loc
   have IX:Inv X pins σ H5 s6:=I3.call' (s':=s6) (ch:=fp) I6.os I6.base I6.hok I6.bare fun b hb=>⟨(f3 b hb).2.2.2.1,(f3 b hb).2.1,(f3 b hb).2.2.2.2.1,(f3 b hb).2.2.2.2.2⟩
   have nC:∀ x c,X.env.cells.lookup x=some c->c≠P.objs.size:=fun x c ec z=>by
    obtain⟨v0,qv⟩:=I3.cell x c ec
    exact absurd qv.lt (by rw [z];exact Nat.lt_irrefl _)
   have nP:∀ p∈X.pn++pins,p.1≠P.objs.size:=fun p hp z=>by
    have z0:=Heap.lt_size (I3.pin p hp).1
    exact absurd z0 (by rw [z];exact Nat.lt_irrefl _)
   show wpAny _ _ (assign (.Name xn pos') X.env (.ref L)) _ _ _
   refine wpAny_assign_Name (pZ IX hN hix (.inl hxl) (v:=.ref L) rfl (fun s7 I7 hsb=>?_) (.inr hxl))
   obtain⟨a7,sb7,ha7⟩:=hsb
   have na7:P.objs.size≠a7:=by
    rcases ha7 with z | z
    ·rw [z]
     exact Nat.ne_of_gt I3.lt
    ·exact (nC _ _ z).symm
   refine⟨m6,hn6.at' fun o e=>(sb7.2 _ na7).trans e,fun h' sb=>⟨_,H5,I7.turned (t':=s7.toks) (it:=P.objs.size) (fun b o hb e=>(sb.2 b hb).trans e) I6.free (Nat.ne_of_gt I3.lt) (.inr I3.sz) nC nP,qn⟩⟩
  ·refine thn (T.item Y rfl rfl rfl hc i [] s5 σ5 H5 Y.xe I5 (fpY fr5) st5 go) fun r s6 ⟨u,hr,h6⟩=>?_
   subst hr
   refine thn h6 fun _ s7 ⟨x,H7,I7,r7,y7,st7,fr7⟩=>?_
   have I7':=I7.pinned (fpY fr7) (T.obj _ _ st7)
   refine thn (hg _ _ _ _ _ _ _ _ s7 σ5 H7 x u _ I7' r7 (step x H7 y7)) fun _ s8 ⟨σ8,H8,I8,q8⟩=>?_
   refine thn (ht _ _ _ _ _ _ _ _ s8 σ8 H8 _ I8 q8) fun ok s9 ⟨H9,I9,q9⟩=>?_
   have again:∀ {sx:Shared}{Hx:Hp},Inv Y ([]++mU fp s7.heap) σ8 Hx sx->Nx σ8 Hx->∃ m,m < n/\∃ i σ' H',Inv Y [] σ' H' sx/\tn i sx.heap/\(∀ b∈fp,H' b=none)/\W i m σ' H':=fun {sx Hx} Ix nx=>by
    obtain⟨m',hm,wx⟩:=hNx σ8 Hx nx
    refine⟨m',hm,i+1,σ8,Hx,Ix.unpinned,T.keep _ _ _ st7 fun b hb o e=>(Ix.pin (b,o) (List.mem_append_right _ (List.mem_append_right _ (fu hb e)))).1,fun b hb=>?_,wx⟩
    obtain⟨o,e,d⟩:=T.obj _ _ st7 b hb
    exact (Ix.pin (b,o) (List.mem_append_right _ (List.mem_append_right _ (fu hb e)))).2.1
   cases ok with
   | false =>
    rw [if_neg Bool.false_ne_true] at q9 ⊢
    exact again I9 q9
   | true =>
    rw [if_pos rfl] at q9 ⊢
    refine thn (he _ _ _ _ _ _ _ _ s9 σ8 H9 _ I9 q9) fun y s10 ⟨v10,H10,I10,r10,ys,hys,hz,q10⟩=>?_
    refine thn (bN (X:=Y) _ s10 σ8 H10 (.ref L) [v10] (.ref L) [y] (fun _ H'=>Nx σ8 H') I10 rfl (.cons r10 .nil) ⟨L,ys,v10,rfl,rfl,hys,hz,q10⟩) fun _ s11 ⟨_,H11,I11,_,q11⟩=>?_
    exact again I11 q11
 exact codeAny_compStart_list (loop _ rfl) (T.self X.A 0 _ _ _ stY (loop _ rfl))
theorem iW{X:Cx}{ix:Nat}{xn:Str}{pos' spos:Pos}{elt tg iter:Expr}{ifs:List Expr}{scope:Scope}{pos:Pos}{wi:TI}{g:TG}{tc:TT}{te:TE}(hN:X.N.Nodup)(hix:X.N[ix]?=some xn)(hxl:X.env.scope.names.lookup xn=some .local)(XN:List Str)(sc:Scope)(N:List Str)(js:List (Option Nat))(hXN:X.N=XN)(hsc:X.env.scope=sc)(hc:X.calm=true)(hi:PI X tg iter wi)
  (hkind:scope.kind=.function)(hchk:jP N js XN scope.names=true)(hcell:∀ y∈scope.names,y.2≠.cell)(hfree:∀ y∈scope.names,y.2=.free->sc.names.lookup y.1=some .cell\/sc.names.lookup y.1=some .free)
  (hnames:∀ y∈scope.names,y.2=.local->scope.names.lookup y.1=some .local)
  (hg:∀ cl C s H ex pn E,PG (cN X scope N cl C s H ex pn E) tg g)(ht:∀ cl C s H ex pn E,Im (cN X scope N cl C s H ex pn E) ifs tc)(he:∀ cl C s H ex pn E,PE (cN X scope N cl C s H ex pn E) elt te)
  (hs:∀ x,foldedSetIterable iter X.env x=pure x:=by intro _;rfl)(hsw:swapsWith (.ListComp elt [⟨tg,iter,ifs,0⟩] scope pos) (some (.Name xn pos')) spos.line X.env=pure true:=by rfl) :
  PS X (.Assign [.Name xn pos'] (.ListComp elt [⟨tg,iter,ifs,0⟩] scope pos) spos) (Jf (CK wi g tc te (j6 js)) (cP ix)):=by
 subst hXN
 subst hsc
 exact BP hN hix hxl N (j6 js) hc hi hkind hcell hfree hnames (fun σ _=>Bl hchk σ) (fun σ i x v _ h1 h2=>Ek hchk σ i x v h1 h2) hg ht he hs hsw
end L2
set_option maxHeartbeats 1000000
namespace SO
open PySem PySem.W PyProof.Rows
variable {O:KeyOrd}{key:Nat->O.α}{N:Nat}
noncomputable def KN(key:Nat->O.α)(p:Array Nat)(i:Nat):O.α:=key (p.getD i 0)
noncomputable def dX(key:Nat->O.α)(p:Array Nat)(k:Nat):Prop:=∀ i j,i<=j->j < k->O.kle (KN key p i) (KN key p j)
noncomputable def xO(key:Nat->O.α)(p:Array Nat)(k:Nat):Prop:=∀ i j,i<=j->j < k->O.kle (KN key p j) (KN key p i)
noncomputable def InN(N:Nat)(p:Array Nat):Prop:=p.toList.Perm (List.range N)
theorem InN.size{p:Array Nat}(h:InN N p):p.size=N:=by simpa using h.length_eq
theorem InN.lt{p:Array Nat}(h:InN N p){i:Nat}(hi:i < N):p.getD i 0 < N:=by
 have hs:i < p.size:=by rw [h.size];exact hi
 have e:p.getD i 0=p[i]:=by simp [Array.getD,hs]
 rw [e]
 exact List.mem_range.mp (h.mem_iff.mp (by simp))
theorem InN.of{p q:Array Nat}(h:InN N p)(g:q.Perm p):InN N q:=(Array.perm_iff_toList_perm.mp g).trans h
theorem jE{p q:Array Nat}{i j:Nat}(h:p[i]?=q[j]?):KN key p i=KN key q j:=by
 unfold KN
 rw [Array.getD_eq_getD_getElem?,Array.getD_eq_getD_getElem?,h]
theorem qP{p:Array Nat}{src d:Nat}(hs:src < p.size)(hd:d<=src)(k:Nat) :
  KN key (bubble p src d) k=if k=src - d then KN key p src else if src - d < k/\k<=src then KN key p (k - 1) else KN key p k:=by
 have e:=getElem?_bubble hs d hd k
 by_cases h1:k=src - d
 ·rw [if_pos h1] at e ⊢;exact jE e
 ·rw [if_neg h1] at e ⊢
  by_cases h2:src - d < k/\k<=src
  ·rw [if_pos h2] at e ⊢;exact jE e
  ·rw [if_neg h2] at e ⊢;exact jE e
theorem xR{p:Array Nat}{i j:Nat}(hj:j<=p.size)(k:Nat):KN key (kas_rev p i j) k=if i<=k/\k < j then KN key p (i+j - 1 - k) else KN key p k:=by
 have e:=getElem?_mirror_all (i:=i) hj k
 unfold kas_rev
 by_cases h1:i<=k/\k < j
 ·rw [if_pos h1] at e ⊢;exact jE e
 ·rw [if_neg h1] at e ⊢;exact jE e
theorem eG{p:Array Nat}{i j:Nat}(hj:j<=p.size)(heq:∀ k,i<=k->k < j->KN key p k=KN key p (j - 1))(k:Nat):KN key (kas_rev p i j) k=KN key p k:=by
 rw [xR hj]
 split
 ·rw [heq _ (by omega) (by omega),heq k (by omega) (by omega)]
 ·rfl
theorem InN.rev{p:Array Nat}(h:InN N p)(i j:Nat):InN N (kas_rev p i j):=h.of (mirror_perm _ _ _ _)
section
variable {cmp:Nat->Nat->(Bool->Shared->Prop)->Shared->Prop}{s:Shared}
noncomputable def Cmp(key:Nat->O.α)(N:Nat)(cmp:Nat->Nat->(Bool->Shared->Prop)->Shared->Prop)(s:Shared):Prop :=
 ∀(i j:Nat)(C:Bool->Shared->Prop),i < N->j < N->C (O.blt (key i) (key j)) s->cmp i j C s
theorem ask{α:Type}{p:Array Nat}{i j:Nat}{k:Bool->KasT α}{G:α->Shared->Prop}(hc:Cmp key N cmp s)(hp:InN N p)(hi:i < N)(hj:j < N)
  (h:(k (O.blt (KN key p i) (KN key p j))).kasWp cmp G s):(KasT.ask (p.getD i 0) (p.getD j 0) k).kasWp cmp G s :=
 hc _ _ _ (hp.lt hi) (hp.lt hj) h
theorem asc{p:Array Nat}{G:Nat->Shared->Prop}{nrem:Nat}(hc:Cmp key N cmp s)(hp:InN N p)(hN:nrem<=N):∀(f n:Nat),1<=n->n+f=nrem->dX key p n ->
  (∀ m,n<=m->m<=nrem->dX key p m->(m=nrem\/O.klt (KN key p m) (KN key p (m - 1)))->G m s)->(kas_asc p f n).kasWp cmp G s
 | 0,n,h1,hf,hs,h=>h n (Nat.le_refl _) (by omega) hs (.inl (by omega))
 | f+1,n,h1,hf,hs,h=>by
  unfold kas_asc
  refine ask hc hp (by omega) (by omega) ?_
  cases hl:O.blt (KN key p n) (KN key p (n - 1)) with
  | true =>
   rw [if_pos rfl]
   exact h n (Nat.le_refl _) (by omega) hs (.inr hl)
  | false =>
   rw [if_neg (by simp)]
   refine asc hc hp hN f (n+1) (by omega) (by omega) (fun i j hij hj=>?_) fun m a b c d=>h m (by omega) b c d
   by_cases hjx:j < n
   ·exact hs i j hij hjx
   ·have hj':j=n:=by omega
    subst hj'
    by_cases hi':i=j
    ·subst hi';exact KeyOrd.kle_refl _
    ·exact KeyOrd.kle_trans (hs i (j - 1) (by omega) (by omega)) hl
theorem desc{G:Array Nat × Nat × Nat->Shared->Prop}{nrem:Nat}(hc:Cmp key N cmp s)(hN:nrem<=N):∀(f:Nat)(p:Array Nat)(n q:Nat),InN N p->1<=n->n+f=nrem->xO key p n->q+1<=n ->
  (∀ i,n - (q+1)<=i->i < n->KN key p i=KN key p (n - 1)) ->
  (∀ p m q,InN N p->n<=m->m<=nrem->xO key p m->q+1<=m->(∀ i,m - (q+1)<=i->i < m->KN key p i=KN key p (m - 1))->G (p,m,q) s)->(kas_desc f p n q).kasWp cmp G s
 | 0,p,n,q,hp,h1,hf,hs,hq,he,h=>h p n q hp (Nat.le_refl _) (by omega) hs hq he
 | f+1,p,n,q,hp,h1,hf,hs,hq,he,h=>by
  unfold kas_desc
  have hsz:n<=p.size:=by rw [hp.size];omega
  refine ask hc hp (by omega) (by omega) ?_
  cases hl:O.blt (KN key p n) (KN key p (n - 1)) with
  | true =>
   rw [if_pos rfl]
   have step1:∀ xs:Array Nat,(∀ k,KN key xs k=KN key p k)->xO key xs (n+1):=by
    intro xs hk i j hij hj
    rw [hk,hk]
    by_cases hjx:j < n
    ·exact hs i j hij hjx
    ·have hj':j=n:=by omega
     subst hj'
     by_cases hi':i=j
     ·subst hi';exact KeyOrd.kle_refl _
     ·exact KeyOrd.kle_trans (KeyOrd.kle_of_klt hl) (hs i (j - 1) (by omega) (by omega))
   by_cases hneq:q > 0
   ·rw [if_pos hneq]
    exact desc hc hN f _ (n+1) 0 (hp.rev _ _) (by omega) (by omega) (step1 _ (eG hsz he)) (by omega) (fun i a b=>by congr 1;omega) fun p m q x a b c d e=>h p m q x (by omega) b c d e
   ·rw [if_neg hneq]
    exact desc hc hN f _ (n+1) 0 hp (by omega) (by omega) (step1 _ fun _=>rfl) (by omega) (fun i a b=>by congr 1;omega) fun p m q x a b c d e=>h p m q x (by omega) b c d e
  | false =>
   rw [if_neg (by simp)]
   refine ask hc hp (by omega) (by omega) ?_
   cases hg:O.blt (KN key p (n - 1)) (KN key p n) with
   | true =>
    rw [if_pos rfl]
    exact h p n q hp (Nat.le_refl _) (by omega) hs hq he
   | false =>
    rw [if_neg (by simp)]
    have heqx:KN key p n=KN key p (n - 1):=KeyOrd.kle_antisymm hg hl
    refine desc hc hN f p (n+1) (q+1) hp (by omega) (by omega) (fun i j hij hj=>?_) (by omega) (fun i a b=>?_) fun p m q x a b c d e=>h p m q x (by omega) b c d e
    ·by_cases hjx:j < n
     ·exact hs i j hij hjx
     ·have hj':j=n:=by omega
      subst hj'
      by_cases hi':i=j
      ·subst hi';exact KeyOrd.kle_refl _
      ·rw [heqx];exact hs i (j - 1) (by omega) (by omega)
    ·rw [show n+1 - 1=n by omega]
     by_cases hix:i=n
     ·subst hix;rfl
     ·rw [heqx];exact he i (by omega) (by omega)
theorem tail3{p:Array Nat}{n nrem:Nat}{G:Nat × Array Nat->Shared->Prop}(hc:Cmp key N cmp s)(hp:InN N p)(hN:nrem<=N)(h1:1<=n)(hn:n<=nrem)(hs:xO key p n)
  (h:∀ m q,InN N q->1<=m->m<=nrem->dX key q m->G (m,q) s):(kas_tail3 n nrem p).kasWp cmp G s:=by
 unfold kas_tail3
 rw [KasT.kasWp_bind]
 have hsz:n<=p.size:=by rw [hp.size];omega
 refine asc (nrem:=nrem) hc (hp.rev _ _) hN _ n h1 (by omega) (fun i j hij hj=>?_) fun m a b c _=>h m _ (hp.rev _ _) (by omega) b c
 rw [xR hsz,xR hsz,if_pos (by omega),if_pos (by omega)]
 exact hs _ _ (by omega) (by omega)
theorem descPart{p:Array Nat}{n nrem:Nat}{G:Nat × Array Nat->Shared->Prop}(hc:Cmp key N cmp s)(hp:InN N p)(hN:nrem<=N)(hn:n+1<=nrem)(hs:xO key p (n+1))
  (h:∀ m q,InN N q->1<=m->m<=nrem->dX key q m->G (m,q) s):(kas_descPart n nrem p).kasWp cmp G s:=by
 unfold kas_descPart
 rw [KasT.kasWp_bind]
 refine desc (nrem:=nrem) hc hN _ p (n+1) 0 hp (by omega) (by omega) hs (by omega) (fun i a b=>by congr 1;omega) fun p' m q hp' hm1 hm2 hf hq he=>?_
 dsimp only
 have hsz:m<=p'.size:=by rw [hp'.size];omega
 by_cases hneq:q > 0
 ·rw [if_pos hneq]
  refine tail3 hc (hp'.rev _ _) hN (by omega) hm2 (fun i j hij hj=>?_) h
  rw [eG hsz he,eG hsz he]
  exact hf i j hij hj
 ·rw [if_neg hneq]
  exact tail3 hc hp' hN (by omega) hm2 hf h
theorem count{p:Array Nat}{nrem:Nat}{G:Nat × Array Nat->Shared->Prop}(hc:Cmp key N cmp s)(hp:InN N p)(hN:nrem<=N)(h1:1<=nrem)
  (h:∀ m q,InN N q->1<=m->m<=nrem->dX key q m->G (m,q) s):(kas_count nrem p).kasWp cmp G s:=by
 unfold kas_count
 rw [KasT.kasWp_bind]
 refine asc (nrem:=nrem) hc hp hN _ 1 (Nat.le_refl _) (by omega) (fun i j hij hj=>by have:i=j:=(by omega);subst this;exact KeyOrd.kle_refl _) fun n hn1 hn2 hsn hor=>?_
 by_cases hnn:n=nrem
 ·rw [if_pos (by simpa using hnn)]
  exact h n p hp hn1 hn2 hsn
 ·rw [if_neg (by simpa using hnn)]
  have hlt:O.klt (KN key p n) (KN key p (n - 1)):=hor.resolve_left hnn
  by_cases hgt:n > 1
  ·rw [if_pos hgt]
   refine ask hc hp (by omega) (by omega) ?_
   cases hrose:O.blt (KN key p 0) (KN key p (n - 1)) with
   | true =>
    rw [if_pos rfl]
    exact h n p hp hn1 hn2 hsn
   | false =>
    rw [if_neg (by simp)]
    have hsz:n<=p.size:=by rw [hp.size];omega
    have hall:∀ k,0<=k->k < n->KN key p k=KN key p (n - 1):=by
     intro k _ hk
     have a1:=hsn 0 k (by omega) hk
     have a2:=hsn k (n - 1) (by omega) (by omega)
     exact KeyOrd.kle_antisymm a2 (KeyOrd.kle_trans hrose a1)
    refine descPart hc (hp.rev _ _) hN (by omega) (fun i j hij hj=>?_) h
    rw [eG hsz hall,eG hsz hall]
    by_cases hjn:j < n
    ·rw [hall i (by omega) (by omega),hall j (by omega) hjn];exact KeyOrd.kle_refl _
    ·have hj':j=n:=by omega
     subst hj'
     by_cases hi':i=j
     ·subst hi';exact KeyOrd.kle_refl _
     ·rw [hall i (by omega) (by omega)];exact KeyOrd.kle_of_klt hlt
  ·rw [if_neg hgt]
   have hn1':n=1:=by omega
   subst hn1'
   refine descPart hc hp hN (by omega) (fun i j hij hj=>?_) h
   by_cases hi':i=j
   ·subst hi';exact KeyOrd.kle_refl _
   ·have hi0:i=0:=by omega
    have hj1:j=1:=by omega
    subst hi0;subst hj1
    exact KeyOrd.kle_of_klt hlt
theorem place{p:Array Nat}{k:Nat}{G:Nat->Shared->Prop}(hc:Cmp key N cmp s)(hp:InN N p)(hk:k < N)(hs:dX key p k):∀(f l r:Nat),l<=r->r<=k->r - l<=f ->
  (∀ i,i < l->O.kle (KN key p i) (KN key p k))->(∀ i,r<=i->i < k->O.klt (KN key p k) (KN key p i)) ->
  (∀ l,l<=k->(∀ i,i < l->O.kle (KN key p i) (KN key p k))->(∀ i,l<=i->i < k->O.klt (KN key p k) (KN key p i))->G l s)->(kas_place p k f l r).kasWp cmp G s
 | 0,l,r,hlr,hrk,hf,hlo,hhi,h=>by
  have e:l=r:=by omega
  subst e
  exact h l hrk hlo hhi
 | f+1,l,r,hlr,hrk,hf,hlo,hhi,h=>by
  unfold kas_place
  by_cases hge:l ≥ r
  ·rw [if_pos hge]
   have e:l=r:=by omega
   subst e
   exact h l hrk hlo hhi
  ·rw [if_neg hge]
   refine ask hc hp hk (by omega) ?_
   cases hl:O.blt (KN key p k) (KN key p ((l+r) / 2)) with
   | true =>
    rw [if_pos rfl]
    exact place hc hp hk hs f l ((l+r) / 2) (by omega) (by omega) (by omega) hlo (fun i a b=>KeyOrd.klt_of_klt_of_kle hl (hs _ _ a b)) h
   | false =>
    rw [if_neg (by simp)]
    exact place hc hp hk hs f ((l+r) / 2+1) r (by omega) (by omega) (by omega) (fun i a=>KeyOrd.kle_trans (hs i ((l+r) / 2) (by omega) (by omega)) hl) hhi h
theorem bin{n:Nat}{G:Array Nat->Shared->Prop}(hc:Cmp key N cmp s)(hN:n<=N):∀(f:Nat)(p:Array Nat)(k:Nat),InN N p->k+f=n->dX key p k ->
  (∀ p,InN N p->dX key p n->G p s)->(kas_bin f p k).kasWp cmp G s
 | 0,p,k,hp,hf,hs,h=>h p hp (by rw [show n=k by omega];exact hs)
 | f+1,p,k,hp,hf,hs,h=>by
  unfold kas_bin
  rw [KasT.kasWp_bind]
  refine place hc hp (by omega) hs k 0 k (by omega) (Nat.le_refl _) (by omega) (fun i a=>by omega) (fun i a b=>by omega) fun l hlk hlo hhi=>?_
  refine bin hc hN f _ (k+1) (hp.of (bubble_perm _ _ _)) (by omega) (fun i j hij hj=>?_) h
  have hks:k < p.size:=by rw [hp.size];omega
  rw [qP hks (by omega),qP hks (by omega),show k - (k - l)=l by omega]
  repeat' split
  all_goals first
   | (exfalso;omega)
   | exact KeyOrd.kle_refl _
   | exact hlo _ (by omega)
   | exact KeyOrd.kle_of_klt (hhi _ (by omega) (by omega))
   | exact hs _ _ (by omega) (by omega)
theorem sort{G:Array Nat->Shared->Prop}(hc:Cmp key N cmp s)(h1:1<=N)(h:∀ p,InN N p->dX key p N->G p s):(kas_sort N).kasWp cmp G s:=by
 unfold kas_sort
 rw [KasT.kasWp_bind]
 refine count hc (show InN N _ by unfold InN;simp) (Nat.le_refl _) h1 fun m q hq hm1 hm2 hs=>?_
 dsimp only
 by_cases hlt:m < N
 ·rw [if_pos hlt,show max m 1=m by omega]
  exact bin hc (Nat.le_refl _) _ q m hq (by omega) hs h
 ·rw [if_neg hlt]
  obtain rfl:m=N:=by omega
  exact h q hq hs
end
section
variable {prog:Program}{w:World}{A:Around}{E:Value->Shared->Prop}{s:Shared}
noncomputable def Keeps(h h':Heap):Prop:=∀ b o,h.get? b=some o->h'.get? b=some o
theorem Bw{a:Addr}{vs:List Value}{n:Nat}{P:PySem.Fin->Shared->Prop}(key:Nat->O.α)(κ:SortKind)(ho:s.heap.get? a=some (seqObj "list" vs.toArray n))(h64:vs.length < 64)
  (hk:2<=vs.length->∀ h',(∀ b o,b≠a->s.heap.get? b=some o->h'.get? b=some o)->∀(Q:SortKind->Shared->Prop),Q κ { s with heap:=h' }->wpAny (model prog w) A (keyKind' vs.toArray) Q E { s with heap:=h' })
  (hc:∀ h',(∀ b o,b≠a->s.heap.get? b=some o->h'.get? b=some o)->Cmp key vs.length (kas_ask prog w A κ vs) { s with heap:=h' })
  (h:∀ p,InN vs.length p->dX key p vs.length->P (.done (.ret .none)) { s with heap:=sortedHeap s.heap a vs (List.toArray (p.toList.map fun i=>vs.getD i Value.none)) }) :
  wpAny (model prog w) A (Builtin.«list.sort» ⟨[.ref a],[]⟩) P E s:=by
 rw [list_sort_plain]
 have ha:a < s.heap.objs.size:=Heap.lt_size ho
 refine wpAny_bind (listItems_at ho rfl ?_)
 refine wpAny_bind (listUpdate_at ho rfl ?_ (by rw [sizeLine_eq];simp;omega))
 obtain⟨e1,ho1⟩:∃ e1,(s.heap.update a (Obj.mapSeq fun _=>#[])).get? a=some (seqObj "list" #[] e1):=⟨_,get?_update_seq ho (fun _=>#[])⟩
 refine wpAny_bind (seqEpoch_at ho1 rfl ?_)
 refine wpAny_bind (wpAny_newTuple ?_ (by rw [sizeLine_eq];simp;omega))
 refine wpAny_bind (wpAny_newList ?_)
 refine wpAny_holding ?_
 have keep:∀ b o,b≠a->s.heap.get? b=some o->(((s.heap.update a (Obj.mapSeq fun _=>#[])).push (seqObj "tuple" vs.toArray 0)).push (seqObj "list" #[] 0)).get? b=some o:=fun b o hb q=>by
  have hlt:b < s.heap.objs.size:=Heap.lt_size q
  rw [Heap.get?_push_ne _ _ _ (by rw [size_push',Heap.size_update];exact Nat.ne_of_lt (Nat.lt_succ_of_lt hlt)),Heap.get?_push_ne _ _ _ (by rw [Heap.size_update];exact Nat.ne_of_lt hlt),Heap.get?_update_ne _ _ _ _ hb]
  exact q
 have ho6:(((s.heap.update a (Obj.mapSeq fun _=>#[])).push (seqObj "tuple" vs.toArray 0)).push (seqObj "list" #[] 0)).get? a=some (seqObj "list" #[] e1):=by
  rw [Heap.get?_push_ne _ _ _ (by rw [size_push',Heap.size_update];exact Nat.ne_of_lt (Nat.lt_succ_of_lt ha)),Heap.get?_push_ne _ _ _ (by rw [Heap.size_update];exact Nat.ne_of_lt ha)]
  exact ho1
 show wpAny (model prog w) A _ P E { s with heap:=((s.heap.update a (Obj.mapSeq fun _=>#[])).push (seqObj "tuple" vs.toArray 0)).push (seqObj "list" #[] 0) }
 dsimp only
 have hsz:vs.toArray.size=vs.length:=by simp
 by_cases h2:vs.toArray.size < 2
 ·rw [if_pos h2,if_pos h2]
  refine wpAny_bind (wpAny_pure ?_)
  rw [StateT.run_pure]
  refine wpAny_bind (wpAny_pure ?_)
  dsimp only
  refine wpAny_bind (seqEpoch_at ho6 rfl ?_)
  have e:((arrOf (SortSt.mk' general' (vs.toArray.zip vs.toArray) #[] 7 none)).map (·.2))=List.toArray ((List.range vs.length).toArray.toList.map fun i=>vs.getD i Value.none):=by
   show (vs.toArray.zip vs.toArray).map (·.2)=_
   apply Array.toList_inj.mp
   apply List.ext_getElem
   ·simp
   ·intro i h1 h2'
    simp at h1 h2' ⊢
    simp [h1]
  rw [e]
  refine wpAny_bind (listUpdate_at ho6 rfl ?_ (hsz2:=by rw [sizeLine_eq];simp;omega))
  simp only [bne_self_eq_false,Bool.false_eq_true,if_false]
  refine wpAny_pure (h _ (show InN vs.length (List.range vs.length).toArray from List.Perm.refl _) ?_)
  intro i j hij hj
  have:i=j:=by omega
  subst this;exact KeyOrd.kle_refl _
 ·rw [if_neg h2,if_neg h2]
  refine wpAny_bind (hk (by omega) _ keep _ ?_)
  refine wpAny_bind (wpAny_mono (kat_run (ks:=vs) (vs:=vs) (Q:=fun st' s'=>∃ p:Array Nat,arrOf st'=p.map (kas_item (vs.toArray.zip vs.toArray))/\failedOf st'=none/\s'=_/\InN vs.length p/\dX key p vs.length)
   (G:=fun p s'=>s'=_/\InN vs.length p/\dX key p vs.length) rfl (by omega) h64 (fun p st' s' _ har hf hg=>⟨p,har,hf,hg⟩) (sort (hc _ keep) (by omega) fun p a b=>⟨rfl,a,b⟩)) ?_ fun _ _ x=>x)
  rintro ⟨⟨⟩,st'⟩ s' ⟨p,har,hf,rfl,hi,hso⟩
  dsimp only
  have hpl:p.size<=63:=by rw [hi.size];omega
  refine wpAny_bind (seqEpoch_at ho6 rfl ?_)
  rw [kat_snds rfl har]
  refine wpAny_bind (listUpdate_at ho6 rfl ?_ (hsz2:=by rw [sizeLine_eq];simp;omega))
  rw [hf]
  simp only [bne_self_eq_false,Bool.false_eq_true,if_false]
  exact wpAny_pure (h p hi hso)
theorem z7{v:Value}{vs:List Value}{g:Heap}{Q:Value->Shared->Prop}(key:Nat->O.α)(κ:SortKind)(h64:vs.length < 64)(kg:Keeps s.heap g)
  (hcol:∀(Q:List Value->Shared->Prop),Q vs { s with heap:=g }->wpAny (model prog w) A.in1 (collect v) Q E { s with heap:=s.heap })
  (hk:2<=vs.length->∀ h',Keeps s.heap h'->∀(E:Value->Shared->Prop)(Q:SortKind->Shared->Prop),Q κ { s with heap:=h' }->wpAny (model prog w) A.in1.in1 (keyKind' vs.toArray) Q E { s with heap:=h' })
  (hc:∀ h',Keeps s.heap h'->Cmp key vs.length (kas_ask prog w A.in1.in1 κ vs) { s with heap:=h' })
  (h:∀(g':Heap)(p:Array Nat),Keeps s.heap g'->InN vs.length p->dX key p vs.length->(∃ n,g'.get? g.objs.size=some (seqObj "list" (List.toArray (p.toList.map fun i=>vs.getD i Value.none)) n))->Q (.ref g.objs.size) { s with heap:=g' }) :
  wpAny (model prog w) A (call (.builtin "sorted") [v]) Q E s:=by
 refine Calls.call_function_entry kind_sorted plain_sorted entry_sorted (args_sorted1 _) ?_
 unfold Builtin.«sorted»
 refine wpAny_bind (m:=checkCount "sorted" 1 1 _) (wpAny_pure ?_)
 refine wpAny_bind (hcol _ ?_)
 refine wpAny_bind (wpAny_newList ?_ (by rw [sizeLine_eq];omega))
 have hoL:(g.push (seqObj "list" vs.toArray 0)).get? g.objs.size=some (seqObj "list" vs.toArray 0):=Heap.get?_push_size _ rfl
 have keep:∀ h',(∀ b o,b≠g.objs.size->(g.push (seqObj "list" vs.toArray 0)).get? b=some o->h'.get? b=some o)->Keeps s.heap h':=fun h' k b o q=>by
  have q':=kg b o q
  exact k b o (Nat.ne_of_lt (Heap.lt_size q')) (Heap.get?_push_of_some _ q')
 show wpAny _ _ _ _ _ { s with heap:=g.push (seqObj "list" vs.toArray 0) }
 refine wpAny_bind (wpAny_holding (wpAny_call_entry slot_list_sort ⟨_,hoL,rfl⟩ entry_list_sort (Bw key κ hoL h64 (fun z h' k Q q=>hk z h' (keep h' k) _ Q q) (fun h' k=>hc h' (keep h' k)) fun p a1 a2=>⟨_,rfl,?_⟩) (args_list_sort _)))
 refine wpAny_pure ⟨_,rfl,h _ p (keep _ fun b o hb q=>?_) a1 a2 ?_⟩
 ·unfold sortedHeap
  have hlt:b < (g.push (seqObj "list" vs.toArray 0)).objs.size:=Heap.lt_size q
  rw [Heap.get?_update_ne _ _ _ _ hb,Heap.get?_push_ne _ _ _ (by rw [size_push',Heap.size_update];exact Nat.ne_of_lt (Nat.lt_succ_of_lt hlt)),Heap.get?_push_ne _ _ _ (by rw [Heap.size_update];exact Nat.ne_of_lt hlt),Heap.get?_update_ne _ _ _ _ hb]
  exact q
 ·unfold sortedHeap
  have ha:g.objs.size < (g.push (seqObj "list" vs.toArray 0)).objs.size:=Heap.lt_size hoL
  obtain⟨e1,ho1⟩:∃ e1,((g.push (seqObj "list" vs.toArray 0)).update g.objs.size (Obj.mapSeq fun _=>#[])).get? g.objs.size=some (seqObj "list" #[] e1):=⟨_,get?_update_seq hoL (fun _=>#[])⟩
  have ho6:((((g.push (seqObj "list" vs.toArray 0)).update g.objs.size (Obj.mapSeq fun _=>#[])).push (seqObj "tuple" vs.toArray 0)).push (seqObj "list" #[] 0)).get? g.objs.size=some (seqObj "list" #[] e1):=by
   rw [Heap.get?_push_ne _ _ _ (by rw [size_push',Heap.size_update];exact Nat.ne_of_lt (Nat.lt_succ_of_lt ha)),Heap.get?_push_ne _ _ _ (by rw [Heap.size_update];exact Nat.ne_of_lt ha)]
   exact ho1
  exact⟨_,get?_update_seq ho6 _⟩
end
end SO
set_option maxHeartbeats 4000000
namespace PySem.SeqAt
open AutoSeq1 (wpAny_loadPart')
open MeetsSeq MeetsSeq2 MeetsSeq3 SeqRoads2
noncomputable def wL(A:Around)(s:Shared)(y x:Value)(b:Bool):Prop :=
 ∀(prog:Program)(w:World)(E:Value->Shared->Prop)(Q:Value->Shared->Prop),Q (.bool b) s->wpAny (model prog w) A (richCompare .Lt y x) Q E s
noncomputable def mH(e f:Nat->Bool)(fin:Bool):List Nat->Bool
 | []=>fin
 | i :: r=>if e i=true then mH e f fin r else f i
theorem wg(l b:Addr)(items items2:Array Value)(n n2:Nat)(dd dd2:Option Addr)(sl sl2:Array (Option Value))(e f:Nat->Bool) :
  Meets (Builtin.«tuple.__lt__» ⟨[.ref l,.ref b],[]⟩)
   (fun A R s=>s.heap.get? l=some { cls:=.type "tuple",dict:=dd,data:=.seq items n,slots:=sl }/\s.heap.get? b=some { cls:=.type "tuple",dict:=dd2,data:=.seq items2 n2,slots:=sl2 } /\
    (∀ j (h1:j < items.size) (h2:j < items2.size),EqAt A.in1 s items[j] items2[j] (e j))/\(∀ j (h1:j < items.size) (h2:j < items2.size),e j=false->wL A.in1 s items[j] items2[j] (f j)) /\
    R (.ok (.ret (.bool (mH e f (decide (items.size < items2.size)) (List.range (min items.size items2.size)))))) s) :=
 .of_wp fun prog w A R s h=>by
  obtain⟨hp,g,d,tk,os⟩:=s;obtain⟨hl,hb,he,hf,h⟩:=h
  have f2:=AutoSeq1.sub_tuple_tuple
  have hZ:(items.toList.zip items2.toList).length=min items.size items2.size:=by simp
  wp_walk using wpAny_loadPart' hl,wpAny_loadPart' hb,wpAny_forIn_list _ (fun rest b s'=>b.1=none/\s'=⟨hp,g,d,tk,os⟩/\∃ i,rest=(items.toList.zip items2.toList).drop i /\
   R (.ok (.ret (.bool (mH e f (decide (items.size < items2.size)) ((List.range (min items.size items2.size)).drop i))))) ⟨hp,g,d,tk,os⟩) _
  case turn =>
   rintro ⟨y,x⟩ rest b s' ⟨hb',rfl,i,hz,hR⟩
   have hlt:i < (items.toList.zip items2.toList).length:=by
    rcases Nat.lt_or_ge i (items.toList.zip items2.toList).length with h' | h'
    ·exact h'
    ·rw [List.drop_of_length_le h'] at hz;cases hz
   have hm:i < min items.size items2.size:=hZ ▸ hlt
   have h1:i < items.size:=Nat.lt_of_lt_of_le hm (Nat.min_le_left _ _)
   have h2:i < items2.size:=Nat.lt_of_lt_of_le hm (Nat.min_le_right _ _)
   rw [List.drop_eq_getElem_cons hlt] at hz
   injection hz with hyx hrest
   have hy:y=items[i]:=by have:=congrArg Prod.fst hyx;simpa using this
   have hx:x=items2[i]:=by have:=congrArg Prod.snd hyx;simpa using this
   subst hy hx
   have hd:(List.range (min items.size items2.size)).drop i=i :: (List.range (min items.size items2.size)).drop (i+1):=by simp [List.drop_eq_getElem_cons,hm]
   rw [hd] at hR
   refine wpAny_bind (he i h1 h2 prog w _ _ ?_)
   cases hy:e i with
   | true =>
    have hR':R (.ok (.ret (.bool (mH e f (decide (items.size < items2.size)) ((List.range (min items.size items2.size)).drop (i+1)))))) ⟨hp,g,d,tk,os⟩:=by
     have:mH e f (decide (items.size < items2.size)) (i :: (List.range (min items.size items2.size)).drop (i+1))=mH e f (decide (items.size < items2.size)) ((List.range (min items.size items2.size)).drop (i+1)):=by
      show (if e i=true then _ else _)=_
      rw [if_pos hy]
     rw [this] at hR
     exact hR
    wp_walk
    exact⟨rfl,rfl,i+1,hrest,hR'⟩
   | false =>
    have hR':R (.ok (.ret (.bool (f i)))) ⟨hp,g,d,tk,os⟩:=by
     have:mH e f (decide (items.size < items2.size)) (i :: (List.range (min items.size items2.size)).drop (i+1))=f i:=by
      show (if e i=true then _ else _)=_
      rw [if_neg (by simp [hy])]
     rw [this] at hR
     exact hR
    simp only [Bool.not_false,if_true]
    refine wpAny_bind (wpAny_rule (wpAny_bind (hf i h1 h2 hy prog w _ _ ?_)))
    wp_walk
    exact⟨_,rfl,hR'⟩
  case fin =>
   rintro ⟨b1,b2⟩ s' ⟨hb',rfl,i,hz,hR⟩
   simp only at hb'
   subst hb'
   have hge:min items.size items2.size<=i:=by
    rcases Nat.lt_or_ge i (items.toList.zip items2.toList).length with h' | h'
    ·rw [List.drop_eq_getElem_cons h'] at hz;cases hz
    ·exact hZ ▸ h'
   rw [List.drop_of_length_le (by simpa using hge)] at hR
   wp_walk
   exact⟨_,rfl,by simpa [Builtin.Tuple.tupleCompareSizes,mH] using hR⟩
  case h =>
   exact⟨rfl,rfl,0,rfl,by simpa using h⟩
section
variable {A:Around}{s:Shared}
theorem wL.tuples{l b:Addr}{items items2:Array Value}{e f:Nat->Bool}(hl:s.heap.IsTuple l items)(hb:s.heap.IsTuple b items2)(hu:A.units < cLine)
  (he:∀ j (h1:j < items.size) (h2:j < items2.size),EqAt A.in1 s items[j] items2[j] (e j))(hf:∀ j (h1:j < items.size) (h2:j < items2.size),e j=false->wL A.in1 s items[j] items2[j] (f j)) :
  wL A s (.ref l) (.ref b) (mH e f (decide (items.size < items2.size)) (List.range (min items.size items2.size))):=fun prog w E Q h=>by
 obtain⟨⟨cls,dd,data,sl⟩,ho,hc,n,hd⟩:=id hl
 obtain⟨⟨cls2,dd2,data2,sl2⟩,ho2,hc2,n2,hd2⟩:=id hb
 simp only at hc hd hc2 hd2
 subst hc hd hc2 hd2
 exact richCompare_meets_room (op:=.Lt) ⟨_,ho,rfl⟩ ⟨_,ho2,rfl⟩ F.slot_tuple_lt F.entry_tuple_lt (F.args_tuple_lt_2 _ _) (wg l b items items2 n n2 dd dd2 sl sl2 e f)
  ⟨ho,ho2,he,hf,show Value.bool (mH e f (decide (items.size < items2.size)) (List.range (min items.size items2.size)))≠Value.notImplemented/\Q (.bool (mH e f (decide (items.size < items2.size)) (List.range (min items.size items2.size)))) s from ⟨(fun x=>nomatch x),h⟩⟩ hu
end
end PySem.SeqAt
set_option maxHeartbeats 400000
namespace L2
open PySem PySem.Spec PyProof.Rows
noncomputable def dO:D->Nat
 | .non=>0 | .bl _=>1 | .int _=>2 | .str _=>3 | .tup _=>4
open Classical in
noncomputable def eqD(a b:D):Bool:=decide (a=b)
theorem Gy{x y:Str}(e:x.cps.toList=y.cps.toList):x=y:=by
 cases x;cases y
 simp only at e
 congr
 exact Array.toList_inj.mp e
theorem gH{a b:D}(h:eqD a b=true):a=b:=@of_decide_eq_true _ (Classical.propDecidable _) h
theorem gD(d:D):eqD d d=true:=@decide_eq_true _ (Classical.propDecidable _) rfl
theorem iZ{a b:D}:eqD a b=true↔a=b:=⟨gH,fun h=>by subst h;exact gD _⟩
theorem lR{a b:D}(h:eqD a b=false):a≠b:=fun e=>by
 rw [iZ.mpr e] at h
 cases h
theorem pW{a b:D}(h:a≠b):eqD a b=false:=by
 cases e:eqD a b with
 | true=>exact absurd (gH e) h
 | false=>rfl
noncomputable def klt:D->D->Bool
 | .bl a=>fun e=>match e with | .bl b=>!a && b | _=>false
 | .int a=>fun e=>match e with | .int b=>decide (a < b) | _=>false
 | .str x=>fun e=>match e with | .str y=>decide (x.cps.toList < y.cps.toList) | _=>false
 | _=>fun _=>false
noncomputable def BK(a b:D):Bool:=decide (dO a < dO b) || klt a b
mutual
noncomputable def dlt:D->D->Bool
 | .tup xs=>fun e=>match e with | .tup ys=>sY xs ys | _=>false
 | .non=>BK .non
 | .bl b=>BK (.bl b)
 | .int i=>BK (.int i)
 | .str x=>BK (.str x)
noncomputable def sY:List D->List D->Bool
 | []=>fun ys=>match ys with | []=>false | _ :: _=>true
 | x :: xs=>fun ys=>match ys with | []=>false | y :: ys=>if eqD x y=true then sY xs ys else dlt x y
end
theorem tD(a b:Int):dlt (.int a) (.int b)=decide (a < b):=rfl
theorem Bb(x y:Str):dlt (.str x) (.str y)=decide (x.cps.toList < y.cps.toList):=rfl
theorem Fi(xs ys:List D):dlt (.tup xs) (.tup ys)=sY xs ys:=rfl
theorem G8(y:D)(ys:List D):sY [] (y :: ys)=true:=rfl
theorem FT(x:D)(xs:List D):sY (x :: xs) []=false:=rfl
theorem nM(x y:D)(xs ys:List D):sY (x :: xs) (y :: ys)=if eqD x y=true then sY xs ys else dlt x y:=rfl
theorem GC{x y:Str}(h1:¬ x.cps.toList < y.cps.toList)(h2:¬ y.cps.toList < x.cps.toList):x=y :=
 Gy (List.le_antisymm (List.not_lt.mp h2) (List.not_lt.mp h1))
theorem ff{P:Prop}(h:false=true):P:=Bool.noConfusion h
theorem Iv{P:D->D->Prop}(h1:P (.bl false) (.bl true))(h2:∀ i j:Int,i < j->P (.int i) (.int j))(h3:∀ x y:Str,x.cps.toList < y.cps.toList->P (.str x) (.str y)):∀ {a b:D},klt a b=true->P a b:=by
 intro a b h
 cases a with
 | bl p =>
  cases b with
  | bl q=>cases p <;> cases q <;> first | exact h1 | exact ff h
  | non=>exact ff h
  | int _=>exact ff h
  | str _=>exact ff h
  | tup _=>exact ff h
 | int p =>
  cases b with
  | int q=>exact h2 p q (of_decide_eq_true h)
  | non=>exact ff h
  | bl _=>exact ff h
  | str _=>exact ff h
  | tup _=>exact ff h
 | str p =>
  cases b with
  | str q=>exact h3 p q (of_decide_eq_true h)
  | non=>exact ff h
  | bl _=>exact ff h
  | int _=>exact ff h
  | tup _=>exact ff h
 | non=>exact ff h
 | tup _=>exact ff h
theorem uz{a b:D}(h:klt a b=true):dO a=dO b/\dO a < 4:=Iv (P:=fun a b=>dO a=dO b/\dO a < 4) ⟨rfl,by decide⟩ (fun _ _ _=>⟨rfl,by show 2 < 4;decide⟩) (fun _ _ _=>⟨rfl,by show 3 < 4;decide⟩) h
theorem IV{a b c:D}(h:klt a b=true):klt b c=true->klt a c=true:=Iv (P:=fun a b=>klt b c=true->klt a c=true) (fun h=>by cases c <;> exact ff h)
 (fun i j hij h=>by
  cases c with
  | int k=>exact decide_eq_true (Int.lt_trans hij (of_decide_eq_true h))
  | _=>exact ff h)
 (fun x y hxy h=>by
  cases c with
  | str z=>exact decide_eq_true (List.lt_trans hxy (of_decide_eq_true h))
  | _=>exact ff h) h
theorem zR{a b:D}(h:BK a b=true):dO a < dO b\/klt a b=true:=(Bool.or_eq_true _ _ ▸ h:_\/_).imp of_decide_eq_true id
theorem uD{a b:D}(h:dO a < dO b):BK a b=true:=by unfold BK;rw [decide_eq_true h];rfl
theorem zF{a b:D}(h:klt a b=true):BK a b=true:=by unfold BK;rw [h,Bool.or_true]
theorem yD:∀ {a:D} (b:D),dO a < 4->dlt a b=BK a b
 | .non,_,_=>rfl
 | .bl _,_,_=>rfl
 | .int _,_,_=>rfl
 | .str _,_,_=>rfl
 | .tup _,_,h=>absurd h (by show ¬ 4 < 4;decide)
theorem yj{xs:List D}{b:D}(h:dlt (.tup xs) b=true):∃ ys,b=.tup ys/\sY xs ys=true:=by
 cases b with
 | tup ys=>exact⟨ys,rfl,h⟩
 | _=>exact ff h
theorem Er{a:D}(h:¬ dO a < 4):∃ xs,a=.tup xs:=by
 cases a with
 | tup xs=>exact⟨xs,rfl⟩
 | non=>exact absurd (show 0 < 4 by decide) h
 | bl _=>exact absurd (show 1 < 4 by decide) h
 | int _=>exact absurd (show 2 < 4 by decide) h
 | str _=>exact absurd (show 3 < 4 by decide) h
theorem Ck{a b:D}(h:dlt a b=true):dO a<=dO b:=by
 by_cases ha:dO a < 4
 ·rw [yD b ha] at h
  rcases zR h with h | h
  ·omega
  ·exact Nat.le_of_eq (uz h).1
 ·obtain⟨xs,rfl⟩:=Er ha
  obtain⟨ys,rfl,_⟩:=yj h
  exact Nat.le_refl _
theorem tr0{a b c:D}(ha:dO a < 4)(h1:dlt a b=true)(h2:dlt b c=true):dlt a c=true:=by
 rw [yD _ ha] at h1 ⊢
 have hr:=Ck h2
 rcases zR h1 with h | h
 ·exact uD (Nat.lt_of_lt_of_le h hr)
 ·have hk:=uz h
  rw [yD _ (by rw [← hk.1];exact hk.2)] at h2
  rcases zR h2 with q | q
  ·exact uD (by rw [hk.1];exact q)
  ·exact zF (IV h q)
theorem Jt:∀ {a:D} (b:D),dO a < 4->dlt a b=false->dlt b a=false->a=b:=by
 intro a b ha h1 h2
 rw [yD _ ha] at h1
 have k1:¬ dO a < dO b:=fun z=>by rw [uD z] at h1;cases h1
 have hb:dO b < 4:=by omega
 rw [yD _ hb] at h2
 have k2:¬ dO b < dO a:=fun z=>by rw [uD z] at h2;cases h2
 have q1:klt a b=false:=by
  cases h:klt a b with
  | false=>rfl
  | true=>rw [zF h] at h1;cases h1
 have q2:klt b a=false:=by
  cases h:klt b a with
  | false=>rfl
  | true=>rw [zF h] at h2;cases h2
 have e:dO a=dO b:=by omega
 clear h1 h2 k1 k2 hb
 cases a with
 | non=>cases b <;> first | rfl | exact absurd e (Nat.ne_of_beq_eq_false rfl)
 | bl p =>
  cases b with
  | bl q=>cases p <;> cases q <;> first | rfl | exact ff q1.symm | exact ff q2.symm
  | _=>exact absurd e (Nat.ne_of_beq_eq_false rfl)
 | int p =>
  cases b with
  | int q=>exact congrArg D.int (Int.le_antisymm (Int.not_lt.mp (of_decide_eq_false q2)) (Int.not_lt.mp (of_decide_eq_false q1)))
  | _=>exact absurd e (Nat.ne_of_beq_eq_false rfl)
 | str p =>
  cases b with
  | str q=>exact congrArg D.str (GC (of_decide_eq_false q1) (of_decide_eq_false q2))
  | _=>exact absurd e (Nat.ne_of_beq_eq_false rfl)
 | tup _=>exact absurd ha (by show ¬ 4 < 4;decide)
mutual
theorem nY:∀ d:D,dlt d d=false
 | .non=>rfl
 | .bl b=>by cases b <;> rfl
 | .int i=>decide_eq_false (Int.lt_irrefl i)
 | .str x=>decide_eq_false (List.lt_irrefl _)
 | .tup xs=>uc xs
theorem uc:∀ ds:List D,sY ds ds=false
 | []=>rfl
 | d :: ds=>by rw [nM,if_pos (gD d)];exact uc ds
end
mutual
theorem tW:∀ a b:D,dlt a b=false->dlt b a=false->a=b
 | .non,b,h1,h2=>Jt b (by show 0 < 4;decide) h1 h2
 | .bl x,b,h1,h2=>Jt b (by show 1 < 4;decide) h1 h2
 | .int x,b,h1,h2=>Jt b (by show 2 < 4;decide) h1 h2
 | .str x,b,h1,h2=>Jt b (by show 3 < 4;decide) h1 h2
 | .tup xs,b,h1,h2=>by
  by_cases hb:dO b < 4
  ·exact (Jt (.tup xs) hb h2 h1).symm
  ·obtain⟨ys,rfl⟩:=Er hb
   exact congrArg D.tup (uN xs ys h1 h2)
theorem uN:∀ a b:List D,sY a b=false->sY b a=false->a=b
 | [],[],_,_=>rfl
 | [],_ :: _,h1,_=>ff h1.symm
 | _ :: _,[],_,h2=>ff h2.symm
 | x :: xs,y :: ys,h1,h2=>by
  rw [nM] at h1 h2
  cases he:eqD x y with
  | true =>
   have e:=gH he
   subst e
   rw [if_pos he] at h1 h2
   rw [uN xs ys h1 h2]
  | false =>
   rw [if_neg (fun z=>lR he (gH z))] at h1
   rw [if_neg (fun z=>lR he (gH z).symm)] at h2
   exact absurd (tW x y h1 h2) (lR he)
end
mutual
theorem uY:∀ a b c:D,dlt a b=true->dlt b c=true->dlt a c=true
 | .non,b,c,h1,h2=>tr0 (by show 0 < 4;decide) h1 h2
 | .bl x,b,c,h1,h2=>tr0 (by show 1 < 4;decide) h1 h2
 | .int x,b,c,h1,h2=>tr0 (by show 2 < 4;decide) h1 h2
 | .str x,b,c,h1,h2=>tr0 (by show 3 < 4;decide) h1 h2
 | .tup xs,b,c,h1,h2=>by
  obtain⟨ys,rfl,q1⟩:=yj h1
  obtain⟨zs,rfl,q2⟩:=yj h2
  exact yu xs ys zs q1 q2
theorem yu:∀ a b c:List D,sY a b=true->sY b c=true->sY a c=true
 | [],[],_,h1,_=>ff h1
 | [],_ :: _,[],_,h2=>ff h2
 | [],_ :: _,_ :: _,_,_=>rfl
 | _ :: _,[],_,h1,_=>ff h1
 | _ :: _,_ :: _,[],_,h2=>ff h2
 | x :: xs,y :: ys,z :: zs,h1,h2=>by
  rw [nM] at h1 h2 ⊢
  cases hxy:eqD x y with
  | true =>
   have e:=gH hxy
   subst e
   rw [if_pos hxy] at h1
   cases hxz:eqD x z with
   | true =>
    rw [if_pos hxz] at h2
    rw [if_pos rfl]
    exact yu xs ys zs h1 h2
   | false =>
    rw [if_neg (fun z=>lR hxz (gH z))] at h2
    rw [if_neg Bool.false_ne_true]
    exact h2
  | false =>
   rw [if_neg (fun z=>lR hxy (gH z))] at h1
   cases hyz:eqD y z with
   | true =>
    have e:=gH hyz
    subst e
    rw [if_neg (fun z=>lR hxy (gH z))]
    exact h1
   | false =>
    rw [if_neg (fun z=>lR hyz (gH z))] at h2
    have g:=uY x y z h1 h2
    rw [if_neg]
    ·exact g
    ·intro z'
     have e:=gH z'
     subst e
     rw [nY] at g
     cases g
end
noncomputable def Mp:KeyOrd where
 α:=D
 blt:=dlt
 irrefl:=nY
 trans:=uY
 negTrans:=fun a b c h=>by
  cases h1:dlt a b with
  | true=>exact .inl rfl
  | false =>
   cases h2:dlt b a with
   | true=>exact .inr (uY b a c h2 h)
   | false =>
    have e:=tW a b h1 h2
    subst e
    exact .inr h
 total:=tW
end L2
set_option maxHeartbeats 200000
namespace L2
open PySem PySem.Spec PyProof.Rows
noncomputable def UpD(ds:List D):Prop:=ds.Pairwise fun a b=>dlt b a=false
mutual
noncomputable def Sim:D->D->Prop
 | .int _=>fun e=>match e with | .int _=>True | _=>False
 | .str _=>fun e=>match e with | .str _=>True | _=>False
 | .tup xs=>fun e=>match e with | .tup ys=>pG xs ys | _=>False
 | _=>fun _=>False
noncomputable def pG:List D->List D->Prop
 | []=>fun _=>True
 | x :: xs=>fun ys=>match ys with | []=>True | y :: ys=>Sim x y/\pG xs ys
end
theorem xu{xs ys:List D}(h:pG xs ys):Sim (.tup xs) (.tup ys):=h
theorem rB{xs ys:List D}(h:Sim (.tup xs) (.tup ys)):pG xs ys:=h
theorem zx{x y:D}{xs ys:List D}(h:Sim x y)(k:pG xs ys):pG (x :: xs) (y :: ys):=⟨h,k⟩
theorem oN{x y:D}{xs ys:List D}(h:pG (x :: xs) (y :: ys)):Sim x y/\pG xs ys:=h
theorem Ft(ys:List D):pG [] ys:=trivial
theorem JV(xs:List D):pG xs []:=by cases xs <;> exact trivial
theorem pG.at_:∀ {xs ys:List D}{i:Nat}{x y:D},pG xs ys->xs[i]?=some x->ys[i]?=some y->Sim x y
 | [],_,i,x,y,_,hx,_=>by simp at hx
 | _ :: _,[],i,x,y,_,_,hy=>by simp at hy
 | a :: xs,b :: ys,0,x,y,h,hx,hy=>by
  simp at hx hy
  subst hx;subst hy
  exact (oN h).1
 | a :: xs,b :: ys,i+1,x,y,h,hx,hy=>by
  exact pG.at_ (i:=i) (oN h).2 (by simpa using hx) (by simpa using hy)
mutual
theorem Den.det{H:Hp}:∀ {d e:D}{v:V},Den H v d->Den H v e->d=e
 | .non,e,v,h1,h2=>by
  have:v=.non:=h1
  subst this
  cases e with
  | non=>rfl
  | tup ds=>obtain⟨p,vs,z,_⟩:=bO h2;cases z
  | bl b=>exact absurd (show V.non=.bl b from h2) (fun z=>nomatch z)
  | int b=>exact absurd (show V.non=.int b from h2) (fun z=>nomatch z)
  | str b=>exact absurd (show V.non=.str b from h2) (fun z=>nomatch z)
 | .bl b,e,v,h1,h2=>by
  have:v=.bl b:=h1
  subst this
  cases e with
  | bl c=>have z:V.bl b=.bl c:=h2;cases z;rfl
  | tup ds=>obtain⟨p,vs,z,_⟩:=bO h2;cases z
  | non=>exact absurd (show V.bl b=.non from h2) (fun z=>nomatch z)
  | int c=>exact absurd (show V.bl b=.int c from h2) (fun z=>nomatch z)
  | str c=>exact absurd (show V.bl b=.str c from h2) (fun z=>nomatch z)
 | .int b,e,v,h1,h2=>by
  have:v=.int b:=h1
  subst this
  cases e with
  | int c=>have z:V.int b=.int c:=h2;cases z;rfl
  | tup ds=>obtain⟨p,vs,z,_⟩:=bO h2;cases z
  | non=>exact absurd (show V.int b=.non from h2) (fun z=>nomatch z)
  | bl c=>exact absurd (show V.int b=.bl c from h2) (fun z=>nomatch z)
  | str c=>exact absurd (show V.int b=.str c from h2) (fun z=>nomatch z)
 | .str b,e,v,h1,h2=>by
  have:v=.str b:=h1
  subst this
  cases e with
  | str c=>have z:V.str b=.str c:=h2;cases z;rfl
  | tup ds=>obtain⟨p,vs,z,_⟩:=bO h2;cases z
  | non=>exact absurd (show V.str b=.non from h2) (fun z=>nomatch z)
  | bl c=>exact absurd (show V.str b=.bl c from h2) (fun z=>nomatch z)
  | int c=>exact absurd (show V.str b=.int c from h2) (fun z=>nomatch z)
 | .tup ds,e,v,h1,h2=>by
  obtain⟨p,vs,rfl,hp,hd⟩:=bO h1
  cases e with
  | tup es =>
   obtain⟨q,us,z,hq,he⟩:=bO h2
   cases z
   rw [hp] at hq
   cases hq
   rw [cj.det hd he]
  | non=>exact absurd (show V.ref p=.non from h2) (fun z=>nomatch z)
  | bl c=>exact absurd (show V.ref p=.bl c from h2) (fun z=>nomatch z)
  | int c=>exact absurd (show V.ref p=.int c from h2) (fun z=>nomatch z)
  | str c=>exact absurd (show V.ref p=.str c from h2) (fun z=>nomatch z)
theorem cj.det{H:Hp}:∀ {ds es:List D}{vs:List V},cj H vs ds->cj H vs es->ds=es
 | [],[],_,_,_=>rfl
 | [],_ :: _,[],_,h=>h.elim
 | [],_ :: _,_ :: _,h,_=>h.elim
 | _ :: _,[],[],h,_=>h.elim
 | _ :: _,[],_ :: _,_,h=>h.elim
 | _ :: _,_ :: _,[],h,_=>h.elim
 | d :: ds,e :: es,v :: vs,h1,h2=>by rw [Den.det h1.1 h2.1,cj.det h1.2 h2.2]
end
open SeqAt (mH)
theorem vd(e f:Nat->Bool)(fin:Bool):∀ r:List Nat,mH e f fin (r.map Nat.succ)=mH (fun i=>e (i+1)) (fun i=>f (i+1)) fin r
 | []=>rfl
 | i :: r=>by
  show (if e (i+1)=true then mH e f fin (r.map Nat.succ) else f (i+1))=_
  rw [vd e f fin r]
  rfl
theorem pA:∀ xs ys:List D,mH (fun j=>eqD (xs.getD j .non) (ys.getD j .non)) (fun j=>dlt (xs.getD j .non) (ys.getD j .non)) (decide (xs.length < ys.length)) (List.range (min xs.length ys.length))=sY xs ys
 | [],[]=>rfl
 | [],y :: ys=>by rw [G8];simp [mH]
 | x :: xs,[]=>by rw [FT];simp [mH]
 | x :: xs,y :: ys=>by
  have ih:=pA xs ys
  rw [nM,show min (x :: xs).length (y :: ys).length=min xs.length ys.length+1 by simp only [List.length_cons];omega,List.range_succ_eq_map]
  show (if eqD x y=true then mH _ _ _ ((List.range (min xs.length ys.length)).map Nat.succ) else dlt x y)=_
  rw [vd]
  have ed:decide ((x :: xs).length < (y :: ys).length)=decide (xs.length < ys.length):=by simp
  rw [ed]
  cases he:eqD x y with
  | true =>
   rw [if_pos rfl,if_pos rfl]
   simpa using ih
  | false =>
   rw [if_neg (by simp),if_neg (by simp)]
theorem allR_eq:∀ xs ys:List D,((List.range (min xs.length ys.length)).all (fun j=>eqD (xs.getD j .non) (ys.getD j .non)) && xs.length == ys.length)=eqD (.tup xs) (.tup ys):=by
 intro xs ys
 rw [Bool.eq_iff_iff,iZ]
 constructor
 ·intro h
  simp only [Bool.and_eq_true,List.all_eq_true,List.mem_range,beq_iff_eq] at h
  obtain⟨h1,h2⟩:=h
  congr 1
  apply List.ext_getElem h2
  intro i a b
  have:=iZ.mp (h1 i (by omega))
  simpa [List.getD_eq_getElem?_getD,a,b] using this
 ·intro h
  injection h with h
  subst h
  simp [iZ]
section
variable {X:Cx}{pins:List (Addr × Obj)}{σ:St}{H:Hp}{s:Shared}
theorem lK{h h':Heap}{a:Addr}{its:Array Value}(k:SO.Keeps h h')(t:h.IsTuple a its):h'.IsTuple a its:=by
 obtain⟨o,e,r⟩:=t
 exact⟨o,k _ _ e,r⟩
theorem yH{s':Shared}{i j:Int}{A:Around}{x y:V}{v u:Value}(hx:Den H x (.int i))(hy:Den H y (.int j))(rx:RelV x v)(ry:RelV y u):SeqAt.EqAt A s' v u (eqD (.int i) (.int j)):=by
 have e1:x=.int i:=hx
 have e2:y=.int j:=hy
 subst e1
 subst e2
 obtain⟨t,rfl⟩:=rx
 obtain⟨t',rfl⟩:=ry
 have key:=SeqAt.EqAt.int_int (A:=A) (s:=s') i t j t'
 have e:(i == j)=eqD (.int i) (.int j):=by
  rw [Bool.eq_iff_iff,iZ,beq_iff_eq]
  exact⟨fun z=>by rw [z],fun z=>by injection z⟩
 rw [← e]
 exact key
theorem zL{s':Shared}{i j:Str}{A:Around}{x y:V}{v u:Value}(hx:Den H x (.str i))(hy:Den H y (.str j))(rx:RelV x v)(ry:RelV y u):SeqAt.EqAt A s' v u (eqD (.str i) (.str j)):=by
 have e1:x=.str i:=hx
 have e2:y=.str j:=hy
 subst e1
 subst e2
 obtain⟨t,rfl⟩:=rx
 obtain⟨t',rfl⟩:=ry
 have key:=SeqAt.EqAt.str_str (A:=A) (s:=s') i t j t'
 have e:(i == j)=eqD (.str i) (.str j):=by
  rw [Bool.eq_iff_iff,iZ,beq_iff_eq]
  exact⟨fun z=>by rw [z],fun z=>by injection z⟩
 rw [← e]
 exact key
theorem Bu{s':Shared}{i j:Int}{A:Around}{x y:V}{v u:Value}(hx:Den H x (.int i))(hy:Den H y (.int j))(rx:RelV x v)(ry:RelV y u):SeqAt.wL A s' v u (dlt (.int i) (.int j)):=by
 have e1:x=.int i:=hx
 have e2:y=.int j:=hy
 subst e1
 subst e2
 obtain⟨t,rfl⟩:=rx
 obtain⟨t',rfl⟩:=ry
 intro prog w E Q h
 rw [tD] at h
 exact PyProof.Rows.lt_int h
theorem Bc{s':Shared}{i j:Str}{A:Around}{x y:V}{v u:Value}(hx:Den H x (.str i))(hy:Den H y (.str j))(rx:RelV x v)(ry:RelV y u):SeqAt.wL A s' v u (dlt (.str i) (.str j)):=by
 have e1:x=.str i:=hx
 have e2:y=.str j:=hy
 subst e1
 subst e2
 obtain⟨t,rfl⟩:=rx
 obtain⟨t',rfl⟩:=ry
 intro prog w E Q h
 rw [Bb] at h
 exact PyProof.Rows.lt_str h
noncomputable def Nv(H:Hp)(s':Shared)(n:Nat):Prop :=
 ∀(d e:D)(A:Around)(x y:V)(v u:Value),jf n d->jf n e->Sim d e->Den H x d->Den H y e->RelV x v->RelV y u->A.units+n < cLine->SeqAt.EqAt A s' v u (eqD d e)/\SeqAt.wL A s' v u (dlt d e)
theorem Dq(I:Inv X pins σ H s){s':Shared}(kp:SO.Keeps s.heap s'.heap){n:Nat}(ih:Nv H s' n){ds es:List D}{A:Around}{x y:V}{v u:Value}(hs:jf (n+1) (.tup ds))(hs2:jf (n+1) (.tup es))
  (hm:Sim (.tup ds) (.tup es))(hx:Den H x (.tup ds))(hy:Den H y (.tup es))(rx:RelV x v)(ry:RelV y u)(hu:A.units+(n+1) < cLine):SeqAt.EqAt A s' v u (eqD (.tup ds) (.tup es))/\SeqAt.wL A s' v u (dlt (.tup ds) (.tup es)):=by
 obtain⟨a,vs,rfl,ha,hda⟩:=bO hx
 obtain⟨b,us,rfl,hb,hdb⟩:=bO hy
 cases rx
 cases ry
 obtain⟨its,r1,p1,_⟩:=I.tuple (SqT.of (K:=X.K) ha)
 obtain⟨its2,r2,p2,_⟩:=I.tuple (SqT.of (K:=X.K) hb)
 have l1:=hda.len
 have l2:=hdb.len
 have m1:=r1.length
 have m2:=r2.length
 replace hm:=rB hm
 have both:∀ j (h1:j < its.toArray.size) (h2:j < its2.toArray.size),SeqAt.EqAt A.in1 s' its.toArray[j] its2.toArray[j] (eqD (ds.getD j .non) (es.getD j .non))/\SeqAt.wL A.in1 s' its.toArray[j] its2.toArray[j] (dlt (ds.getD j .non) (es.getD j .non)):=by
  intro j h1 h2
  have hj1:j < vs.length:=by simpa [m1] using h1
  have hj2:j < us.length:=by simpa [m2] using h2
  obtain⟨d1,g1,b1⟩:=hda.at_ (List.getElem?_eq_getElem hj1)
  obtain⟨d2,g2,b2⟩:=hdb.at_ (List.getElem?_eq_getElem hj2)
  obtain⟨w1,hw1,rw1⟩:=r1.get (List.getElem?_eq_getElem hj1)
  obtain⟨w2,hw2,rw2⟩:=r2.get (List.getElem?_eq_getElem hj2)
  have q1:its.toArray[j]=w1:=by
   have:=(List.getElem?_eq_some_iff.mp hw1).2
   simpa using this
  have q2:its2.toArray[j]=w2:=by
   have:=(List.getElem?_eq_some_iff.mp hw2).2
   simpa using this
  rw [q1,q2]
  rw [List.getD_eq_getElem?_getD,List.getD_eq_getElem?_getD,g1,g2]
  have s1:=(hs.2 ds rfl).2 d1 (List.mem_of_getElem? g1)
  have s2:=(hs2.2 es rfl).2 d2 (List.mem_of_getElem? g2)
  exact ih d1 d2 A.in1 _ _ _ _ s1 s2 (hm.at_ g1 g2) b1 b2 rw1 rw2 (by first | (simp only [Around.in1];omega) | omega)
 constructor
 ·by_cases hab:a=b
  ·subst hab
   have e:=Den.det hx hy
   rw [iZ.mpr e]
   exact SeqAt.EqAt.same _
  ·have key:=SeqAt.EqAt.of_refs hab (SeqAt.RcAt.tuples (A:=A) (s:=s') (e:=fun j=>eqD (ds.getD j .non) (es.getD j .non)) (lK kp p1) (lK kp p2) (by omega) fun j h1 h2=>(both j h1 h2).1)
   have q:=allR_eq ds es
   rw [show ds.length=its.toArray.size by simp;omega,show es.length=its2.toArray.size by simp;omega] at q
   rw [q] at key
   exact key
 ·have key:=SeqAt.wL.tuples (A:=A) (s:=s') (e:=fun j=>eqD (ds.getD j .non) (es.getD j .non)) (f:=fun j=>dlt (ds.getD j .non) (es.getD j .non)) (lK kp p1) (lK kp p2) (by omega)
   (fun j h1 h2=>(both j h1 h2).1) (fun j h1 h2 _=>(both j h1 h2).2)
  have q:=pA ds es
  rw [show ds.length=its.toArray.size by simp;omega,show es.length=its2.toArray.size by simp;omega] at q
  rw [q] at key
  rw [Fi]
  exact key
theorem iC{P:D->D->Prop}(hi:∀ i j,P (.int i) (.int j))(hs:∀ i j,P (.str i) (.str j))(ht:∀ xs ys,pG xs ys->P (.tup xs) (.tup ys)):∀ {d e:D},Sim d e->P d e:=by
 intro d e h
 cases d <;> cases e <;> first | exact hi _ _ | exact hs _ _ | exact ht _ _ (rB h) | exact False.elim h
theorem Jj(I:Inv X pins σ H s){s':Shared}(kp:SO.Keeps s.heap s'.heap):∀ n:Nat,Nv H s' n:=by
 intro n
 induction n with
 | zero =>
  intro d e A x y v u hs hs2 hm
  revert hs hs2
  refine iC (P:=fun d e=>jf 0 d->jf 0 e->Den H x d->Den H y e->RelV x v->RelV y u->A.units+0 < cLine->SeqAt.EqAt A s' v u (eqD d e)/\SeqAt.wL A s' v u (dlt d e)) ?_ ?_ ?_ hm
  ·exact fun i j _ _ hx hy rx ry _=>⟨yH hx hy rx ry,Bu hx hy rx ry⟩
  ·exact fun i j _ _ hx hy rx ry _=>⟨zL hx hy rx ry,Bc hx hy rx ry⟩
  ·exact fun xs ys _ hs _ _ _ _ _ _=>absurd rfl (hs.2 xs)
 | succ n ih =>
  intro d e A x y v u hs hs2 hm
  revert hs hs2
  refine iC (P:=fun d e=>jf (n+1) d->jf (n+1) e->Den H x d->Den H y e->RelV x v->RelV y u->A.units+(n+1) < cLine->SeqAt.EqAt A s' v u (eqD d e)/\SeqAt.wL A s' v u (dlt d e)) ?_ ?_ ?_ hm
  ·exact fun i j _ _ hx hy rx ry _=>⟨yH hx hy rx ry,Bu hx hy rx ry⟩
  ·exact fun i j _ _ hx hy rx ry _=>⟨zL hx hy rx ry,Bc hx hy rx ry⟩
  ·exact fun xs ys hm hs hs2 hx hy rx ry hu=>Dq I kp ih hs hs2 (xu hm) hx hy rx ry hu
end
end L2
set_option maxHeartbeats 400000
namespace SO
open PySem PySem.W PyProof.Rows
section
variable {prog:Program}{w:World}{A:Around}{E:Value->Shared->Prop}{s:Shared}
theorem sS{l:Addr}{c:String}{vs:List Value}{o:Obj}{n:Nat}{Q:List Value->Shared->Prop}(ho:s.heap.get? l=some o)(hc:o.cls=.type c)(hcc:c = "list"\/c = "tuple")(hd:o.data=.seq vs.toArray n)
  (h:Q vs { s with heap:=(s.heap.push (seqObj "list" #[] 0)).update s.heap.objs.size (Obj.mapSeq (· ++ vs.toArray)) })(hsz:vs.length<=sizeLine) :
  wpAny (model prog w) A (collect (.ref l)) Q E s:=by
 unfold collect
 refine wpAny_bind (wpAny_runValue (codeAny_builtin entry_proto_collect' ?_))
 show wpAny _ _ (do again (.builtin "list.__iadd__" ⟨[← newList [],.ref l],[]⟩)) _ _ s
 refine wpAny_bind (wpAny_newList (wpAny_pure ⟨Code.quiet_builtin _ (by decide +kernel),codeAny_builtin entry_list_iadd' ?_⟩))
 show wpAny _ _ (Builtin.List.listExtendWith (.ref s.heap.objs.size) (.ref l) (.ref s.heap.objs.size)) _ _ { s with heap:=s.heap.push (seqObj "list" #[] 0) }
 unfold Builtin.List.listExtendWith
 have ho':(s.heap.push (seqObj "list" #[] 0)).get? l=some o:=Heap.get?_push_of_some _ ho
 refine wpAny_bind (wpAny_typeOf (T:=c) ⟨o,ho',hc⟩ ?_)
 rw [if_pos (by rcases hcc with rfl | rfl <;> simp)]
 refine wpAny_bind (listItems_at ho' hd ?_)
 refine wpAny_bind (listItems_at (xs:=#[]) (n:=0) (Heap.get?_push_size _ rfl) rfl ?_)
 rw [if_neg (by simp)]
 refine wpAny_bind (listUpdate_at (xs:=#[]) (n:=0) (Heap.get?_push_size _ rfl) rfl ?_ (Nat.zero_le _) (by show (#[]++vs.toArray).size<=sizeLine+1;simp only [Array.size_append,List.size_toArray,List.length_nil];omega))
 refine wpAny_pure ?_
 show wpAny (model prog w) A (do
   let o ← load s.heap.objs.size
   match o.data with
   | .seq xs _=>pure xs.toList
   | _=>unsupported "internal:collect") Q E { s with heap:=(s.heap.push (seqObj "list" #[] 0)).update s.heap.objs.size (Obj.mapSeq (· ++ vs.toArray)) }
 refine wpAny_bind (wpAny_load (get?_update_seq (Heap.get?_push_size _ rfl) _) ?_)
 show wpAny _ _ (pure ((#[]:Array Value)++vs.toArray).toList) Q E _
 rw [show ((#[]:Array Value)++vs.toArray).toList=vs by simp]
 exact wpAny_pure h
theorem Fz{b fin:Bool}{Q:Bool->Shared->Prop}{e f:Nat->Bool}:∀(l:List (Value × Value))(i:Nat),(∀ j p q,l[j]?=some (p,q)->SeqAt.EqAt A s p q (e (i+j))) ->
  (∀ j p q,l[j]?=some (p,q)->e (i+j)=false->∀(Q:Bool->Shared->Prop)(E:Value->Shared->Prop),Q (f (i+j)) s->wpAny (model prog w) A (oneLt' (b && (i+j) == 0) p q) Q E s) ->
  Q (SeqAt.mH e f fin (List.range' i l.length)) s->KatLex prog w A b fin Q l i s
 | [],i,_,_,h=>kat_nil h
 | (p,q) :: l,i,he,hf,h=>by
  refine kat_cons ((he 0 p q rfl) prog w _ _ ?_)
  rw [Nat.add_zero]
  have h':Q (if e i=true then SeqAt.mH e f fin (List.range' (i+1) l.length) else f i) s:=h
  cases hy:e i with
  | true =>
   rw [hy,if_pos rfl] at h'
   exact kat_yes (Fz l (i+1) (fun j p q z=>by rw [show i+1+j=i+(j+1) by omega];exact he (j+1) p q (by simpa using z)) (fun j p q z=>by rw [show i+1+j=i+(j+1) by omega];exact hf (j+1) p q (by simpa using z)) h')
  | false =>
   rw [hy,if_neg (by simp)] at h'
   exact kat_no (by have:=hf 0 p q rfl (by simpa using hy) Q (fun _ _=>False) (by simpa using h');simpa using this)
end
end SO
namespace L2
open PySem PySem.Spec PyProof.Rows
open SeqAt (mH)
noncomputable def Hom(ds:List D):Prop:=(∀ a∈ds,∀ b∈ds,Sim a b)/\((∀ d∈ds,∃ i,d=.int i)\/(∀ d∈ds,∃ x,d=.str x)\/(∀ d∈ds,∃ e r,d=.tup (e :: r)))
noncomputable def Kq(K:W.Frag):List V->Hp->VK->Prop:=fun xs H Q=>∃(p:Addr)(vs:List V)(ds:List D),xs=[.ref p]/\(SqL K H p vs\/SqT K H p vs)/\cj H vs ds/\Hom ds/\ds.length < 64/\(∀ d∈ds,jf 50 d) /\
 ∀(l:Addr)(us:List V)(ds':List D),H l=none->ds'.Perm ds->UpD ds'->cj H us ds'->Q (.ref l) (upd H l (.lst us))
theorem uH{H:Hp}{vs:List V}{ds:List D}(h:cj H vs ds):∀ l:List Nat,(∀ i∈l,i < ds.length)->cj H (l.map fun i=>vs.getD i .non) (l.map fun i=>ds.getD i .non)
 | [],_=>trivial
 | i :: l,hl=>by
  refine⟨?_,uH h l fun j hj=>hl j (.tail _ hj)⟩
  have hi:i < vs.length:=by rw [h.len];exact hl i (.head _)
  obtain⟨d,hd,r⟩:=h.at_ (List.getElem?_eq_getElem hi)
  dsimp only
  rw [List.getD_eq_getElem?_getD,List.getD_eq_getElem?_getD,hd,List.getElem?_eq_getElem hi]
  exact r
theorem uE{vs:List V}{its:List Value}(h:Vals vs its):∀ l:List Nat,(∀ i∈l,i < vs.length)->Vals (l.map fun i=>vs.getD i .non) (l.map fun i=>its.getD i Value.none)
 | [],_=>.nil
 | i :: l,hl=>by
  refine .cons ?_ (uE h l fun j hj=>hl j (.tail _ hj))
  have hi:i < vs.length:=hl i (.head _)
  obtain⟨d,hd,r⟩:=h.get (List.getElem?_eq_getElem hi)
  dsimp only
  rw [List.getD_eq_getElem?_getD,List.getD_eq_getElem?_getD,hd,List.getElem?_eq_getElem hi]
  exact r
section
variable {X:Cx}{pins:List (Addr × Obj)}{σ:St}{H:Hp}{s:Shared}
theorem at3{vs:List V}{ds:List D}{its:List Value}(hd:cj H vs ds)(r:Vals vs its){i:Nat}(hi:i < ds.length):∃(x:V)(v:Value),vs[i]?=some x/\its[i]?=some v/\its.getD i Value.none=v/\Den H x (ds.getD i .non)/\RelV x v/\ds.getD i .non∈ds:=by
 have hv:i < vs.length:=by rw [hd.len];exact hi
 obtain⟨d,g,b⟩:=hd.at_ (List.getElem?_eq_getElem hv)
 obtain⟨u,hu,ru⟩:=r.get (List.getElem?_eq_getElem hv)
 have e:ds.getD i .non=d:=by rw [List.getD_eq_getElem?_getD,g];rfl
 rw [e]
 exact⟨_,u,List.getElem?_eq_getElem hv,hu,by rw [List.getD_eq_getElem?_getD,hu];rfl,b,ru,List.mem_of_getElem? g⟩
theorem xX{s':Shared}{prog:Program}{w:World}{A:Around}{v u:Value}{b:Bool}(h:SeqAt.wL A s' v u b)(Q:Bool->Shared->Prop)(E:Value->Shared->Prop)(q:Q b s'):wpAny (model prog w) A (oneLt' false v u) Q E s' :=
 W.kat_one v u (h prog w E _ q)
theorem uL{s':Shared}{prog:Program}{w:World}{A:Around}{x y:V}{d e:D}{v u:Value}(hm:Sim d e)(hd:Den H x d)(he:Den H y e)(rx:RelV x v)(ry:RelV y u)(nt:∀ ds,d≠.tup ds)(Q:Bool->Shared->Prop)(E:Value->Shared->Prop)(q:Q (dlt d e) s') :
  wpAny (model prog w) A (oneLt' true v u) Q E s':=by
 revert hd he nt q
 refine iC (P:=fun d e=>Den H x d->Den H y e->(∀ ds,d≠.tup ds)->Q (dlt d e) s'->wpAny (model prog w) A (oneLt' true v u) Q E s') ?_ ?_ ?_ hm
 ·intro i j hx hy _ q
  have e1:x=.int i:=hx
  have e2:y=.int j:=hy
  subst e1
  subst e2
  obtain⟨t,rfl⟩:=rx
  obtain⟨t',rfl⟩:=ry
  rw [tD] at q
  exact oneLt_int q
 ·intro i j hx hy _ q
  have e1:x=.str i:=hx
  have e2:y=.str j:=hy
  subst e1
  subst e2
  obtain⟨t,rfl⟩:=rx
  obtain⟨t',rfl⟩:=ry
  rw [Bb] at q
  exact oneLt_str q
 ·intro xs ys _ _ _ nt _
  exact absurd rfl (nt xs)
theorem BX{M:Model}{x:V}{v:Value}{d:D}(I:Inv X pins σ H s){h':Heap}(kp:SO.Keeps s.heap h')(hd:Den H x d)(rx:RelV x v):(∀ i,d=.int i->W.Looks M h' (typeOf v) (.type "int"))/\(∀ i,d=.str i->W.Looks M h' (typeOf v) (.type "str")) /\
  (∀ ds,d=.tup ds->W.Looks M h' (typeOf v) (.type "tuple")):=by
 refine⟨fun i e=>?_,fun i e=>?_,fun ds e=>?_⟩
 ·subst e
  have e1:x=.int i:=hd
  subst e1
  obtain⟨t,rfl⟩:=rx
  exact W.Looks.of_pure rfl
 ·subst e
  have e1:x=.str i:=hd
  subst e1
  obtain⟨t,rfl⟩:=rx
  exact W.Looks.of_pure rfl
 ·subst e
  obtain⟨a,vs,rfl,ha,hda⟩:=bO hd
  cases rx
  obtain⟨its,r1,⟨o,eo,ec,_⟩,_⟩:=I.tuple (SqT.of (K:=X.K) ha)
  rw [← ec]
  exact (W.Looks.ld (kp _ _ eo)).andThen .now
noncomputable def tyD:D->Value
 | .int _=>.type "int"
 | .str _=>.type "str"
 | _=>.type "tuple"
theorem HY{d e:D}(h:Sim d e):tyD d=tyD e:=iC (P:=fun d e=>tyD d=tyD e) (fun _ _=>rfl) (fun _ _=>rfl) (fun _ _ _=>rfl) h
theorem CN(d:D):(tyD d == tyD d)=true:=by cases d <;> rfl
theorem Hy{d e:D}(hm:Sim d e)(h:(tyD d != .type "tuple")=true):∀ ds,d≠.tup ds:=by
 intro ds z
 subst z
 exact absurd (show (Value.type "tuple" != Value.type "tuple")=true from h) (by decide)
theorem vJ{M:Model}{x:V}{v:Value}{d e:D}(I:Inv X pins σ H s){h':Heap}(kp:SO.Keeps s.heap h')(hm:Sim d e)(hd:Den H x d)(rx:RelV x v):W.Looks M h' (typeOf v) (tyD d):=by
 obtain⟨a,b,c⟩:=BX (M:=M) I kp hd rx
 revert a b c
 exact iC (P:=fun d e=>(∀ i,d=.int i->W.Looks M h' (typeOf v) (.type "int"))->(∀ i,d=.str i->W.Looks M h' (typeOf v) (.type "str"))->(∀ ds,d=.tup ds->W.Looks M h' (typeOf v) (.type "tuple"))->W.Looks M h' (typeOf v) (tyD d))
  (fun i _ a _ _=>a i rfl) (fun i _ _ b _=>b i rfl) (fun xs _ _ _ _ c=>c xs rfl) hm
theorem kat_tups(I:Inv X pins σ H s){h':Heap}(kp:SO.Keeps s.heap h'):∀ {vs:List V}{ds:List D}{its:List Value},cj H vs ds->Vals vs its->(∀ d∈ds,∃ e r,d=.tup (e :: r)) ->
  ∃ fs,W.KatTups h' its fs/\fs.length=its.length/\∀ v∈fs,∃(x:V)(d:D)(r:List D),Den H x d/\RelV x v/\D.tup (d :: r)∈ds
 | [],[],_,_,.nil,_=>⟨[],trivial,rfl,fun v hv=>by cases hv⟩
 | x :: vs,d :: ds,_,hd,.cons r rr,ht=>by
  obtain⟨fs,k,l,m⟩:=kat_tups I kp hd.2 rr fun d hd=>ht d (.tail _ hd)
  obtain⟨e,r0,rfl⟩:=ht d (.head _)
  obtain⟨a,ws,rfl,ha,hda⟩:=bO hd.1
  cases r
  obtain⟨its1,r1,⟨o,eo,ec,n,ed⟩,_⟩:=I.tuple (SqT.of (K:=X.K) ha)
  match ws,its1,hda,r1,ed with
  | w0 :: ws,_ :: its1,hda,.cons q0 q,ed =>
   refine⟨_ :: fs,W.KatTups.cons (kp _ _ eo) ec ed (by simp;rfl) k,by simp [l],fun v hv=>?_⟩
   rcases List.mem_cons.mp hv with rfl | hv
   ·exact⟨w0,e,r0,hda.1,q0,.head _⟩
   ·obtain⟨x,d,r,z1,z2,z3⟩:=m v hv
    exact⟨x,d,r,z1,z2,.tail _ z3⟩
  | [],_,hda,_,_=>exact hda.elim
theorem nq{E:Value->Shared->Prop}(I:Inv X pins σ H s){a:Addr}{c:String}{o:Obj}{n:Nat}{vs:List V}{ds:List D}{its:List Value}{Q:VK}(κ:SortKind)(ho:s.heap.get? a=some o)(hc:o.cls=.type c)(hcc:c = "list"\/c = "tuple")(hd:o.data=.seq its.toArray n)
  (hD:cj H vs ds)(r:Vals vs its)(h64:ds.length < 64)
  (hk:2<=its.length->∀ h',SO.Keeps s.heap h'->∀(E:Value->Shared->Prop)(Q:SortKind->Shared->Prop),Q κ { s with heap:=h' }->wpAny (model X.prog X.w) X.A.in1.in1 (keyKind' its.toArray) Q E { s with heap:=h' })
  (hcm:∀ h',SO.Keeps s.heap h'->SO.Cmp (O:=Mp) (fun i=>ds.getD i .non) its.length (W.kas_ask X.prog X.w X.A.in1.in1 κ its) { s with heap:=h' })
  (q:∀(l:Addr)(us:List V)(ds':List D),H l=none->ds'.Perm ds->UpD ds'->cj H us ds'->Q (.ref l) (upd H l (.lst us))):wpAny (model X.prog X.w) X.A (call (.builtin "sorted") [.ref a]) (EP X pins σ Q) E s:=by
 have l1:=hD.len
 have l2:=r.length
 have kg:SO.Keeps s.heap ((s.heap.push (seqObj "list" #[] 0)).update s.heap.objs.size (Obj.mapSeq (· ++ its.toArray))):=fun b u e=>by
  rw [Heap.get?_update_ne _ _ _ _ (Nat.ne_of_lt (Heap.lt_size e))]
  exact Heap.get?_push_of_some _ e
 refine SO.z7 (O:=Mp) (vs:=its) (fun i=>ds.getD i .non) κ (by omega) kg (fun Q q=>SO.sS ho hc hcc hd q (by rw [sizeLine_eq];omega)) hk hcm fun g' p kp hp hs hob=>?_
 obtain⟨m,hob⟩:=hob
 have hlt:∀ i∈p.toList,i < its.length:=fun i hi=>List.mem_range.mp (hp.mem_iff.mp hi)
 have hsz:s.heap.objs.size<=((s.heap.push (seqObj "list" #[] 0)).update s.heap.objs.size (Obj.mapSeq (· ++ its.toArray))).objs.size:=by
  rw [Heap.size_update,size_push']
  exact Nat.le_succ _
 have hps:p.toList.length=its.length:=by simpa using hp.length_eq
 have hU:=uE r p.toList fun i hi=>by rw [l2];exact hlt i hi
 refine⟨.ref _,_,I.laid (t':=s.toks) (o:=.lst (p.toList.map fun i=>vs.getD i .non)) kp hsz ⟨?_,_,m,hU,hob⟩,rfl,q _ _ (p.toList.map fun i=>ds.getD i .non) (I.hok.fresh hsz) ?_ ?_ (uH hD _ fun i hi=>by have:=hlt i hi;omega)⟩
 ·rw [List.length_map,sizeLine_eq]
  omega
 ·have e:(List.range its.length).map (fun i=>ds.getD i .non)=ds:=by
   apply List.ext_getElem
   ·simp;omega
   ·intro i h1 h2
    simp [List.getD_eq_getElem?_getD,h2]
  have:=hp.map fun i=>ds.getD i D.non
  rw [e] at this
  exact this
 ·unfold UpD
  rw [List.pairwise_iff_getElem]
  intro i j hi hj hij
  have h:=hs i j (Nat.le_of_lt hij) (by simpa [hps] using hj)
  have e:∀ k (hk:k < p.toList.length),SO.KN (O:=Mp) (fun i=>ds.getD i .non) p k=(p.toList.map fun i=>ds.getD i D.non)[k]'(by rw [List.length_map];exact hk):=by
   intro k hk
   have hk':k < p.size:=by simpa using hk
   unfold SO.KN
   rw [List.getElem_map]
   congr 1
   simp [Array.getD,hk']
  rw [e i (by simpa using hi),e j (by simpa using hj)] at h
  exact h
theorem qM(hu:X.A.units+64 < cLine):gA X (.builtin "sorted") (Kq X.K):=by
 intro pins s σ H xs us Q I r h
 obtain⟨a,vs,ds,rfl,hp,hD,hom,h64,hsh,q⟩:=h
 obtain⟨u,rfl,rx⟩:=vals1 r
 cases rx
 obtain⟨its,rv,c,o,n,hcc,ho,hc,hd⟩:∃ its:List Value,Vals vs its/\∃(c:String)(o:Obj)(n:Nat),(c = "list"\/c = "tuple")/\s.heap.get? a=some o/\o.cls=.type c/\o.data=.seq its.toArray n:=by
  rcases hp with hp | hp
  ·obtain⟨its,rv,pl,_⟩:=I.list hp
   obtain⟨o,ho,hc,n,hd⟩:=pl.isList
   exact⟨its,rv,"list",o,n,.inl rfl,ho,hc,hd⟩
  ·obtain⟨its,rv,⟨o,ho,hc,n,hd⟩,_⟩:=I.tuple hp
   exact⟨its,rv,"tuple",o,n,.inr rfl,ho,hc,hd⟩
 have l1:=hD.len
 have l2:=rv.length
 have one:(∀ d∈ds,∀ xs,d≠.tup xs)->∀ T,(T != Value.type "tuple")=true->(T == T)=true->(∀ d∈ds,tyD d=T)->wpAny (model X.prog X.w) X.A (call (.builtin "sorted") [.ref a]) (EP X pins σ Q) X.xe s:=by
  intro nt T hT1 hT2 hT
  refine nq I oneType' ho hc hcc hd hD rv h64 (fun h2 h' kp E Q q=>?_) (fun h' kp i j C hi hj q=>?_) q
  ·refine W.kas_kind h2 (T:=T) (fun v hv=>?_) hT1 hT2 q
   obtain⟨i,hi,rfl⟩:=List.mem_iff_getElem.mp hv
   obtain⟨x,v,e1,e2,e3,e4,e5,e6⟩:=at3 (i:=i) hD rv (by omega)
   rw [List.getElem?_eq_getElem hi] at e2
   cases e2
   rw [← hT _ e6]
   exact vJ I kp (hom.1 _ e6 _ e6) e4 e5
  ·obtain⟨x,v,e1,e2,e3,e4,e5,e6⟩:=at3 (i:=i) hD rv (by omega)
   obtain⟨y,u,f1,f2,f3,f4,f5,f6⟩:=at3 (i:=j) hD rv (by omega)
   unfold W.kas_ask
   rw [e3,f3,keyLt'_oneType]
   exact uL (hom.1 _ e6 _ f6) e4 f4 e5 f5 (nt _ e6) _ _ q
 rcases hom.2 with hi | hi | hi
 ·exact one (fun d hd xs e=>by obtain⟨i,z⟩:=hi d hd;rw [z] at e;cases e) (.type "int") (by decide) (by rfl) (fun d hd=>by obtain⟨i,z⟩:=hi d hd;rw [z];rfl)
 ·exact one (fun d hd xs e=>by obtain⟨i,z⟩:=hi d hd;rw [z] at e;cases e) (.type "str") (by decide) (by rfl) (fun d hd=>by obtain⟨i,z⟩:=hi d hd;rw [z];rfl)
 ·obtain⟨T,hT2,hT⟩:∃ T:Value,(T == T)=true/\∀ d r,D.tup (d :: r)∈ds->tyD d=T/\Sim d d:=by
   cases hds:ds with
   | nil=>exact⟨.type "int",by rfl,fun d r z=>by cases z⟩
   | cons d0 ds0 =>
    obtain⟨e0,r0,rfl⟩:=hi d0 (by rw [hds];exact .head _)
    refine⟨tyD e0,CN e0,fun d r z=>?_⟩
    have s1:=hom.1 _ (show D.tup (d :: r)∈ds by rw [hds];exact z) (.tup (e0 :: r0)) (by rw [hds];exact .head _)
    have s2:=hom.1 _ (show D.tup (d :: r)∈ds by rw [hds];exact z) (.tup (d :: r)) (by rw [hds];exact z)
    replace s1:=oN (rB s1)
    replace s2:=oN (rB s2)
    exact⟨HY s1.1,s2.1⟩
  refine nq I (tuples' (T != Value.type "tuple")) ho hc hcc hd hD rv h64 (fun h2 h' kp E Q q=>?_) (fun h' kp i j C hi' hj q=>?_) q
  ·obtain⟨fs,k,l,m⟩:=kat_tups I kp hD rv hi
   refine W.kat_kind k (by omega) (T:=T) (fun v hv=>?_) hT2 q
   obtain⟨x,d,r,z1,z2,z3⟩:=m v hv
   obtain⟨t1,t2⟩:=hT d r z3
   rw [← t1]
   exact vJ I kp t2 z1 z2
  ·obtain⟨x,v,e1,e2,e3,e4,e5,e6⟩:=at3 (i:=i) hD rv (by omega)
   obtain⟨y,u,f1,f2,f3,f4,f5,f6⟩:=at3 (i:=j) hD rv (by omega)
   unfold W.kas_ask
   rw [e3,f3]
   have hq:C (dlt (ds.getD i .non) (ds.getD j .non)) { s with heap:=h' }:=q
   obtain⟨d1,r1,E1⟩:=hi _ e6
   obtain⟨d2,r2,E2⟩:=hi _ f6
   have sh1:=hsh _ e6
   have sh2:=hsh _ f6
   have sm:=hom.1 _ e6 _ f6
   rw [E1] at e4 e6 hq sh1 sm
   rw [E2] at f4 f6 hq sh2 sm
   obtain⟨a1,w1,rfl,ha1,hda1⟩:=bO e4
   obtain⟨a2,w2,rfl,ha2,hda2⟩:=bO f4
   cases e5
   cases f5
   obtain⟨its1,v1,⟨o1,eo1,ec1,n1,ed1⟩,_⟩:=I.tuple (SqT.of (K:=X.K) ha1)
   obtain⟨its2,v2,⟨o2,eo2,ec2,n2,ed2⟩,_⟩:=I.tuple (SqT.of (K:=X.K) ha2)
   have k1:=hda1.len
   have k2:=hda2.len
   have k3:=v1.length
   have k4:=v2.length
   replace sm:=rB sm
   have cm:=Jj I (s':={ s with heap:=h' }) kp 49
   have each:∀(k:Nat)(p q:Value),(its1.zip its2)[k]?=some (p,q)->∃(x y:V),Den H x ((d1 :: r1).getD k .non)/\Den H y ((d2 :: r2).getD k .non)/\RelV x p/\RelV y q/\Sim ((d1 :: r1).getD k .non) ((d2 :: r2).getD k .non)/\jf 49 ((d1 :: r1).getD k .non)/\jf 49 ((d2 :: r2).getD k .non):=by
    intro k p q hz
    rw [List.getElem?_zip_eq_some] at hz
    have b1:k < its1.length:=(List.getElem?_eq_some_iff.mp hz.1).1
    have b2:k < its2.length:=(List.getElem?_eq_some_iff.mp hz.2).1
    obtain⟨x1,p1,_,g1,_,g2,g3,g4⟩:=at3 (i:=k) hda1 v1 (by omega)
    obtain⟨x2,p2,_,g1',_,g2',g3',g4'⟩:=at3 (i:=k) hda2 v2 (by omega)
    rw [hz.1] at g1
    rw [hz.2] at g1'
    cases g1
    cases g1'
    refine⟨x1,x2,g2,g2',g3,g3',sm.at_ (i:=k) ?_ ?_,(sh1.2 _ rfl).2 _ g4,(sh2.2 _ rfl).2 _ g4'⟩
    ·rw [List.getD_eq_getElem?_getD,List.getElem?_eq_getElem (by omega)];rfl
    ·rw [List.getD_eq_getElem?_getD,List.getElem?_eq_getElem (by omega)];rfl
   refine W.kat_lt (kp _ _ eo1) ed1 (kp _ _ eo2) ed2 (SO.Fz (e:=fun k=>eqD ((d1 :: r1).getD k .non) ((d2 :: r2).getD k .non)) (f:=fun k=>dlt ((d1 :: r1).getD k .non) ((d2 :: r2).getD k .non)) _ 0 (fun k p q z=>?_) (fun k p q z _ Q E hq=>?_) ?_)
   ·obtain⟨x,y,h1,h2,h3,h4,h5,h6,h7⟩:=each k p q z
    rw [Nat.zero_add]
    exact (cm _ _ _ _ _ _ _ h6 h7 h5 h1 h2 h3 h4 (by simp only [Around.in1];omega)).1
   ·obtain⟨x,y,h1,h2,h3,h4,h5,h6,h7⟩:=each k p q z
    rw [Nat.zero_add] at hq ⊢
    have lt:=(cm _ _ X.A.in1.in1 _ _ _ _ h6 h7 h5 h1 h2 h3 h4 (by simp only [Around.in1];omega)).2
    cases hb:(T != Value.type "tuple") && k == 0 with
    | false=>exact xX lt Q E hq
    | true =>
     rw [Bool.and_eq_true,beq_iff_eq] at hb
     obtain⟨hb,rfl⟩:=hb
     have t1:=hT d1 r1 e6
     exact uL h5 h1 h2 h3 h4 (show ∀ ds,d1≠.tup ds from Hy t1.2 (by rw [t1.1];exact hb)) Q E hq
   ·have hl:=pA (d1 :: r1) (d2 :: r2)
    have e:List.range' 0 (its1.toArray.toList.zip its2.toArray.toList).length=List.range (min (d1 :: r1).length (d2 :: r2).length):=by
     rw [List.range_eq_range']
     congr 1
     simp only [List.length_zip]
     omega
    have ef:decide (its1.toArray.size < its2.toArray.size)=decide ((d1 :: r1).length < (d2 :: r2).length):=by
     rw [show its1.toArray.size=(d1 :: r1).length by simp at k1 k3 ⊢;omega,show its2.toArray.size=(d2 :: r2).length by simp at k2 k4 ⊢;omega]
    rw [e,ef,hl]
    rw [Fi] at hq
    exact hq
end
end L2
namespace PySem.SeqAt
open AutoSeq1 (wpAny_loadPart')
open MeetsSeq MeetsSeq2 MeetsSeq3 SeqRoads2
end PySem.SeqAt
namespace L2
open PySem PySem.Spec PyProof.Rows
end L2
namespace L2
open PySem
structure N8(xs:List (List Nat)):Prop where
 len:xs.length=70
 nd:xs.Nodup
 nm:∀ x∈xs,isNm ⟨x.toArray⟩=true
end L2
namespace L2
open PySem PySem.Spec PyProof.Rows
theorem Ka{sc:Scope}{ns:List (Str × NameKind)}(h:∀ y∈ns,y.2≠.free):∀ y∈ns,y.2=.free->sc.names.lookup y.1=some .cell\/sc.names.lookup y.1=some .free:=fun y hy hf=>absurd hf (h y hy)
noncomputable def KTup(K:W.Frag)(a:Addr)(xs:List V):Prop:=∃(o:Obj)(its:Array Value)(n:Nat),K.lookup a=some o/\o.cls=.type "tuple"/\o.data=.seq its n/\its.size<=sizeLine/\Vals xs its.toList
theorem KTup.sq{K:W.Frag}{a:Addr}{xs:List V}{H:Hp}(h:KTup K a xs):SqT K H a xs:=.inr h
theorem gY{K:W.Frag}{a:Addr}{dd:Option Addr}{its:Array Value}{n:Nat}{sl:Array (Option Value)}{xs:List V}(h:K.lookup a=some ⟨.type "tuple",dd,.seq its n,sl⟩)(hz:its.size<=sizeLine)(r:Vals xs its.toList):KTup K a xs:=⟨_,its,n,h,rfl,rfl,hz,r⟩
end L2
set_option maxHeartbeats 4000000
namespace L2
open PySem PySem.Spec PyProof.Rows
end L2
namespace MN
open PySem
noncomputable abbrev kwD(d:Value):List (Str × Value):=[(Str.ofString "default",d)]
section
variable {prog:Program}{w:World}{A:Around}{R:Result->Shared->Prop}{It:Addr}{fp wr:List Addr}{n:Nat}{Pr:Nat->Value->Prop}{Sx:Nat->Heap->Prop}
end
section
variable {prog:Program}{w:World}{A:Around}{E:Value->Shared->Prop}{s:Shared}
end
end MN
namespace L2
open PySem PySem.Spec PyProof.Rows
theorem wM{ns:List Int}{its:List Value}(r:Vals (ns.map V.int) its):∃ xs:Array (Int × Tok),its.toArray=intItems xs/\xs.toList.map (·.1)=ns:=by
 induction ns generalizing its with
 | nil =>
  cases r
  exact⟨#[],by simp [intItems],rfl⟩
 | cons n ns ih =>
  cases r with
  | cons r1 r2 =>
   obtain⟨t,rfl⟩:=r1
   obtain⟨xs,e1,e2⟩:=ih r2
   refine⟨((n,t) :: xs.toList).toArray,?_,?_⟩
   ·have e3:_=(intItems xs).toList:=congrArg Array.toList e1
    simp only [intItems,Array.toList_map] at e3
    simp [intItems,e3]
   ·simp [e2]
noncomputable def JT(K:W.Frag):R2:=fun x y H Q=>∃(l b:Addr)(xs:List V),x=.ref l/\y=.ref b/\SqT K H l xs/\SqT K H b []/\Q (.bl (!xs.isEmpty)) H
theorem G7{X:Cx}(hu:X.A.units < cLine):OpR X (compareOp .NotEq) (JT X.K):=by
 intro pins s σ H x y v u Q I rx ry h
 obtain⟨l,b,xs,rfl,rfl,hl,hb,q⟩:=h
 cases rx
 cases ry
 obtain⟨its,r1,p1,_⟩:=I.tuple hl
 obtain⟨its2,r2,p2,_⟩:=I.tuple hb
 cases r2
 have m1:=r1.length
 have key:=SeqAt.RcNeAt.tuples (A:=X.A) (s:=s) (e:=fun _=>true) p1 p2 hu fun j h1 h2=>absurd h2 (by simp)
 have e:(!((List.range (min its.toArray.size ([]:List Value).toArray.size)).all (fun _=>true) && its.toArray.size == ([]:List Value).toArray.size))=!xs.isEmpty:=by
  cases xs with
  | nil =>
   cases r1
   rfl
  | cons a xs =>
   cases its with
   | nil=>simp at m1
   | cons=>simp
 rw [e] at key
 exact key X.prog X.w _ _ ⟨.bl _,H,I,rfl,q⟩
theorem rJ{X:Cx}{scope:Scope}{N:List Str}{cl:List (Str × Addr)}{C:Addr}{s:Shared}{H:Hp}{ex:List Addr}{pn:List (Addr × Obj)}{E:Value->Shared->Prop}{ns:List (Str × NameKind)}(h:∀ y∈ns,y.2=.free->scope.names.lookup y.1=some .free) :
  ∀ y∈ns,y.2=.free->(cN X scope N cl C s H ex pn E).env.scope.names.lookup y.1=some .cell\/(cN X scope N cl C s H ex pn E).env.scope.names.lookup y.1=some .free:=fun y hy hf=>gK (h y hy hf)
noncomputable def Mr:R2:=fun x y H Q=>∃(ds es:List D)(n:Nat),Den H x (.tup ds)/\Den H y (.tup es)/\jf (n+1) (.tup ds)/\jf (n+1) (.tup es)/\n<=50/\pG ds es/\Q (.bl (eqD (.tup ds) (.tup es))) H
theorem Hs{X:Cx}(hu:X.A.units+64 < cLine):OpR X (compareOp .Eq) Mr:=by
 intro pins s σ H x y v u Q I rx ry h
 obtain⟨ds,es,n,hx,hy,hs1,hs2,hn,hm,q⟩:=h
 have ih:=Jj I (s':=s) (fun b o z=>z) n
 obtain⟨a,vs,rfl,ha,hda⟩:=bO hx
 obtain⟨b,us,rfl,hb,hdb⟩:=bO hy
 cases rx
 cases ry
 obtain⟨its,r1,p1,_⟩:=I.tuple (SqT.of (K:=X.K) ha)
 obtain⟨its2,r2,p2,_⟩:=I.tuple (SqT.of (K:=X.K) hb)
 have l1:=hda.len
 have l2:=hdb.len
 have m1:=r1.length
 have m2:=r2.length
 have e0:=allR_eq ds es
 rw [show ds.length=its.toArray.size by simp;omega,show es.length=its2.toArray.size by simp;omega] at e0
 refine SeqAt.eq_tupleAt (e:=fun j=>eqD (ds.getD j .non) (es.getD j .non)) p1 p2 (by omega) (fun j h1 h2=>?_) ?_
 ·have hj1:j < vs.length:=by simpa [m1] using h1
  have hj2:j < us.length:=by simpa [m2] using h2
  obtain⟨d1,g1,b1⟩:=hda.at_ (List.getElem?_eq_getElem hj1)
  obtain⟨d2,g2,b2⟩:=hdb.at_ (List.getElem?_eq_getElem hj2)
  obtain⟨w1,hw1,rw1⟩:=r1.get (List.getElem?_eq_getElem hj1)
  obtain⟨w2,hw2,rw2⟩:=r2.get (List.getElem?_eq_getElem hj2)
  have q1:its.toArray[j]=w1:=by
   have:=(List.getElem?_eq_some_iff.mp hw1).2
   simpa using this
  have q2:its2.toArray[j]=w2:=by
   have:=(List.getElem?_eq_some_iff.mp hw2).2
   simpa using this
  rw [q1,q2]
  rw [List.getD_eq_getElem?_getD,List.getD_eq_getElem?_getD,g1,g2]
  have s1:=(hs1.2 ds rfl).2 d1 (List.mem_of_getElem? g1)
  have s2:=(hs2.2 es rfl).2 d2 (List.mem_of_getElem? g2)
  exact (ih d1 d2 X.A.in1 _ _ _ _ s1 s2 (hm.at_ g1 g2) b1 b2 rw1 rw2 (by first | (simp only [Around.in1];omega) | omega)).1
 ·rw [e0]
  exact⟨.bl _,H,I,rfl,q⟩
theorem En{α β:Type}{f:α->Bool}{g:β->Bool}:∀ {xs:List α}{ys:List β},xs.length=ys.length->(∀(i:Nat) x y,xs[i]?=some x->ys[i]?=some y->f x=g y)->xs.any f=ys.any g
 | [],[],_,_=>rfl
 | x :: xs,y :: ys,hl,h=>by
  rw [List.any_cons,List.any_cons,h 0 x y rfl rfl,En (by simpa using hl) fun i a b h1 h2=>h (i+1) a b (by simpa using h1) (by simpa using h2)]
 | [],_ :: _,hl,_=>by simp at hl
 | _ :: _,[],hl,_=>by simp at hl
noncomputable def K0:W.Frag:=[]
theorem SqL.up{K:W.Frag}{H:Hp}{a:Addr}{xs:List V}(h:SqL K0 H a xs):SqL K H a xs:=by
 rcases h with h | ⟨o,its,n,hk,_⟩
 ·exact .inl h
 ·cases hk
theorem SqT.up{K:W.Frag}{H:Hp}{a:Addr}{xs:List V}(h:SqT K0 H a xs):SqT K H a xs:=by
 rcases h with h | ⟨o,its,n,hk,_⟩
 ·exact .inl h
 ·cases hk
theorem K6{K:W.Frag}{H:Hp}{a:Addr}{xs:List V}(h:SqL K0 H a xs\/SqT K0 H a xs):SqL K H a xs\/SqT K H a xs:=h.imp SqL.up SqT.up
theorem Je{K:W.Frag}{T:String}{x:V}{H:Hp}(h:tyV K0 T x H):tyV K T x H:=by
 cases x with
 | ref p =>
  rcases h with ⟨e,xs,h⟩ | ⟨_,o,hk,_⟩ | h
  ·exact .inl ⟨e,xs,h.up⟩
  ·cases hk
  ·exact .inr (.inr h)
 | _=>exact h
section
variable {X:Cx}
theorem aX:IxR X (Kg K0):=fun va sl pins s σ H x y v u Q I rx ry ⟨p,xs,i,z,e1,e2,hq,he,q⟩ hs=>G3 va sl pins s σ H x y v u Q I rx ry ⟨p,xs,i,z,e1,e2,hq.up,he,q⟩ hs
theorem bh:IxR X (Ms K0):=fun va sl pins s σ H x y v u Q I rx ry ⟨p,xs,i,z,e1,e2,hq,he,q⟩ hs=>uP va sl pins s σ H x y v u Q I rx ry ⟨p,xs,i,z,e1,e2,hq.up,he,q⟩ hs
theorem jW:OpR X (compareOp .In) (rIn K0 false):=fun pins s σ H x y v u Q I rx ry ⟨p,xs,e,hq,f1,f2,q⟩=>xM pins s σ H x y v u Q I rx ry ⟨p,xs,e,K6 hq,f1,f2,q⟩
theorem bH{pos:Pos}{es:List Expr}{k:Nat}{t:TGs}{n:Nat}(hc:X.calm=true)(h:PGs X es t)
  (hn:(assignEach es X.env).length=n:=by rfl)(hst:(assignEach es X.env).findIdx? (·.1)=none:=by rfl):PG X (.Tuple es k pos) (rT K0 n t) :=
 fun pins s σ H v u Q I r ⟨a,xs,e,hq,hl,q⟩=>Kw hc h hn hst pins s σ H v u Q I r ⟨a,xs,e,hq.up,hl,q⟩
noncomputable def mc(t:TE):TE:=fun σ H Q=>∃ Q0,t σ H Q0/\∀ v H',Q0 v H'->Q v H'
theorem PE.mc{e:Expr}{t:TE}(h:PE X e t):PE X e (mc t):=fun pins s σ H Q I ⟨Q0,h0,hm⟩ =>
 thn (h pins s σ H Q0 I h0) fun v s1 ⟨x,H1,I1,r1,q1⟩=>⟨x,H1,I1,r1,hm _ _ q1⟩
theorem Turn.up{P:Program}{w:World}{K:W.Frag}{tg:Expr}{it:Addr}{fp:List Addr}{tn:Nat->Heap->Prop}{J J0:It}(hg:∀ i H,J0.go i H->J.go i H)(hy:∀ i H x H',J.yld i H x H'->J0.yld i H x H')(hs:∀ i H,J0.stop i H->J.stop i H)(T:Turn P w K tg J fp it tn):Turn P w K tg J0 fp it tn :=
 { mem:=T.mem,obj:=T.obj,keep:=T.keep,self:=T.self,item:=fun X e1 e2 e3 e4 i pins s σ H E I hf ht z=>thn (T.item X e1 e2 e3 e4 i pins s σ H E I hf ht (hg _ _ z)) fun _ _ y=>y.imp fun _ y=>⟨y.1,thn y.2 fun _ _ y=>y.imp fun _ y=>y.imp fun _ y=>⟨y.1,y.2.1,hy _ _ _ _ y.2.2.1,y.2.2.2⟩⟩,done:=fun X e1 e2 e3 e4 i pins s σ H E I hf ht z=>T.done X e1 e2 e3 e4 i pins s σ H E I hf ht (hs _ _ z) }
theorem Turn.upL{P:Program}{w:World}{K:W.Frag}{tg:Expr}{a it:Addr}{fp:List Addr}{tn:Nat->Heap->Prop}(T:Turn P w K tg (Itl K a) fp it tn):Turn P w K tg (Itl K0 a) fp it tn :=
 Turn.up (J:=Itl K a) (fun _ _ z=>z.imp fun _ z=>z.imp fun _ z=>⟨z.1.up,z.2⟩) (fun _ _ _ _ z=>⟨z.1,fun xs h=>z.2 xs h.up⟩) (fun _ _ z=>z.imp fun _ z=>⟨z.1.up,z.2⟩) T
theorem Turn.upT{P:Program}{w:World}{K:W.Frag}{tg:Expr}{a it:Addr}{fp:List Addr}{tn:Nat->Heap->Prop}(T:Turn P w K tg (Itt K a) fp it tn):Turn P w K tg (Itt K0 a) fp it tn :=
 Turn.up (J:=Itt K a) (fun _ _ z=>z.imp fun _ z=>z.imp fun _ z=>⟨z.1.up,z.2⟩) (fun _ _ _ _ z=>⟨z.1,fun xs h=>z.2 xs h.up⟩) (fun _ _ z=>z.imp fun _ z=>⟨z.1.up,z.2⟩) T
theorem G6{tg l:Expr}{wi:TI}{pins:List (Addr × Obj)}{s:Shared}{σ:St}{H:Hp}{R:It->Hp->Prop}{F G:Addr->It}(hT:∀ a fp it tn,Turn X.prog X.w X.K tg (F a) fp it tn->Turn X.prog X.w X.K tg (G a) fp it tn)(h:PI X tg l wi)(I:Inv X pins σ H s)
  (hw:wi σ H fun J H1=>∃ a,J=F a/\R (G a) H1):wpAny (model X.prog X.w) X.A (eval l X.env) (fun v s1=>wpAny (model X.prog X.w) X.A (pyIter v) (PIE X pins σ tg R) X.xe s1) X.xe s :=
 thn (h pins s σ H _ I hw) fun v s1 z=>thn z fun itv s2 ⟨it,fp,tn,J,H',e,I',T,t0,hf,a,eJ,r⟩=>by
  subst eJ
  exact⟨it,fp,tn,_,H',e,I',hT _ _ _ _ T,t0,hf,r⟩
theorem bY{tg l:Expr}{tl:TE}(hl:PE X l tl):PI X tg l (Jg K0 tl):=fun pins s σ H R I h =>
 G6 (F:=Itl X.K) (G:=Itl K0) (fun _ _ _ _ T=>T.upL) (GQ hl.mc) I ⟨_,h,fun v H' ⟨a,e,⟨xs,hq⟩,r⟩=>⟨a,e,⟨xs,hq.up⟩,a,rfl,r⟩⟩
theorem bQ{tg l:Expr}{tl:TE}(hl:PE X l tl):PI X tg l (Nh K0 tl):=fun pins s σ H R I h =>
 G6 (F:=Itt X.K) (G:=Itt K0) (fun _ _ _ _ T=>T.upT) (Fp hl.mc) I ⟨_,h,fun v H' ⟨a,e,⟨xs,hq⟩,r⟩=>⟨a,e,⟨xs,hq.up⟩,a,rfl,r⟩⟩
noncomputable def mcA(t:TA):TA:=fun σ H Q=>∃ Q0,t σ H Q0/\∀ v H',Q0 v H'->Q v H'
theorem PA.mc{es:List Expr}{t:TA}(h:PA X es t):PA X es (mcA t):=fun pos pins s σ H Q I ⟨Q0,h0,hm⟩ =>
 thn (h pos pins s σ H Q0 I h0) fun v s1 ⟨x,H1,I1,r1,q1⟩=>⟨x,H1,I1,r1,hm _ _ q1⟩
theorem Ci(hu:X.A.units < cLine):OpR X (compareOp .NotEq) (JT K0):=fun pins s σ H x y v u Q I rx ry ⟨l,b,xs,e1,e2,h1,h2,q⟩=>G7 hu pins s σ H x y v u Q I rx ry ⟨l,b,xs,e1,e2,h1.up,h2.up,q⟩
theorem bJ:gA X (.type "tuple") (fun xs H Q=>∃ p ys,xs=[.ref p]/\((SqL K0 H p ys/\∀ l,H l=none->Q (.ref l) (upd H l (.tup ys)))\/(SqT K0 H p ys/\Q (.ref p) H))) :=
 fun pins s σ H xs us Q I rv ⟨p,ys,e,h⟩=>gC pins s σ H xs us Q I rv ⟨p,ys,e,h.imp (fun z=>⟨z.1.up,z.2⟩) fun z=>⟨z.1.up,z.2⟩⟩
theorem cZ{o e:Expr}{es:List Expr}{to:TE}{t:TA}{name:Str}{apos cpos:Pos}{T id:String}{r:V->List V->Hp->VK->Prop}(pa:PlainAttrs T)(slot:Slot T name id)(hty:typeOf (.builtin id)=pure (.type "method_descriptor"))(hm:MtR X id r)(ho:PE X o to)(ha:PA X (e :: es) t)
  (hbase:attributeBase o name X.env (eval o X.env)=eval o X.env:=by rfl)
  (hfew:((backTo cpos (starEach (e :: es) X.env)).all (fun x=>!x.1) && (backToKw cpos (keywordEach [] X.env)).all (fun x=>x.1.isSome)
   && decide ((e :: es).length+([]:List Keyword).length+(if ([]:List Keyword).isEmpty then 0 else 1) < 30))=true:=by rfl)
  (hline:(apos.endLine == cpos.line)=true:=by rfl)(hs:starEach (e :: es) X.env=(false,eval e X.env) :: starEach es X.env:=by rfl)(hplain:(backTo cpos (starEach es X.env)).any (·.1)=false:=by rfl) :
  PE X (.Call (.Attribute o name apos) (e :: es) [] cpos) (tBM K0 T r to t):=fun pins s σ H Q I h =>
 Gr pa slot hty hm ho.mc ha hbase hfew hline hs hplain pins s σ H Q I ⟨_,h,fun _ _ ⟨ty,q⟩=>⟨Je ty,q⟩⟩
end
theorem ixT{K:W.Frag}{x y:V}{H:Hp}{Q:V->Prop}{p:Addr}{xs:List V}{i:Int}{v:V}(e1:x=.ref p)(e2:y=.int i)(h:SqT K H p xs)(e:atI xs i=some v)(q:Q v):∃ p xs i v,x=V.ref p/\y=V.int i/\SqT K H p xs/\atI xs i=some v/\Q v:=⟨p,xs,i,v,e1,e2,h,e,q⟩
theorem ixL{K:W.Frag}{x y:V}{H:Hp}{Q:V->Prop}{p:Addr}{xs:List V}{i:Int}{v:V}(e1:x=.ref p)(e2:y=.int i)(h:SqL K H p xs)(e:atI xs i=some v)(q:Q v):∃ p xs i v,x=V.ref p/\y=V.int i/\SqL K H p xs/\atI xs i=some v/\Q v:=⟨p,xs,i,v,e1,e2,h,e,q⟩
structure Up(D E:Ends):Prop where
 n:∀ σ H,D.nx σ H->E.nx σ H
 r:∀ v H,D.rt v H->E.rt v H
 b:∀ σ H,D.bk σ H->E.bk σ H
 c:∀ σ H,D.ct σ H->E.ct σ H
theorem wU{g:TG}{tb:TS}{D:Ends}{v:V}{σ:St}{H:Hp}(k:∀ E:Ends,Up D E->g v σ H fun σ2 H2=>tb E σ2 H2):g v σ H fun σ2 H2=>tb D σ2 H2:=k D ⟨fun _ _ h=>h,fun _ _ h=>h,fun _ _ h=>h,fun _ _ h=>h⟩
theorem eY{J:It}{g:TG}{tc:TT}{te:TE}{R:Hp->Prop}{l:Addr}{σ0:St}{H0:Hp}(n:Nat)(Pv:Nat->St->Hp->Prop)(h0:Pv 0 σ0 H0)(hstop:∀ σ H,Pv n σ H->J.stop n H/\R H)
  (hgo:∀ i σ H,i < n->Pv i σ H->J.go i H/\∀ N:St->Hp->Prop,(∀ σ' H',Pv (i+1) σ' H'->N σ' H')->∀ x H',J.yld i H x H'->g x σ H' fun σ2 H2=>tc σ2 H2 fun b H3=>if b=true then te σ2 H3 fun v H4=>∃ ys,H4 l=some (.lst ys)/\ys.length < sizeLine/\N σ2 (upd H4 l (.lst (ys++[v]))) else N σ2 H3) :
  ∃ W:Nat->Nat->St->Hp->Prop,(∃ m,W 0 m σ0 H0)/\∀ i m σ H,W i m σ H ->
   (J.stop i H/\R H)\/(J.go i H/\∃ N:St->Hp->Prop,(∀ σ' H',N σ' H'->∃ m',m' < m/\W (i+1) m' σ' H') /\
    ∀ x H',J.yld i H x H'->g x σ H' fun σ2 H2=>tc σ2 H2 fun b H3=>if b=true then te σ2 H3 fun v H4=>∃ ys,H4 l=some (.lst ys)/\ys.length < sizeLine/\N σ2 (upd H4 l (.lst (ys++[v]))) else N σ2 H3) :=
 bL n Pv h0 hstop fun i σ H hi hp=>⟨(hgo i σ H hi hp).1,(hgo i σ H hi hp).2 _ fun _ _ h=>h⟩
theorem Turn.upET{P:Program}{w:World}{K:W.Frag}{tg:Expr}{a it:Addr}{fp:List Addr}{tn:Nat->Heap->Prop}(T:Turn P w K tg (Ba K a) fp it tn):Turn P w K tg (Ba K0 a) fp it tn :=
 Turn.up (J:=Ba K a) (fun _ _ z=>z.imp fun _ z=>z.imp fun _ z=>⟨z.1.up,z.2⟩) (fun _ _ _ _ z=>z.imp fun _ z=>z.imp fun _ z=>⟨z.1,z.2.1,z.2.2.1,fun xs h=>z.2.2.2 xs h.up⟩) (fun _ _ z=>z.imp fun _ z=>⟨z.1.up,z.2⟩) T
theorem lY{X:Cx}{elts:List Expr}{k1:Nat}{p1:Pos}{a:Expr}{ta:TA}{p pos:Pos}(hg:Gl X "enumerate")(hm:X.mg "enumerate" = none)(ha:PA X [a] ta)(hs:starEach [a] X.env=[(false,eval a X.env)]:=by rfl) :
  PI X (.Tuple elts k1 p1) (.Call (.Name "enumerate" p) [a] [] pos) (Eu K0 ta):=fun pins s σ H R I h =>
 G6 (F:=Ba X.K) (G:=Ba K0) (fun _ _ _ _ T=>T.upET) (BL hg hm ha.mc hs) I ⟨_,h,fun v H' ⟨a,e,⟨xs,hq⟩,r⟩=>⟨a,e,⟨xs,hq.up⟩,a,rfl,r⟩⟩
noncomputable def FnI(K:W.Frag)(x:Str)(st:Stmt):Prop:=∃(f:Addr)(fd:FuncData),W.nsIn K mainGlobals x=some (some (.ref f))/\Fun K x x st f fd
theorem fni{K:W.Frag}{x:Str}{st:Stmt}{f:Addr}{oc:Value}{od an:Option Addr}{osl:Array (Option Value)}{kV doc pm cdv ct:Value}(a:W.nsIn K mainGlobals x=some (some (.ref f)))(l:K.lookup f=some ⟨oc,od,.func (W.fnOf x x (gU st) (fQ st) (aB st) .none kV doc pm an cdv ct),osl⟩)
  (c:W.codeIn K cdv x=true)(k:W.keepIn K (.ref f)=true):FnI K x st:=⟨f,_,a,Fd l c k⟩
theorem FnI.has{K:W.Frag}{mg:Str->Option Value}{h:Heap}{x:Str}{st:Stmt}{ps:List Str}(X:K.In h)(G:h.Ns mainGlobals mg)(i:FnI K x st)
  (hb:∀(kV doc pm:Value)(an:Option Addr)(cdv ct:Value)(us:List Value),us.length=ps.length->bindArgs (W.fnOf x x (gU st) (fQ st) (aB st) .none kV doc pm an cdv ct) ⟨us,[]⟩=pure (ps.zip us)):Has K mg x st ps:=by
 obtain⟨f,fd,a,F⟩:=i
 exact⟨f,fd,F,F.binds hb,W.mg_of X G a⟩
theorem len0{α:Type _}{P:List α->Prop}(us:List α)(hl:us.length=0)(h:P []):P us:=by
 cases us with
 | nil=>exact h
 | cons a t=>exact (Nat.succ_ne_zero _ hl).elim
theorem Fv{α:Type _}{P:List α->Prop}(us:List α)(n:Nat)(hl:us.length=n+1)(h:∀ a t,t.length=n->P (a :: t)):P us:=by
 cases us with
 | nil=>exact (Nat.succ_ne_zero n hl.symm).elim
 | cons a t=>exact h a t (Nat.succ.inj hl)
@[elab_as_elim] theorem len1{α:Type _}{P:List α->Prop}(us:List α)(hl:us.length=1)(h:∀ a0,P [a0]):P us:=Fv (P:=P) us 0 hl fun a t ht=>len0 (P:=fun t=>P (a :: t)) t ht (h a)
@[elab_as_elim] theorem len2{α:Type _}{P:List α->Prop}(us:List α)(hl:us.length=2)(h:∀ a0 a1,P [a0,a1]):P us:=Fv (P:=P) us 1 hl fun a t ht=>len1 (P:=fun t=>P (a :: t)) t ht (h a)
@[elab_as_elim] theorem wX{α:Type _}{P:List α->Prop}(us:List α)(hl:us.length=3)(h:∀ a0 a1 a2,P [a0,a1,a2]):P us:=Fv (P:=P) us 2 hl fun a t ht=>len2 (P:=fun t=>P (a :: t)) t ht (h a)
@[elab_as_elim] theorem Ak{α:Type _}{P:List α->Prop}(us:List α)(hl:us.length=4)(h:∀ a0 a1 a2 a3,P [a0,a1,a2,a3]):P us:=Fv (P:=P) us 3 hl fun a t ht=>wX (P:=fun t=>P (a :: t)) t ht (h a)
@[elab_as_elim] theorem Il{α:Type _}{P:List α->Prop}(us:List α)(hl:us.length=5)(h:∀ a0 a1 a2 a3 a4,P [a0,a1,a2,a3,a4]):P us:=Fv (P:=P) us 4 hl fun a t ht=>Ak (P:=fun t=>P (a :: t)) t ht (h a)
@[elab_as_elim] theorem Ip{α:Type _}{P:List α->Prop}(us:List α)(hl:us.length=6)(h:∀ a0 a1 a2 a3 a4 a5,P [a0,a1,a2,a3,a4,a5]):P us:=Fv (P:=P) us 5 hl fun a t ht=>Il (P:=fun t=>P (a :: t)) t ht (h a)
@[elab_as_elim] theorem Nu{α:Type _}{P:List α->Prop}(us:List α)(hl:us.length=7)(h:∀ a0 a1 a2 a3 a4 a5 a6,P [a0,a1,a2,a3,a4,a5,a6]):P us:=Fv (P:=P) us 6 hl fun a t ht=>Ip (P:=fun t=>P (a :: t)) t ht (h a)
@[elab_as_elim] theorem O7{α:Type _}{P:List α->Prop}(us:List α)(hl:us.length=8)(h:∀ a0 a1 a2 a3 a4 a5 a6 a7,P [a0,a1,a2,a3,a4,a5,a6,a7]):P us:=Fv (P:=P) us 7 hl fun a t ht=>Nu (P:=fun t=>P (a :: t)) t ht (h a)
noncomputable def ExcAt(cls:Value)(T e:Addr)(h:Heap):Prop:=∃ oe vs a0,h.get? e=some oe/\oe.cls=cls/\oe.data=.fields vs/\vs[0]?=some a0/\vs[1]?=some (.ref T)
noncomputable def K3(T:Addr)(h:Heap):Prop:=∃ oT ts,h.get? T=some oT/\oT.data=.fields ts/\ts[3]?=some .none
noncomputable def Jr(cls:Value)(T e:Addr):HO:=.ext (ExcAt cls T e)
noncomputable def TrO(T:Addr):HO:=.ext (K3 T)
theorem La{P:Program}{w:World}{H:Hp}{h:Heap}{cls:Value}{T e:Addr}(x:ExcAt cls T e h):cV P w H h e (Jr cls T e):=by
 refine⟨x,?_,fun h1 h2 p k=>?_⟩
 ·obtain⟨oe,_,_,he,_⟩:=x
  exact⟨oe,he⟩
 ·obtain⟨oe,vs,a0,he,r⟩:=p
  exact⟨oe,vs,a0,k oe he,r⟩
theorem MP{P:Program}{w:World}{H:Hp}{h:Heap}{T:Addr}(x:K3 T h):cV P w H h T (TrO T):=by
 refine⟨x,?_,fun h1 h2 p k=>?_⟩
 ·obtain⟨oe,_,he,_⟩:=x
  exact⟨oe,he⟩
 ·obtain⟨oe,vs,he,r⟩:=p
  exact⟨oe,vs,k oe he,r⟩
noncomputable def CX1(P:Program)(w:World):CXT:=fun outer H s E e s'=>∃(ea T:Addr)(cls:Value)(H':Hp),e=.ref ea/\T≠ea/\s'.os=s.os/\AllBare s'.gens/\Un (frs outer) [] H H' s.heap s'.heap/\HOk P w H' s'.heap /\
 H' ea=some (Jr cls T ea)/\H' T=some (TrO T)/\E cls (some ea) H'
section
variable {M:Model}{A:Around}{E:Value->Shared->Prop}{s:Shared}{base:Heap}{env:Env}{outer:List Env}{L e:Addr}
structure Left(fs:List Addr)(e:Addr)(cls:Value)(T:Addr)(h h':Heap):Prop where
 keep:∀ b o,h.get? b=some o->b ∉ fs->b≠e->h'.get? b=some o
 slot:∀ b o,h.get? b=some o->b∈fs->∃ sl,h'.get? b=some { o with slots:=sl }
 new:h.get? T=none
 ne:T≠e
 exc:ExcAt cls T e h'
 tr:K3 T h'
end
noncomputable abbrev xH(H:Hp)(T e:Addr)(cls:Value):Hp:=upd (upd H T (TrO T)) e (Jr cls T e)
section
variable {P:Program}{w:World}{fs:List Addr}{e T T0:Addr}{cls:Value}{H:Hp}{h0 h1 h':Heap}
end
section
variable {X:Cx}{pins:List (Addr × Obj)}{σ:St}{H H':Hp}{s:Shared}{h':Heap}
end
section
variable {P:Program}{w:World}{K:W.Frag}{mg:Str->Option Value}{base:Heap}{N:List Str}{qual:Str}{scope:Scope}{f:Addr}{cd:Value}{A:Around}{outer:List Env}{s0:Shared}{H0:Hp}{E:XK}
 {pins:List (Addr × Obj)}{σ:St}{H:Hp}{s:Shared}
end
noncomputable abbrev TJ:=St->Hp->Str->VK->Prop
section
variable {X:Cx}{e e2:Expr}{es:List Expr}{te te2:TE}{tj:TJ}{pos:Pos}
end
structure Nk(P:Program)(w:World)(K:W.Frag)(mg:Str->Option Value)(base:Heap)(x:Str)(k:Nat)(ps:List Str)(sp:Sp):Prop where
 ex:∃(f:Addr)(fd:FuncData),oR P w K mg base (CX1 P w) k f fd ps sp/\Binds K fd ps []/\W.keepIn K (.ref f)=true/\mg x=some (.ref f)
section
variable {P:Program}{w:World}{K:W.Frag}{mg:Str->Option Value}{base:Heap}{x:Str}{ps:List Str}{sp:Sp}
end
noncomputable def Gb(CX:CXT)(X:Cx)(E:St->XK):Prop:=∀(pins:List (Addr × Obj))(σ:St)(H:Hp)(s:Shared)(e:Value)(s':Shared),Inv X pins σ H s->CX X.stack H s (E σ) e s'->X.xe e s'
theorem Passes.s{CX:CXT}{X:Cx}{E:XK}(h:Passes CX X E):Gb CX X fun _=>E:=h
noncomputable abbrev XR:=Value->Addr->St->Hp->Prop
section
variable {X:Cx}{pins more:List (Addr × Obj)}{σ:St}{H:Hp}{s:Shared}{R:XR}
end
section
variable {X:Cx}{pins:List (Addr × Obj)}{σ:St}{H:Hp}{s:Shared}{e:Addr}
end
structure Under(K:W.Frag)(D:Addr)(cls:Value):Prop where
 ex:∃ C,cls=.ref C/\W.subIn K (.ref C) (.ref D)=some true
end L2
namespace L2
open PySem PySem.Spec PySem.Calls PyProof.Rows PySem.W Builtin.Getset_descriptor
section
variable {prog:Program}{w:World}{A:Around}{E:Value->Shared->Prop}{K:Frag}{x C D:Addr}{ox:Obj}{h:Heap}{g:Array GenState}{d:Drawn}{t:Nat}{os:OsState}
structure Nj(h:Heap)(x:Addr)(ox:Obj)(D:Addr):Prop where
 at_:h.get? x=some ox
 cls:ox.cls=.ref D
theorem Nj.type{M:Model}(I:Nj h x ox D):Looks M h (typeOf (.ref x)) (.ref D):=I.cls ▸ (Looks.ld I.at_).andThen .now
structure Pa(K:Frag)(D:Addr):Prop where
 ga:findIn K (.ref D) "__getattribute__" = some (some (.builtin "BaseException.__getattribute__"))
 no:findIn K (.ref D) "__getattr__" = some none
 cl:findIn K (.ref D) "__class__" = some (some (.builtin "object.__class__"))
 bs:subIn K (.ref D) (.type "BaseException")=some true
 ob:mroIn K D (.type "object")=some true
 is:isClsIn K D=true
end
end L2
namespace L2
open PySem PySem.Spec PyProof.Rows
noncomputable def O6(E:XK):XK:=fun cls o H'=>∀ e,o=some e->∀ T',H' T'=none->E cls o (xH H' T' e cls)
noncomputable def Ng(C:Addr)(H:Hp)(E:XK):Prop:=∀(e T:Addr)(H':Hp),Same H H'->H e=none->H' e=some (Jr (.ref C) T e)->E (.ref C) (some e) H'
theorem LQ{H H1:Hp}{T e:Addr}{cls:Value}(s:Same H H1)(he:H e=none)(hT:H1 T=none):Same H (xH H1 T e cls):=fun b o h=>by
 have hbe:b≠e:=fun z=>by subst z;rw [he] at h;cases h
 have hbT:b≠T:=fun z=>by subst z;rw [s _ _ h] at hT;cases hT
 show upd (upd H1 T (TrO T)) e (Jr cls T e) b=some o
 rw [aL hbe,aL hbT];exact s b o h
section
variable {C:Addr}{H H1:Hp}{E:XK}
end
structure Fn1(P:Program)(w:World)(K:W.Frag)(mg:Str->Option Value)(base:Heap)(f:Addr)(k:Nat)(ps:List Str)(sp:Sp):Prop where
 ex:∃(fd:FuncData),oR P w K mg base (CX1 P w) k f fd ps sp/\Binds K fd ps []/\W.keepIn K (.ref f)=true
theorem Nk.fn{P:Program}{w:World}{K:W.Frag}{mg:Str->Option Value}{base:Heap}{x:Str}{k:Nat}{ps:List Str}{sp:Sp}(C:Nk P w K mg base x k ps sp):∃ f,mg x=some (.ref f)/\Fn1 P w K mg base f k ps sp:=by
 obtain⟨f,fd,F,b,kp,m⟩:=C.ex
 exact⟨f,m,fd,F,b,kp⟩
noncomputable def Ob(c:Addr)(q:Str):HO:=.ext fun h=>h.CodeRec (.ref c) q
noncomputable def del(H:Hp)(c:Addr):Hp:=fun b=>if b=c then none else H b
section
variable {P:Program}{w:World}{H H':Hp}{h h':Heap}{c:Addr}{o:Obj}{fs:List Addr}
variable {outer:List Env}{s s':Shared}{Q:VK}{u:Value}{E:XK}{e:Value}
end
section
variable {P:Program}{w:World}{K:W.Frag}{mg:Str->Option Value}{base:Heap}{N:List Str}{qual:Str}{scope:Scope}{f:Addr}{cd:Value}{cl:List (Str × Addr)}{A:Around}{outer:List Env}{s0:Shared}{H0:Hp}{E:XK}
end
structure Oi(mg:Str->Option Value)(base:Heap)(c P:Addr):Prop where
 hd:W.CodeHd base c P
 gP:mainGlobals≠P
 blt:base.BuiltinsAt mg P
noncomputable def O8(P:Addr)(pos:Pos)(qual:Str)(H:Hp):Prop:=∃ ps,H P=some (.tbl ps)/\(ps = #[]\/∃ c',ps = #[rawInt pos.line,rawInt pos.col,.ref c']/\H c'=some (Ob c' qual))
structure JC(k:Nat)(A:Around):Prop where
 dp:A.depth+3 * k+5 < recursionLimit
 un:A.units+16 * k+200 < cLine
theorem kJ.q{k:Nat}{A:Around}(r:kJ k A)(e:Option Value):JC k (A.mark e):=⟨r.dp,r.un⟩
structure O9(P:Program)(w:World)(K:W.Frag)(mg:Str->Option Value)(base:Heap)(x:Str)(k:Nat)(ps:List Str)(sp:Sp):Prop where
 ex:∃(f:Addr)(fd:FuncData),((∀ vs H Q E,sp vs H Q E->vs.length=ps.length)/\∀(A:Around)(outer:List Env)(s:Shared)(H:Hp)(args:Args)(us:List Value)(vs:List V)(Q:VK),JC k A->JN P w K mg base A outer s H->BindsTo s fd args (ps.zip us)->Vals vs us->sp vs H Q E0 ->
  codeAny (model P w) A (.call (.ref f) args) (CR CX0 outer P w H s Q E0) s)/\Binds K fd ps []/\W.keepIn K (.ref f)=true/\mg x=some (.ref f)
open AutoSeq1 (wpAny_loadPart')
section
variable {prog:Program}{w:World}{A:Around}{E:Value->Shared->Prop}{s:Shared}
theorem oH{Q:List Value->Shared->Prop}{r:Addr}{a b c:Int}{t u v:Tok}{n:Nat}(hh:A.handled=none)(hr:IsRange s.heap r a b c t u v)(hsmall:Builtin.Range.small a b c=true)
  (hn:Builtin.Range.rangeSize a b c=n)(hlen:n<=2 ^ 24)
  (hQ:∀ h' tk acc,(∀ b o,s.heap.get? b=some o->h'.get? b=some o)->ItemsOf (fun i v=>∃ t,v=.int (a+i * c) t) acc n->Q acc.toList { s with heap:=h',toks:=tk }) :
  wpAny (model prog w) A (collect (.ref r)) Q E s:=by
 unfold collect
 refine wpAny_bind (wpAny_runValue (codeAny_builtin F.entry_proto_collect ?_))
 rw [Around.under_plainId F.plain_proto_collect _]
 show wpAny _ A.in1 (newList [] >>= fun l=>again (.builtin "list.__iadd__" ⟨[l,.ref r],[]⟩)) _ _ s
 refine wpAny_bind (wpAny_newObj_type ?_)
 refine wpAny_pure ⟨plainId_quiet F.plain_list_iadd _,codeAny_builtin F.entry_list_iadd ?_⟩
 rw [Around.under_plainId F.plain_list_iadd _]
 show wpAny _ A.in1 (Builtin.List.listExtendWith (.ref s.heap.objs.size) (.ref r) (.ref s.heap.objs.size)) _ _ _
 have hS:(s.heap.push { cls:=.type "list",data:=.seq ([]:List Value).toArray }).get? s.heap.objs.size=some { cls:=.type "list",data:=.seq #[] 0 }:=Heap.get?_push_size _ rfl
 have fin':∀(h':Heap)(tk:Nat)(acc:Array Value)(c':Nat),(∀ b o,b≠s.heap.objs.size->(s.heap.push { cls:=.type "list",data:=.seq ([]:List Value).toArray }).get? b=some o->h'.get? b=some o) ->
   h'.get? s.heap.objs.size=some { cls:=.type "list",dict:=none,data:=.seq acc c',slots:=#[] }->ItemsOf (fun i v=>∃ t,v=.int (a+i * c) t) acc n ->
   wpAny (model prog w) A (match Value.ref s.heap.objs.size with
   | Value.ref a=>do
    match (← load a).data with
     | Data.seq xs _=>pure xs.toList
     | _=>unsupported "internal:collect"
   | _=>unsupported "internal:collect") Q E { s with heap:=h',toks:=tk }:=by
  intro h' tk acc c' hk hS' hacc
  show wpAny _ A (load s.heap.objs.size >>= _) _ _ _
  refine wpAny_bind (wpAny_load hS' ?_)
  refine wpAny_pure ?_
  exact hQ h' tk acc (fun b o e=>hk b o (Nat.ne_of_lt (Heap.lt_size e)) (Heap.get?_push_of_some _ e)) hacc
 refine wpAny_mono (wpAny_extend_range (A:=A) (R:=fun rr s'=>rr=.ok (.ret (.ref s.heap.objs.size))/\∃(h':Heap)(tk:Nat)(acc:Array Value)(c':Nat),s'={ s with heap:=h',toks:=tk }/\(∀ b o,b≠s.heap.objs.size->(s.heap.push { cls:=.type "list",data:=.seq ([]:List Value).toArray }).get? b=some o->h'.get? b=some o) /\
   h'.get? s.heap.objs.size=some { cls:=.type "list",dict:=none,data:=.seq acc c',slots:=#[] }/\ItemsOf (fun i v=>∃ t,v=.int (a+i * c) t) acc n)
  (s:={ s with heap:=s.heap.push { cls:=.type "list",data:=.seq ([]:List Value).toArray } }) hh (Heap.get?_push_of_some _ hr) hsmall hn hlen _ _ 0 hS (fun h' tk acc c' h1 h2 h3=>⟨rfl,h',tk,acc,c',rfl,h1,h2,h3⟩)) (fun fin s' h=>?_) (fun e s' h=>?_)
 ·cases fin with
  | done f =>
   obtain⟨e,h',tk,acc,c',rfl,h1,h2,h3⟩:=h
   cases e
   exact fin' h' tk acc c' h1 h2 h3
  | again c'=>exact⟨h.1,codeAny_mono h.2 fun r s'' hr=>by obtain⟨rfl,h',tk,acc,c',rfl,h1,h2,h3⟩:=hr;exact fin' h' tk acc c' h1 h2 h3⟩
 ·exact absurd h.1 (by simp)
end
theorem gW(r:Addr)(a b c:Int)(t u v:Tok)(n:Nat)(hsmall:Builtin.Range.small a b c=true)(hn:Builtin.Range.rangeSize a b c=n)(hlen:n<=1000000) :
  Meets (Builtin.«tuple.__new__» ⟨[.type "tuple",.ref r],[]⟩)
   (fun A R s=>A.handled=none/\IsRange s.heap r a b c t u v/\∀(h':Heap)(tk:Nat)(acc:Array Value),(∀ b o,s.heap.get? b=some o->h'.get? b=some o)->ItemsOf (fun i v=>∃ t,v=.int (a+i * c) t) acc n ->
    R (.ok (.ret (.ref h'.objs.size))) { s with heap:=h'.push { cls:=.type "tuple",data:=.seq acc },toks:=tk }) :=
 .of_wp fun prog w A R s h=>by
  obtain⟨hh,hr,h⟩:=h
  have hsub:=sub_tuple_self
  have hinit:=init_tuple_lookup
  have hmh:=madeHere_tuple
  have hT:s.TypeIs (.ref r) "range":=⟨_,hr,rfl⟩
  have hh1:A.in1.handled=none:=hh
  have hl24:n<=2 ^ 24:=by omega
  wp_walk using wpAny_typeOf hT,oH (t:=t) (u:=u) (v:=v) hh1 hr hsmall hn hl24
  intro h' tk acc hk hacc
  show wpAny _ _ (Builtin.Tuple.tupleExact acc.toList.toArray >>= fun v=>ret v) _ _ _
  unfold Builtin.Tuple.tupleExact
  refine wpAny_bind (wpAny_newObj_type ?_ (show acc.toList.toArray.size<=sizeLine by simp only [Array.toArray_toList];rw [hacc.1];exact Nat.le_trans hlen cu))
  refine wpAny_pure ⟨_,rfl,?_⟩
  have e:acc.toList.toArray=acc:=by simp
  rw [e]
  exact h h' tk acc hk hacc
section
variable {prog:Program}{w:World}{A:Around}{E:Value->Shared->Prop}{s:Shared}
theorem kI{Q:Value->Shared->Prop}{r:Addr}{a b c:Int}{t u v:Tok}{n:Nat}(hh:A.handled=none)(hr:IsRange s.heap r a b c t u v)(hsmall:Builtin.Range.small a b c=true)
  (hn:Builtin.Range.rangeSize a b c=n)(hlen:n<=1000000)
  (h:∀(h':Heap)(tk:Nat)(acc:Array Value),(∀ b o,s.heap.get? b=some o->h'.get? b=some o)->ItemsOf (fun i v=>∃ t,v=.int (a+i * c) t) acc n->Q (.ref h'.objs.size) { s with heap:=h'.push { cls:=.type "tuple",data:=.seq acc },toks:=tk }) :
  wpAny (model prog w) A (call (.type "tuple") [.ref r]) Q E s:=by
 exact callType_new F.called_tuple (by decide) (F.typeCall_tuple_1 _) (F.newCall_tuple_1 _) (fun obj=>F.args_object_init_2 obj _) F.entry_tuple_new
  (gW r a b c t u v n hsmall hn hlen) ⟨hh,hr,fun h' tk acc hk hacc=>⟨⟨_,Heap.get?_push_size _ rfl,rfl⟩,h h' tk acc hk hacc⟩⟩
end
noncomputable def CQ(i:Int)(n:Nat):List V:=(List.range n).map fun k=>V.int (i+(k:Nat))
theorem iQ(i:Int)(n:Nat):(CQ i n).length=n:=by unfold CQ;simp
theorem yh:∀ {xs:List V}{us:List Value},xs.length=us.length->(∀(i:Nat) x u,xs[i]?=some x->us[i]?=some u->RelV x u)->Vals xs us
 | [],[],_,_=>.nil
 | x :: xs,u :: us,h,k=>.cons (k 0 x u rfl rfl) (yh (by simpa using h) fun i a b p q=>k (i+1) a b (by simpa using p) (by simpa using q))
 | [],_ :: _,h,_=>by simp at h
 | _ :: _,[],h,_=>by simp at h
theorem Cg{i:Int}{n:Nat}{acc:Array Value}(h:ItemsOf (fun k v=>∃ t,v=.int (i+k * 1) t) acc n):Vals (CQ i n) acc.toList:=by
 refine yh (by rw [iQ,Array.length_toList,h.1]) fun j x u hx hu=>?_
 have hj:j < n:=by
  have:=(List.getElem?_eq_some_iff.mp hx).1
  rwa [iQ] at this
 obtain⟨t,rfl⟩:=h.2 j u (by simpa using hu)
 have e:x=V.int (i+(j:Nat)):=by
  unfold CQ at hx
  rw [List.getElem?_map,List.getElem?_range hj] at hx
  exact (Option.some.inj hx).symm
 subst e
 rw [Int.mul_one]
 exact⟨t,rfl⟩
section
variable {X:Cx}
theorem zB{pins:List (Addr × Obj)}{σ:St}{H:Hp}{s:Shared}{Q:VK}{lo hi:Int}{t u v:Tok}{tk:Nat}(hc:X.calm=true)(I:Inv X pins σ H s)(h1:-(2 ^ 62)<=lo)(h2:lo < 2 ^ 62)(h3:-(2 ^ 62)<=hi)(h4:hi < 2 ^ 62)(h5:(hi - lo).toNat<=1000000)
  (q:∀ p,H p=none->Q (.ref p) (upd H p (.tup (CQ lo (hi - lo).toNat)))):wpAny (model X.prog X.w) X.A (call (.type "tuple") [.ref s.heap.objs.size]) (EP X pins σ Q) X.xe { s with heap:=s.heap.push { cls:=.type "range",data:=.fields #[.int lo t,.int hi u,.int 1 v] },toks:=tk }:=by
 refine kI (n:=(hi - lo).toNat) (I.ok.hd hc) (IsRange.new ..) (small_one h1 h2 h3 h4) (by rw [rangeSize_one];split <;> omega) h5 fun h' tk' acc hk hacc=>?_
 have I1:Inv X pins σ H { s with heap:=h',toks:=tk' }:=I.kept fun b o e=>hk b o (Heap.get?_push_of_some _ e)
 have vv:=Cg hacc
 have I2:Inv X pins σ (upd H h'.objs.size (.tup (CQ lo (hi - lo).toNat))) { s with heap:=h'.push { cls:=.type "tuple",data:=.seq acc },toks:=tk' } :=
  I1.laid (t':=tk') (fun b o e=>Heap.get?_push_of_some _ e) (Nat.le_refl _) (show cV X.prog X.w _ _ _ (.tup _) from ⟨by rw [iQ];exact Nat.le_trans h5 cu,acc.toList,vv,by have:=IsTup.new h' acc;simpa using this⟩)
 exact⟨.ref h'.objs.size,_,I2,rfl,q _ (I1.hok.fresh (Nat.le_refl _))⟩
noncomputable def Mh(ta:TA):TE:=fun σ H Q=>ta σ H fun vs H1=>∃ i j:Int,vs=[.int i,.int j]/\(-(2 ^ 62)<=i/\i < 2 ^ 62/\-(2 ^ 62)<=j/\j < 2 ^ 62)/\(j - i).toNat<=1000000/\∀ p,H1 p=none->Q (.ref p) (upd H1 p (.tup (CQ i (j - i).toNat)))
theorem jO{a b:Expr}{ta:TA}{p p2 pos pos2:Pos}(hc:X.calm=true)(hgT:Gl X "tuple")(hmT:X.mg "tuple" = none)(hg:Gl X "range")(hm:X.mg "range" = none)(ha:PA X [a,b] ta)
  (hs0:starEach [.Call (.Name "range" p2) [a,b] [] pos2] X.env=(false,eval (.Call (.Name "range" p2) [a,b] [] pos2) X.env) :: starEach [] X.env:=by rfl)
  (hs:starEach [a,b] X.env=[(false,eval a X.env),(false,eval b X.env)]:=by rfl)(hs2:starEach [b] X.env=[(false,eval b X.env)]:=by rfl) :
  PE X (.Call (.Name "tuple" p) [.Call (.Name "range" p2) [a,b] [] pos2] [] pos) (Mh ta):=by
 intro pins s σ H Q I h
 refine wpAny_Call_Name_kw (j8 I hgT hmT boot_tuple ?_ (by decide) (by decide))
 refine PyProof.Rows.callWith_type1 ?_ hs0 rfl
 rw [hs0]
 show wpAny _ _ (spliced ((false,eval _ X.env) :: backTo pos (starEach [] X.env))) _ _ s
 refine Calls.spliced_cons ?_
 refine Call_ (j8 I hg hm boot_range (PyProof.Rows.callWith_type1 (thn (ha pos2 pins s σ H _ I h) fun us s1 ⟨vs,H1,I1,r1,q1⟩=>?_) (by rw [hs,hs2]) (by rw [hs2];rfl)))
 obtain⟨i,j,e,⟨q1,q2,q3,q4⟩,q5,q⟩:=q1
 subst e
 cases r1 with
 | cons r rr =>
  cases rr with
  | cons r' rr =>
   cases rr
   obtain⟨t,rfl⟩:=r
   obtain⟨t',rfl⟩:=r'
   refine call_range_2 ?_
   refine Calls.spliced_nil ?_
   exact zB hc I1 q1 q2 q3 q4 q5 q
end
noncomputable def MF:R2:=fun x y H Q=>∃(ds es:List D)(n:Nat),Den H x (.tup ds)/\Den H y (.tup es)/\jf (n+1) (.tup ds)/\jf (n+1) (.tup es)/\n<=50/\pG ds es/\Q (.bl (!eqD (.tup ds) (.tup es))) H
theorem tK{X:Cx}(hu:X.A.units+64 < cLine):OpR X (compareOp .NotEq) MF:=by
 intro pins s σ H x y v u Q I rx ry h
 obtain⟨ds,es,n,hx,hy,hs1,hs2,hn,hm,q⟩:=h
 have ih:=Jj I (s':=s) (fun b o z=>z) n
 obtain⟨a,vs,rfl,ha,hda⟩:=bO hx
 obtain⟨b,us,rfl,hb,hdb⟩:=bO hy
 cases rx
 cases ry
 obtain⟨its,r1,p1,_⟩:=I.tuple (SqT.of (K:=X.K) ha)
 obtain⟨its2,r2,p2,_⟩:=I.tuple (SqT.of (K:=X.K) hb)
 have l1:=hda.len
 have l2:=hdb.len
 have m1:=r1.length
 have m2:=r2.length
 have e0:=allR_eq ds es
 rw [show ds.length=its.toArray.size by simp;omega,show es.length=its2.toArray.size by simp;omega] at e0
 have key:=SeqAt.RcNeAt.tuples (A:=X.A) (s:=s) (e:=fun j=>eqD (ds.getD j .non) (es.getD j .non)) p1 p2 (by omega) fun j h1 h2=>?_
 ·rw [e0] at key
  exact key X.prog X.w _ _ ⟨.bl _,H,I,rfl,q⟩
 ·have hj1:j < vs.length:=by simpa [m1] using h1
  have hj2:j < us.length:=by simpa [m2] using h2
  obtain⟨d1,g1,b1⟩:=hda.at_ (List.getElem?_eq_getElem hj1)
  obtain⟨d2,g2,b2⟩:=hdb.at_ (List.getElem?_eq_getElem hj2)
  obtain⟨w1,hw1,rw1⟩:=r1.get (List.getElem?_eq_getElem hj1)
  obtain⟨w2,hw2,rw2⟩:=r2.get (List.getElem?_eq_getElem hj2)
  have q1:its.toArray[j]=w1:=by
   have:=(List.getElem?_eq_some_iff.mp hw1).2
   simpa using this
  have q2:its2.toArray[j]=w2:=by
   have:=(List.getElem?_eq_some_iff.mp hw2).2
   simpa using this
  rw [q1,q2]
  rw [List.getD_eq_getElem?_getD,List.getD_eq_getElem?_getD,g1,g2]
  have s1:=(hs1.2 ds rfl).2 d1 (List.mem_of_getElem? g1)
  have s2:=(hs2.2 es rfl).2 d2 (List.mem_of_getElem? g2)
  exact (ih d1 d2 X.A.in1 _ _ _ _ s1 s2 (hm.at_ g1 g2) b1 b2 rw1 rw2 (by first | (simp only [Around.in1];omega) | omega)).1
noncomputable def Mt(K:W.Frag):List V->Hp->VK->Prop:=fun xs H Q=>∃(l:Addr)(ns:List Int),xs=[.ref l]/\SqL K H l (ns.map V.int)/\Q (.int ns.sum) H
theorem cR{X:Cx}(hc:X.calm=true):gA X (.builtin "sum") (Mt X.K):=by
 intro pins s σ H xs us Q I r h
 obtain⟨l,ns,rfl,hq,q⟩:=h
 obtain⟨u,rfl,r1⟩:=vals1 r
 cases r1
 obtain⟨its,rv,pl,hz⟩:=I.list hq
 obtain⟨xs,e1,e2⟩:=wM rv
 refine sum_intListG (I.ok.hd hc) (xs:=xs) (by rw [← e1];exact pl.isList) fun h' tk t' hk=>?_
 rw [preSum_eq,List.take_of_length_le (by simp),e2]
 exact⟨.int _,H,I.kept (t':=tk) hk,⟨_,rfl⟩,q⟩
end L2
namespace ZTL
open PySem
open ZT (Apart vo tM)
open Sem (wp)
section
variable {prog:Program}{w:World}{A:Around}{E:Value->Shared->Prop}{s:Shared}
end
noncomputable abbrev zh1(h:Heap)(t1:Addr):Heap:=h.push { cls:=.type "tuple_iterator",data:=.fields #[.ref t1,.int 0 0] }
end ZTL
namespace L2
open PySem PySem.Spec PyProof.Rows
end L2
namespace SA
open PySem PySem.Spec PyProof.Rows
theorem oW:entryFor table "set.__and__" = some Builtin.«frozenset.__and__»:=entryFor_alias (id':="frozenset.__and__") (by kernel_rfl) rfl (by decide +kernel) (by kernel_rfl)
theorem vO{α:Type}{l:List α}{i:Nat}(h:i < l.length):(l[i] :: l.eraseIdx i).Perm l:=by
 have e:l=l.take i++l[i] :: l.drop (i+1):=by
  rw [List.getElem_cons_drop,List.take_append_drop]
 rw [List.eraseIdx_eq_take_drop_succ]
 exact (List.perm_middle.symm).trans (by rw [← e])
theorem wZ{α:Type}(next:Nat->Nat):∀(fuel k:Nat)(left:List α)(out:Array α),left.length<=fuel->(pickOrder.go next fuel k left out).toList.Perm (out.toList++left)
 | 0,k,left,out,h=>by
  have e:left=[]:=List.length_eq_zero_iff.mp (by omega)
  subst e
  rw [pickOrder.go,List.append_nil]
 | fuel+1,k,left,out,h=>by
  rw [pickOrder.go]
  cases hx:left[next k % left.length]? with
  | none =>
   have e:left=[]:=by
    cases left with
    | nil=>rfl
    | cons a r =>
     have:=List.getElem?_eq_none_iff.mp hx
     have:=Nat.mod_lt (next k) (show 0 < (a :: r).length by simp)
     omega
   subst e
   rw [List.append_nil]
  | some x =>
   obtain⟨hi,ex⟩:=List.getElem?_eq_some_iff.mp hx
   refine (wZ next fuel (k+1) (left.eraseIdx (next k % left.length)) (out.push x) ?_).trans ?_
   ·rw [List.length_eraseIdx_of_lt hi]
    omega
   ·rw [Array.toList_push,List.append_assoc]
    refine List.Perm.append_left _ ?_
    rw [← ex]
    exact vO hi
theorem xg{α:Type}(next:Nat->Nat)(xs:Array α):(pickOrder next xs).toList.Perm xs.toList:=by
 have:=wZ next xs.size 0 xs.toList #[] (by simp)
 simpa [pickOrder] using this
section
variable {prog:Program}{w:World}{K:Type} [DecidableEq K] {knd:KeyKind prog w K}{A:Around}{E:Value->Shared->Prop}{s:Shared}
theorem CW{a:Addr}{o:Obj}{es:Array (Int × Value)}{ep:Nat}{t:SetTable}{Q:Array (Int × Value)->Shared->Prop}(ho:s.heap.get? a=some o)(hd:o.data=.set es ep t)(hf:t.fits es.size=true)
  (hc:w.params.followText "set-order" = true\/(t.led=true/\t.plain=true)\/es.size<=1)(h:∀ arr:Array (Int × Value),arr.toList.Perm es.toList->Q arr s):wpAny (model prog w) A (setWalk a) Q E s:=by
 unfold setWalk
 refine wpAny_bind (wpAny_setState_of ho hd hf ?_)
 dsimp only
 unfold setsByText
 refine wpAny_bind (wpAny_bind (wpAny_askSetting (wpAny_pure ?_)))
 refine wpAny_ite_split (fun hb=>wpAny_bind (wpAny_askSetting (wpAny_pure (h _ (xg _ _))))) (fun hb=>?_)
 have hc':(t.led=true/\t.plain=true)\/es.size<=1:=hc.resolve_left hb
 have hdn:(!t.plain && decide (es.size > 1))=false:=by
  rcases hc' with h | h
  ·rw [h.2];rfl
  ·rw [decide_eq_false (by omega),Bool.and_false]
 have hld:(!t.led && decide (es.size > 1))=false:=by
  rcases hc' with h | h
  ·rw [h.1];rfl
  ·rw [decide_eq_false (by omega),Bool.and_false]
 refine wpAny_ite_split (fun hq=>absurd (show (!t.plain && decide (es.size > 1))=true from hq) (by rw [hdn];decide)) fun _=>?_
 refine wpAny_bind ?_
 show wpAny _ _ (if (!t.led && decide (es.size > 1))=true then unsupported "set:maker-not-led" else pure ()) _ _ _
 exact wpAny_ite_split (fun hq=>absurd hq (by rw [hld];decide)) fun _=>wpAny_pure (wpAny_pure (h es (List.Perm.refl _)))
theorem wj{Q:Bool->Shared->Prop}(l:List Addr)(hl:∀ a∈l,∃ o es ep t,s.heap.get? a=some o/\o.data=.set es ep t/\t.fits es.size=true/\∀ e∈es.toList,e.2.scannable=true)(h:Q true s):wpAny (model prog w) A (setsQuiet l) Q E s:=by
 unfold setsQuiet
 refine wpAny_bind (wpAny_forIn_list _ (fun rest b s'=>s'=s/\b=⟨none,()⟩/\∀ a∈rest,a∈l) _ ?_ ?_ l _ ⟨rfl,rfl,fun _ z=>z⟩)
 ·rintro a rest b s' ⟨rfl,rfl,hr⟩
  obtain⟨o,es,ep,t,ho,hd,hf,hx⟩:=hl a (hr a List.mem_cons_self)
  refine wpAny_bind (wpAny_setEntries_of ho hd hf ?_)
  refine wpAny_bind (MeetsSeq2.wpAny_forIn_array _ (fun rest' b s''=>s''=s'/\b=((none:Option Bool),())/\∀ e∈rest',e∈es.toList) _ ?_ ?_ es _ ⟨rfl,rfl,fun _ z=>z⟩)
  ·rintro ⟨hh,x⟩ rest' b s'' ⟨rfl,rfl,hm⟩
   have hsc:=hx (hh,x) (hm _ List.mem_cons_self)
   cases x <;> first | exact absurd hsc (by decide) | exact wpAny_pure ⟨rfl,rfl,fun e he=>hm e (List.mem_cons_of_mem _ he)⟩ | (exfalso;exact absurd hsc (by intro z;cases z))
  ·rintro b s'' ⟨rfl,rfl,_⟩
   exact wpAny_pure ⟨rfl,rfl,fun a ha=>hr a (List.mem_cons_of_mem _ ha)⟩
 ·rintro b s' ⟨rfl,rfl,_⟩
  exact wpAny_pure h
theorem tO{a b r:Addr}{S T R:K->Bool}{n m c:Nat}{Q:Array (Int × Value)->Shared->Prop}(hab:a≠r)(hbr:b≠r)(hS:s.heap.SetOf knd a S n)(hT:s.heap.SetOf knd b T m)(hR:s.heap.SetOf knd r R c)
  (h:∀(g:Heap)(arr:Array (Int × Value)),Heap.SameBut r s.heap g->g.SetOf knd r R c->ElemsOf knd arr.toList->arr.size=n->(∀ k,S k=true↔∃ e∈arr.toList,knd.is k e.2=true)->Q arr { s with heap:=g }) :
  wpAny (model prog w) A (setWalkUnseen a [b,r] (some r)) Q E s:=by
 obtain⟨o,es,ep,t,ho,hex,hd,hel,hmem,hb,hf,hn⟩:=id hS
 obtain⟨o2,es2,ep2,t2,ho2,hex2,hd2,hel2,hmem2,hb2,hf2,hn2⟩:=id hT
 obtain⟨o3,es3,ep3,t3,ho3,hex3,hd3,hel3,hmem3,hb3,hf3,hn3⟩:=id hR
 have fin:∀(g:Heap)(arr:Array (Int × Value)),Heap.SameBut r s.heap g->g.SetOf knd r R c->arr.toList.Perm es.toList->Q arr { s with heap:=g }:=fun g arr hg hgr hp =>
  h g arr hg hgr (hel.perm hp) (by rw [← hn,← Array.length_toList,hp.length_eq,Array.length_toList]) fun k=>(hmem k).trans ⟨fun ⟨e,he,q⟩=>⟨e,hp.mem_iff.mpr he,q⟩,fun ⟨e,he,q⟩=>⟨e,hp.mem_iff.mp he,q⟩⟩
 have fin0:∀ arr:Array (Int × Value),arr.toList.Perm es.toList->Q arr s:=fun arr hp=>fin s.heap arr (Heap.SameBut.refl r s.heap) hR hp
 unfold setWalkUnseen
 refine wpAny_bind (wpAny_setState_of ho hd hf ?_)
 dsimp only
 unfold setsByText
 refine wpAny_bind (wpAny_bind (wpAny_askSetting (wpAny_pure ?_)))
 refine wpAny_ite_split (fun hq=>?_) (fun hq=>?_)
 ·refine CW ho hd hf ?_ fin0
  simp only [Bool.or_eq_true,Bool.and_eq_true,decide_eq_true_eq] at hq
  rcases hq with (q | q) | q
  ·exact .inl q
  ·exact .inr (.inl q)
  ·exact .inr (.inr q)
 ·refine wpAny_bind (wj [a,b,r] (fun x hx=>?_) ?_)
  ·simp only [List.mem_cons,List.not_mem_nil,or_false] at hx
   rcases hx with rfl | rfl | rfl
   ·exact⟨o,es,ep,t,ho,hd,hf,fun e he=>(hel e he).2⟩
   ·exact⟨o2,es2,ep2,t2,ho2,hd2,hf2,fun e he=>(hel2 e he).2⟩
   ·exact⟨o3,es3,ep3,t3,ho3,hd3,hf3,fun e he=>(hel3 e he).2⟩
  refine wpAny_ite_split (fun z=>absurd z (by decide)) (fun _=>?_)
  refine wpAny_bind (wpAny_rule ?_)
  refine wpAny_bind (wpAny_setState_of ho3 hd3 hf3 ?_)
  dsimp only
  refine wpAny_ite_split (fun _=>?_) (fun _=>wpAny_pure (fin0 es (List.Perm.refl _)))
  refine wpAny_bind (wpAny_storeSet_of ho3 hd3 (wpAny_pure ?_) (fits_of_scanBound hb3))
  obtain⟨_,hS2⟩:=SetOf_store (knd:=knd) (t':={ t3 with led:=t3.led && t.led,plain:=t3.plain && t.plain }) ho3 hex3 hd3 hel3 hmem3 hb3 (by cases t3;exact hf3)
  rw [hn3] at hS2
  exact fin _ es (Heap.SameBut.update ..) hS2 (List.Perm.refl _)
theorem qX{a b r:Addr}{S T:K->Bool}{n m:Nat}{nm:String}{Q:Unit->Shared->Prop}(har:a≠r)(hbr:b≠r)(hS:s.heap.SetOf knd a S n)(hT:s.heap.SetOf knd b T m)(hR:s.heap.SetOf knd r (fun _=>false) 0)(hroom:n+1 < scanBound)
  (h:∀(g:Heap)(L:List K),Heap.SameBut r s.heap g->L.Nodup->(∀ k,k∈L↔S k=true/\T k=true)->g.SetOf knd r (fun k=>S k && T k) L.length->Q () { s with heap:=g }) :
  wpAny (model prog w) A (do
   let was ← setEpoch a
   for (hh,x) in ← setWalkUnseen a [b,r] (some r) do
    holding [x] do
     if (← setFind b x hh).isSome then
      let _ ← setAddHashed r x hh
    Builtin.Frozenset.unchanged nm a was) Q E s:=by
 obtain⟨o,es,ep,t,ho,hex,hd,hel,hmem,hb,hf,hn⟩:=id hS
 refine wpAny_bind (wpAny_setEpoch_of ho hd hf ?_)
 refine wpAny_bind (tO har hbr hS hT hR fun g arr hg hgr hela hsz hma=>?_)
 have keepB:∀ {g':Heap}{c:Addr}{U:K->Bool}{q:Nat},Heap.SameBut r s.heap g'->c≠r->s.heap.SetOf knd c U q->g'.SetOf knd c U q:=fun {g' c U q} hg' hc hU=>by
  obtain⟨o',es',ep',t',ho',rest⟩:=hU
  exact⟨o',es',ep',t',hg'.extBut _ _ hc ho',rest⟩
 have quiet:∀ {g':Heap}{Q':Unit->Shared->Prop},Heap.SameBut r s.heap g'->Q' () { s with heap:=g' }->wpAny (model prog w) A (Builtin.Frozenset.unchanged nm a ep) Q' E { s with heap:=g' }:=fun {g' Q'} hg' hq=>by
  unfold Builtin.Frozenset.unchanged
  refine wpAny_bind (wpAny_setEpoch_of (hg'.extBut _ _ har ho) hd hf ?_)
  exact wpAny_ite_split (fun z=>absurd z (by simp)) fun _=>wpAny_pure hq
 refine wpAny_bind (MeetsSeq2.wpAny_forIn_array _ (fun rest _ s'=>∃(g':Heap)(L:List K)(pre:List (Int × Value)),s'={ s with heap:=g' }/\Heap.SameBut r s.heap g'/\arr.toList=pre++rest/\L.Nodup/\(∀ k,k∈L↔(∃ e∈pre,knd.is k e.2=true)/\T k=true)/\L.length<=pre.length /\
   g'.SetOf knd r (fun k=>decide (k∈L)) L.length) _ ?_ ?_ arr _ ⟨g,[],[],rfl,hg,rfl,List.nodup_nil,fun k=>by simp,Nat.le_refl _,?_⟩)
 ·rintro ⟨hh,x⟩ rest b' s' ⟨g',L,pre,rfl,hg',hpre,hnd,hL,hlen,hgr'⟩
  have hmx:(hh,x)∈arr.toList:=by rw [hpre];simp
  obtain⟨⟨k,hk,ehh⟩,hsc⟩:=hela _ hmx
  have ehh':hh=knd.hash k:=ehh
  subst ehh'
  have hk':knd.is k x=true:=hk
  have hpl:pre.length < n:=by
   have:=congrArg List.length hpre
   rw [Array.length_toList,hsz,List.length_append,List.length_cons] at this
   omega
  have hpre':arr.toList=(pre++[(knd.hash k,x)])++rest:=by rw [hpre];simp
  have hex':∀ j,(∃ e∈pre++[(knd.hash k,x)],knd.is j e.2=true)↔(∃ e∈pre,knd.is j e.2=true)\/j=k:=fun j=>by
   constructor
   ·rintro ⟨e,he,q⟩
    rcases List.mem_append.mp he with he | he
    ·exact .inl ⟨e,he,q⟩
    ·rw [List.mem_singleton] at he
     subst he
     exact .inr (knd.inj x j k q hk')
   ·rintro (⟨e,he,q⟩ | rfl)
    ·exact⟨e,List.mem_append_left _ he,q⟩
    ·exact⟨_,List.mem_append_right _ (List.mem_singleton.mpr rfl),hk'⟩
  refine wpAny_bind (wpAny_holding (wpAny_bind (wpAny_setFind_of hk' hsc (keepB hg' hbr hT) fun rr hrr=>?_)))
  refine wpAny_ite_split (fun hq=>?_) (fun hq=>?_)
  ·have hTk:T k=true:=by rw [← hrr];exact hq
   refine wpAny_bind (wpAny_setAddHashed_of hk' hsc hgr' (by omega) fun g2 hsb hS2=>wpAny_pure (wpAny_bind (quiet (hg'.trans hsb) (wpAny_pure ?_))))
   by_cases hkL:k∈L
   ·refine⟨g2,L,pre++[(knd.hash k,x)],rfl,hg'.trans hsb,hpre',hnd,fun j=>?_,by rw [List.length_append];omega,?_⟩
    ·rw [hL j,hex' j]
     constructor
     ·rintro ⟨q1,q2⟩;exact⟨.inl q1,q2⟩
     ·rintro ⟨q1 | rfl,q2⟩
      ·exact⟨q1,q2⟩
      ·exact (hL _).mp hkL
    ·rw [if_pos (decide_eq_true hkL)] at hS2
     have e:(fun k'=>decide (k'∈L) || decide (k'=k))=fun k'=>decide (k'∈L):=funext fun j=>by
      by_cases hj:j=k
      ·subst hj;simp [hkL]
      ·simp [hj]
     rw [e] at hS2
     exact hS2
   ·refine⟨g2,k :: L,pre++[(knd.hash k,x)],rfl,hg'.trans hsb,hpre',List.nodup_cons.mpr ⟨hkL,hnd⟩,fun j=>?_,by rw [List.length_append,List.length_cons,List.length_singleton];omega,?_⟩
    ·rw [hex' j,List.mem_cons,hL j]
     constructor
     ·rintro (rfl | ⟨q1,q2⟩)
      ·exact⟨.inr rfl,hTk⟩
      ·exact⟨.inl q1,q2⟩
     ·rintro ⟨q1 | rfl,q2⟩
      ·exact .inr ⟨q1,q2⟩
      ·exact .inl rfl
    ·rw [if_neg (by simpa using hkL)] at hS2
     have e:(fun k'=>decide (k'∈L) || decide (k'=k))=fun k'=>decide (k'∈k :: L):=funext fun j=>by
      by_cases hj:j=k
      ·subst hj;simp
      ·simp [hj]
     rw [e] at hS2
     exact hS2
  ·refine wpAny_pure (wpAny_bind (quiet hg' (wpAny_pure ?_)))
   have hTk:T k=false:=by
    rw [← hrr]
    simpa using hq
   refine⟨g',L,pre++[(knd.hash k,x)],rfl,hg',hpre',hnd,fun j=>?_,by rw [List.length_append];omega,hgr'⟩
   rw [hL j,hex' j]
   constructor
   ·rintro ⟨q1,q2⟩;exact⟨.inl q1,q2⟩
   ·rintro ⟨q1 | rfl,q2⟩
    ·exact⟨q1,q2⟩
    ·rw [hTk] at q2;cases q2
 ·rintro b' s' ⟨g',L,pre,rfl,hg',hpre,hnd,hL,hlen,hgr'⟩
  rw [List.append_nil] at hpre
  have hk:∀ k,k∈L↔S k=true/\T k=true:=fun k=>by rw [hL k,hma k,hpre]
  refine wpAny_pure (h g' L hg' hnd hk ?_)
  have e:(fun k=>decide (k∈L))=fun k=>S k && T k:=funext fun k=>by
   rw [Bool.eq_iff_iff,decide_eq_true_eq,Bool.and_eq_true]
   exact hk k
  rw [← e]
  exact hgr'
 ·simpa using hgr
theorem yV{a:Addr}{S:K->Bool}{n:Nat}{Q:Bool->Shared->Prop}(hS:s.heap.SetOf knd a S n)(h:Q true s):wpAny (model prog w) A (Builtin.Frozenset.isAnySet (.ref a)) Q E s:=by
 obtain⟨o,es,ep,t,ho,hex,_⟩:=hS
 unfold Builtin.Frozenset.isAnySet
 refine wpAny_bind (wpAny_isInstance (T:="set") (b:=true) ⟨o,ho,hex.1⟩ (by rw [isSubtype_type];kernel_rfl) ?_)
 exact wpAny_pure h
theorem DG{a b:Addr}{S T:K->Bool}{n m:Nat}{Q:Value->Shared->Prop}(hab:a≠b)(hS:s.heap.SetOf knd a S n)(hT:s.heap.SetOf knd b T m)(hn:n+1 < scanBound)(hm:m+1 < scanBound)
  (h:∀(g:Heap)(L:List K),(∀ c o,s.heap.get? c=some o->g.get? c=some o)->L.Nodup->(∀ k,k∈L↔S k=true/\T k=true)->g.SetOf knd s.heap.objs.size (fun k=>S k && T k) L.length->Q (.ref s.heap.objs.size) { s with heap:=g }) :
  wpAny (model prog w) A (binaryOp .BitAnd (.ref a) (.ref b)) Q E s:=by
 obtain⟨o,es,ep,t,ho,hex,hd,hel,hmem,hb,hf,en⟩:=id hS
 obtain⟨o2,es2,ep2,t2,ho2,hex2,hd2,hel2,hmem2,hb2,hf2,en2⟩:=id hT
 refine wpAny_binaryOp_same (T:="set") (id:="set.__and__") ⟨o,ho,hex.1⟩ ⟨o2,ho2,hex2.1⟩ F.fills_set_and F.slot_set_and ?_
 refine wpAny_call_entry F.slot_set_and ⟨o,ho,hex.1⟩ oW ?_ (F.args_set_and_2 _ _)
 have nar:a≠s.heap.objs.size:=Nat.ne_of_lt (Heap.lt_size ho)
 have nbr:b≠s.heap.objs.size:=Nat.ne_of_lt (Heap.lt_size ho2)
 show wpAny _ _ (Builtin.Frozenset.slot1 "__and__" ⟨[.ref a,.ref b],[]⟩ >>= _) _ _ _
 refine wpAny_bind (wpAny_of_eq (a:=(Value.ref a,Value.ref b)) (by rfl) ?_)
 dsimp only
 refine wpAny_bind (wpAny_bind (yV hS ?_))
 show wpAny _ _ (Builtin.Frozenset.isAnySet (.ref b)) _ _ _
 refine yV hT ?_
 refine wpAny_ite_split (fun z=>absurd z (by decide)) (fun _=>?_)
 show wpAny _ _ (Builtin.Frozenset.addrOf (.ref a) >>= _) _ _ _
 refine wpAny_bind (wpAny_pure ?_)
 show wpAny _ _ (Builtin.Frozenset.intersection (toString "frozenset." ++ toString "__and__") a (.ref b) >>= _) _ _ _
 refine wpAny_bind ?_
 generalize (toString "frozenset." ++ toString "__and__")=nm
 unfold Builtin.Frozenset.intersection
 refine wpAny_ite_split (fun z=>absurd (by simpa using z) hab.symm) (fun _=>?_)
 refine wpAny_bind ?_
 unfold Builtin.Frozenset.baseOf
 refine wpAny_bind (wpAny_isInstance (T:="set") (b:=true) ⟨o,ho,hex.1⟩ (by rw [isSubtype_type];kernel_rfl) (wpAny_pure ?_))
 dsimp only
 refine wpAny_bind (wpAny_newSet_of (knd:=knd) fun led hN=>?_)
 have hS1:(s.heap.push { cls:=.type "set",dict:=none,data:=.set #[] 0 (.fresh 0 0 led) }).SetOf knd a S n:=⟨o,es,ep,t,Heap.get?_push_of_some _ ho,hex,hd,hel,hmem,hb,hf,en⟩
 have hT1:(s.heap.push { cls:=.type "set",dict:=none,data:=.set #[] 0 (.fresh 0 0 led) }).SetOf knd b T m:=⟨o2,es2,ep2,t2,Heap.get?_push_of_some _ ho2,hex2,hd2,hel2,hmem2,hb2,hf2,en2⟩
 refine wpAny_bind (wpAny_pure ?_)
 refine wpAny_bind (wpAny_holding ?_)
 refine wpAny_bind (yV hT1 ?_)
 refine wpAny_ite_split (fun _=>?_) (fun z=>absurd rfl z)
 refine wpAny_bind (wpAny_pure ?_)
 have size_of:∀ {g:Heap}{c:Addr}{U:K->Bool}{q:Nat}{Q':Nat->Shared->Prop},g.SetOf knd c U q->Q' q { s with heap:=g }->wpAny (model prog w) A.in1 (Builtin.Frozenset.sizeOf c) Q' E { s with heap:=g }:=fun {g c U q Q'} hU hq=>by
  obtain⟨o',es',ep',t',ho',_,hd',_,_,_,hf',en'⟩:=hU
  unfold Builtin.Frozenset.sizeOf
  refine wpAny_bind (wpAny_setEntries_of ho' hd' hf' (wpAny_pure ?_))
  rw [en']
  exact hq
 refine wpAny_bind (size_of hT1 (wpAny_bind (size_of hS1 ?_)))
 by_cases hgt:m > n
 ·simp only [if_pos hgt]
  refine qX (nm:=nm) (knd:=knd) nar nbr hS1 hT1 hN hn fun g L hg hnd hL hgL=>wpAny_pure (wpAny_pure ⟨_,rfl,(fun z=>nomatch z),h g L (fun c o' e=>hg.extBut _ _ (Nat.ne_of_lt (Heap.lt_size e)) (Heap.get?_push_of_some _ e)) hnd hL hgL⟩)
 ·simp only [if_neg hgt]
  refine qX (nm:=nm) (knd:=knd) nbr nar hT1 hS1 hN hm fun g L hg hnd hL hgL=>wpAny_pure (wpAny_pure ⟨_,rfl,(fun z=>nomatch z),h g L (fun c o' e=>hg.extBut _ _ (Nat.ne_of_lt (Heap.lt_size e)) (Heap.get?_push_of_some _ e)) hnd (fun k=>(hL k).trans and_comm) ?_⟩)
  have e:(fun k=>T k && S k)=fun k=>S k && T k:=funext fun k=>Bool.and_comm _ _
  rw [← e]
  exact hgL
end
end SA
namespace L2
open PySem PySem.Spec PyProof.Rows
noncomputable def Gu(ns:List Int)(k:Int):Bool:=decide (k∈ns)
theorem CG(ns:List Int):SX.have_ (fun i=>ns.getD i 0) ns.length=Gu ns:=funext fun k=>by
 unfold SX.have_ Gu
 have e:(List.range ns.length).map (fun i=>ns.getD i 0)=ns:=by
  apply List.ext_getElem (by simp)
  intro i h1 h2
  simp [List.getD_eq_getElem?_getD]
  rw [List.getElem?_eq_getElem h2]
  rfl
 rw [e,Bool.eq_iff_iff,List.any_eq_true]
 simp
theorem Gw{ns:List Int}{its:List Value}(r:Vals (ns.map V.int) its){i:Nat}{v:Value}(h:its[i]?=some v):∃ t,v=.int (ns.getD i 0) t:=by
 have hi:i < ns.length:=by
  have:=(List.getElem?_eq_some_iff.mp h).1
  have:=r.length
  rw [List.length_map] at this
  omega
 obtain⟨u,hu,ru⟩:=r.get (i:=i) (x:=.int (ns.getD i 0)) (by rw [List.getElem?_map,List.getElem?_eq_getElem hi,List.getD_eq_getElem?_getD,List.getElem?_eq_getElem hi];rfl)
 rw [hu] at h
 cases h
 exact ru
noncomputable def Ld(K:W.Frag):List V->Hp->VK->Prop:=fun xs H Q=>∃(p:Addr)(ns:List Int),xs=[.ref p]/\SqL K H p (ns.map V.int)/\ns.length<=4000/\∀(a:Addr)(n:Nat),H a=none->n<=ns.length->Q (.ref a) (upd H a (.set (Gu ns) n))
theorem qK{X:Cx}(hc:X.calm=true):gA X (.type "set") (Ld X.K):=by
 intro pins s σ H xs us Q I r h
 obtain⟨p,ns,rfl,hp,hz,q⟩:=h
 obtain⟨u,rfl,rx⟩:=vals1 r
 cases rx
 obtain⟨its,rv,pl,hzz⟩:=I.list hp
 have hl:=rv.length
 rw [List.length_map] at hl
 have hsz:its.toArray.size=ns.length:=by simp [hl]
 refine SX.call_set_list (knd:=intKind X.prog X.w) (val:=fun i=>ns.getD i 0) (I.ok.hd hc) pl.isList (fun i v hv=>?_) (by rw [hsz];unfold scanBound;omega) fun g tk hS kp=>?_
 ·obtain⟨t,rfl⟩:=Gw rv (by simpa using hv)
  exact⟨by simp [intKind,Value.isInt],rfl⟩
 ·rw [hsz,CG] at hS
  exact⟨.ref s.heap.objs.size,_,I.laid (t':=tk) (o:=.set (Gu ns) _) (fun b o e=>kp b o (Heap.lt_size e) e) (Nat.le_refl _) hS,rfl,q _ _ I.fresh (SX.tY _ _)⟩
noncomputable def Lb:R2:=fun x y H Q=>∃(p q:Addr)(S T:Int->Bool)(n m:Nat),x=.ref p/\y=.ref q/\p≠q/\H p=some (.set S n)/\H q=some (.set T m)/\n<=4000/\m<=4000 /\
 ∀(a:Addr)(L:List Int),H a=none->L.Nodup->(∀ k,k∈L↔S k=true/\T k=true)->Q (.ref a) (upd H a (.set (fun k=>S k && T k) L.length))
theorem Gm{X:Cx}:OpR X (binaryOp .BitAnd) Lb:=by
 intro pins s σ H x y v u Q I rx ry h
 obtain⟨p,q,S,T,n,m,rfl,rfl,hpq,hp,hq,hn,hm,k⟩:=h
 cases rx
 cases ry
 have h1:s.heap.SetOf (intKind X.prog X.w) p S n:=(show cV X.prog X.w H s.heap p (.set S n) from I.hok p _ hp)
 have h2:s.heap.SetOf (intKind X.prog X.w) q T m:=(show cV X.prog X.w H s.heap q (.set T m) from I.hok q _ hq)
 refine SA.DG hpq h1 h2 (by unfold scanBound;omega) (by unfold scanBound;omega) fun g L kp hnd hL hg=>?_
 exact⟨.ref s.heap.objs.size,_,I.laid (t':=s.toks) (o:=.set (fun k=>S k && T k) L.length) kp (Nat.le_refl _) hg,rfl,k _ L I.fresh hnd hL⟩
theorem nT{X:Cx}:gA X (.builtin "len") (fun xs H Q=>∃(p:Addr)(S:Int->Bool)(n:Nat),xs=[.ref p]/\H p=some (.set S n)/\Q (.int (n:Nat)) H):=by
 intro pins s σ H xs us Q I r h
 obtain⟨p,S,n,rfl,hp,q⟩:=h
 obtain⟨u,rfl,rx⟩:=vals1 r
 cases rx
 obtain⟨o,es,ep,t,eo,ex,ed,_,_,hb,hf,hn⟩:=(show cV X.prog X.w H s.heap p (.set S n) from I.hok p _ hp)
 refine call_len_set eo ex ed hf (by unfold scanBound at hb;omega) ?_
 rw [hn]
 exact⟨.int (n:Nat),H,I.tok _,⟨_,rfl⟩,q⟩
theorem any_range(bs:List Bool):(List.range bs.length).any (fun i=>bs.getD i true)=bs.any id:=by
 rw [Bool.eq_iff_iff,List.any_eq_true,List.any_eq_true]
 constructor
 ·rintro ⟨i,hi,h⟩
  have hi':=List.mem_range.mp hi
  rw [List.getD_eq_getElem?_getD,List.getElem?_eq_getElem hi'] at h
  exact⟨_,List.getElem_mem hi',h⟩
 ·rintro ⟨b,hb,h⟩
  obtain⟨i,hi,e⟩:=List.getElem_of_mem hb
  refine⟨i,List.mem_range.mpr hi,?_⟩
  rw [List.getD_eq_getElem?_getD,List.getElem?_eq_getElem hi,e]
  exact h
theorem qm{X:Cx}(hc:X.calm=true):gA X (.builtin "any") (fun xs H Q=>∃(l:Addr)(bs:List Bool),xs=[.ref l]/\SqL X.K H l (bs.map V.bl)/\Q (.bl (bs.any id)) H):=by
 intro pins s σ H xs us Q I r h
 obtain⟨l,bs,rfl,hq,q⟩:=h
 obtain⟨u,rfl,ru⟩:=vals1 r
 cases ru
 obtain⟨its,rv,p,hz⟩:=I.list hq
 have hd:X.A.in1.handled=none:=I.ok.hd hc
 have hl:=rv.length
 refine call_any_walk (wpAny_pyIter_list p.isList ?_)
 obtain⟨o,n,eo,_⟩:=id p
 have hne:l≠s.heap.objs.size:=Nat.ne_of_lt (Heap.lt_size eo)
 refine⟨s.heap.objs.size,_,_,_,_,_,fun i=>bs.getD i true,rfl,Walks.list hd s.heap.objs.size l hne its.toArray,⟨⟨_,Heap.get?_push_size _ rfl,rfl,rfl⟩,p.isList.push _⟩,fun i v s' Q' E' hv hQ'=>?_,fun h' tk hk=>?_⟩
 ·rw [Ei rv hv]
  exact wpAny_truthy_bool hQ'
 ·have e:its.toArray.size=bs.length:=by rw [List.size_toArray,← hl,List.length_map]
  rw [e,any_range]
  have I1:Inv X pins σ H { s with heap:=s.heap.push { cls:=.type "list_iterator",data:=.fields #[.ref l,.int 0 0] } }:=I.kept (t':=s.toks) fun b o q=>Heap.get?_push_of_some _ q
  obtain⟨f0,f1,f2,f3,f4,f5⟩:=I.fpOk (b:=s.heap.objs.size) (Nat.le_refl _) I.fresh
  exact⟨.bl _,H,I1.turned (it:=s.heap.objs.size) (fun b o hb e=>hk b o (by simpa using hb) e) f0 f1 f3 f4 f5,rfl,q⟩
theorem u0{X:Cx}:MtR X "str.upper" (fun x xs H Q=>∃ r:List Nat,x=.str ⟨r.toArray⟩/\xs=[]/\(∀ c∈r,c < 128)/\r.length<=100000/\Q (.str ⟨(r.map up1).toArray⟩) H):=by
 intro pins s σ H x xs v us Q I rx r h
 obtain⟨l,rfl,rfl,hc,hl,q⟩:=h
 obtain⟨t,rfl⟩:=rx
 cases r
 refine SCL.upper (by show l.toArray.size<=_;rw [List.size_toArray];omega) fun _=>?_
 rw [upper_ascii (x:=⟨l.toArray⟩) (by simpa using hc)]
 have e:(⟨l.toArray.map up1⟩:Str)=⟨(l.map up1).toArray⟩:=by rw [List.map_toArray]
 rw [e]
 exact⟨.str _,H,I.tok _,⟨_,rfl⟩,q⟩
theorem Jy{c:Nat}(h:c < 128):up1 c < 128:=(by decide +kernel:∀ c:Nat,c < 128->up1 c < 128) c h
section
variable {X:Cx}
end
theorem CT{X:Cx}:OpR X (compareOp .Is) (fun x y H Q=>∃ a b,x=.bl a/\y=.bl b/\Q (.bl (a == b)) H):=by
 intro pins s σ H x y v u Q I rx ry h
 obtain⟨a,b,rfl,rfl,q⟩:=h
 cases rx
 cases ry
 refine wpAny_is_plain rfl ?_
 have e:(Value.bool a == Value.bool b)=(a == b):=by cases a <;> cases b <;> rfl
 rw [e]
 exact⟨.bl _,H,I,rfl,q⟩
end L2
namespace L2
open PySem PySem.Spec PyProof PyProof.Rows
noncomputable def FQ(K:W.Frag):R2:=fun x y H Q=>∃(p:Addr)(us:List V)(d:D)(es:List D)(n:Nat),y=.ref p/\(SqL K H p us\/SqT K H p us)/\Den H x d/\cj H us es/\(∀ e∈es,∃ r,e=.tup r)/\(∃ r,d=.tup r)/\jf n d/\(∀ e∈es,jf n e/\Sim e d)/\n<=50/\Q (.bl (!(es.any fun e=>eqD e d))) H
open Classical in
theorem qQ{X:Cx}(hu:X.A.units+64 < cLine):OpR X (compareOp .NotIn) (FQ X.K):=by
 intro pins s σ H x y v u Q I rx ry h
 obtain⟨p,us,d,es,n,rfl,hq,hx,hde,htup,⟨r0,rfl⟩,hsd,hse,hn,q⟩:=h
 cases ry
 have cm:=Jj I (s':=s) (fun b o z=>z) n
 have key:∀ its:List Value,Vals us its->(∀ w∈its,SeqAt.EqAt X.A.in1 s w v (decide (∃ a e,w=Value.ref a/\Den H (.ref a) e/\eqD e (.tup r0)=true)))/\its.any (fun w=>decide (∃ a e,w=Value.ref a/\Den H (.ref a) e/\eqD e (.tup r0)=true))=es.any fun e=>eqD e (.tup r0):=by
  intro its r
  have at_:∀(i:Nat)(w:Value),its[i]?=some w->∃ a e,es[i]?=some e/\w=.ref a/\Den H (.ref a) e:=fun i w hw=>by
   have hl:=r.length
   have hi:=(List.getElem?_eq_some_iff.mp hw).1
   obtain⟨e,he,de⟩:=hde.at_ (List.getElem?_eq_getElem (by omega:i < us.length))
   obtain⟨r1,rfl⟩:=htup e (List.mem_of_getElem? he)
   obtain⟨a,vs,ea,ha,hd⟩:=bO de
   obtain⟨w',hw',rw'⟩:=r.get (List.getElem?_eq_getElem (by omega:i < us.length))
   rw [hw] at hw'
   cases hw'
   rw [ea] at rw' de
   cases rw'
   exact⟨a,_,he,rfl,de⟩
  have val:∀ {a:Addr}{e:D},Den H (.ref a) e->decide (∃ a' e',Value.ref a=Value.ref a'/\Den H (.ref a') e'/\eqD e' (.tup r0)=true)=eqD e (.tup r0):=fun {a e} de=>by
   rw [Bool.eq_iff_iff,decide_eq_true_eq]
   constructor
   ·rintro ⟨a',e',ea,de',h⟩
    injection ea with ea
    subst ea
    rw [Den.det de de']
    exact h
   ·exact fun h=>⟨a,e,rfl,de,h⟩
  refine⟨fun w hw=>?_,?_⟩
  ·obtain⟨i,hi,rfl⟩:=List.getElem_of_mem hw
   obtain⟨a,e,he,ew,de⟩:=at_ i _ (List.getElem?_eq_getElem hi)
   rw [ew,val de]
   obtain⟨s1,s2⟩:=hse e (List.mem_of_getElem? he)
   exact (cm e (.tup r0) X.A.in1 (.ref a) x (.ref a) v s1 hsd s2 de hx rfl rx (by first | (simp only [Around.in1];omega) | omega)).1
  ·refine En (by rw [← r.length,hde.len]) fun i w e hw he=>?_
   obtain⟨a,e',he',ew,de⟩:=at_ i w hw
   rw [he] at he'
   cases he'
   rw [ew]
   exact val de
 rcases hq with hq | hq
 ·obtain⟨its,r,pl,hz⟩:=I.list hq
  obtain⟨k1,k2⟩:=key its r
  refine SeqAt.notIn_listAt (fun w=>decide (∃ a e,w=Value.ref a/\Den H (.ref a) e/\eqD e (.tup r0)=true)) pl.isList (fun w hw=>k1 w (by simpa using hw)) ⟨.bl _,H,I,rfl,?_⟩
  rw [show its.toArray.any (fun w=>decide (∃ a e,w=Value.ref a/\Den H (.ref a) e/\eqD e (.tup r0)=true))=its.any (fun w=>decide (∃ a e,w=Value.ref a/\Den H (.ref a) e/\eqD e (.tup r0)=true)) by simp,k2]
  exact q
 ·obtain⟨its,r,pl,hz⟩:=I.tuple hq
  obtain⟨k1,k2⟩:=key its r
  refine SeqAt.notIn_tupleAt (fun w=>decide (∃ a e,w=Value.ref a/\Den H (.ref a) e/\eqD e (.tup r0)=true)) pl (fun w hw=>k1 w (by simpa using hw)) ⟨.bl _,H,I,rfl,?_⟩
  rw [show its.toArray.any (fun w=>decide (∃ a e,w=Value.ref a/\Den H (.ref a) e/\eqD e (.tup r0)=true))=its.any (fun w=>decide (∃ a e,w=Value.ref a/\Den H (.ref a) e/\eqD e (.tup r0)=true)) by simp,k2]
  exact q
end L2
namespace MT
open PySem
noncomputable abbrev kwD(d:Value):List (Str × Value):=[(Str.ofString "default",d)]
section
variable {prog:Program}{w:World}{A:Around}{R:Result->Shared->Prop}{It:Addr}{fp wr:List Addr}{n:Nat}{Pr:Nat->Value->Prop}{Sx:Nat->Heap->Prop}
end
section
variable {prog:Program}{w:World}{A:Around}{E:Value->Shared->Prop}{s:Shared}
theorem Hr{id:String}{b:Builtin}{args:List Value}{kw:List (Str × Value)}{Q:Value->Shared->Prop}(h1:builtinKind id=none)(h2:plainId id=true)(h3:entryFor table id=some b)(h4:argsOk id ⟨args,kw⟩)
  (h:wpAny (model prog w) A.in1 (b ⟨args,kw⟩) (fun fin s'=>match fin with
   | .done f=>(match (Except.ok f:Result) with | .ok (.ret v)=>Q v s' | .ok _=>False | .error e=>E e s')
   | .again c'=>c'.quiet=true/\codeAny (model prog w) A c' (fun r s'=>match r with | .ok (.ret v)=>Q v s' | .ok _=>False | .error e=>E e s') s') E s):wpAny (model prog w) A (call (.builtin id) args kw) Q E s:=by
 refine wpAny_call (codeAny_call_builtin h2 h3 ?_)
 simp only [checkBuiltinCall,h1]
 cases e:Manifest.signature? id with
 | none=>exact wpAny_pure h
 | some sg =>
  have h4':Bind.checkArgs id sg ⟨args,kw⟩=pure ():=by simpa only [argsOk,e] using h4
  simp only [h4']
  exact wpAny_pure h
end
end MT
namespace MU
open PySem
theorem Kl(a:Value):argsOk "min" ⟨[a],[]⟩:=by
 unfold argsOk
 kernel_rfl
section
variable {prog:Program}{w:World}{A:Around}{R:Result->Shared->Prop}{It:Addr}{fp wr:List Addr}{n:Nat}{Pr:Nat->Value->Prop}{Sx:Nat->Heap->Prop}
theorem nm:(toString "min" ++ toString ".loop" : String) = "min.loop":=by decide
theorem on(W:Walks prog w A.in1 It fp wr n Pr Sx)(bt:Nat->Nat->Bool){base:Heap}(cm:∀ i j vi vj (s:Shared) (Q:Value->Shared->Prop) (E:Value->Shared->Prop),(∀ b o,base.get? b=some o->s.heap.get? b=some o)->Pr i vi->Pr j vj->Q (.bool (bt i j)) s->wpAny (model prog w) A.in1 (richCompare .Lt vi vj) Q E s)(B:Addr)(nB:B ∉ fp)(hbw:∀ b o,base.get? b=some o->b ∉ wr/\b≠B) :
  ∀(k j:Nat)(s:Shared)(best:Value)(c:Nat),n - (j+1)=k->j+1<=n->Sx (j+1) s.heap->Pr (argBest bt j) best ->
  s.heap.get? B=some { cls:=.type "list",dict:=none,data:=.seq #[best,best] c,slots:=#[] }->(∀ b o,base.get? b=some o->s.heap.get? b=some o) ->
  (∀ v h' tk,Pr (argBest bt (n - 1)) v->(∀ b o,b ∉ wr->b≠B->s.heap.get? b=some o->h'.get? b=some o)->R (.ok (.ret v)) { s with heap:=h',toks:=tk }) ->
  codeAny (model prog w) A (.builtin "min.loop" ⟨[.ref It,.none,.ref B],[]⟩) R s:=by
 have nW:B ∉ wr:=fun z=>nB (W.sub _ z)
 intro k
 induction k with
 | zero =>
  intro j s best c ek ej st pb eB kb fin
  have en:j+1=n:=by omega
  refine codeAny_builtin PySem.F.entry_min_loop ?_
  rw [Around.under_plainId (PySem.F.plain_min_loop) _]
  show wpAny _ A.in1 (seqItems? (.ref B) >>= _) _ _ s
  refine wpAny_bind (wpAny_seqItems eB rfl ?_)
  show wpAny _ A.in1 (tryCatch (pyNext (.ref It)) _ >>= _) _ _ s
  refine wpAny_bind (wpAny_tryCatch (W.done s _ _ (en ▸ st) fun h' tk kp=>?_))
  have eB':=kp B _ nW eB
  show wpAny _ A.in1 (updateSeq B (fun _=>#[]) >>= _) _ _ _
  refine wpAny_bind ?_
  refine wpAny_updateSeq eB' rfl (wpAny_bind (wpAny_letGo (wpAny_pure ?_)))
  exact fin best _ tk (by rw [← en];exact pb) fun b o nb nS e=>(Heap.get?_update_other _ _ (Ne.symm nS)).trans (kp b o nb e)
 | succ k ih =>
  intro j s best c ek ej st pb eB kb fin
  have lt:j+1 < n:=by omega
  refine codeAny_builtin PySem.F.entry_min_loop ?_
  rw [Around.under_plainId (PySem.F.plain_min_loop) _]
  show wpAny _ A.in1 (seqItems? (.ref B) >>= _) _ _ s
  refine wpAny_bind (wpAny_seqItems eB rfl ?_)
  show wpAny _ A.in1 (tryCatch (pyNext (.ref It)) _ >>= _) _ _ s
  refine wpAny_bind (wpAny_tryCatch (W.item (j+1) s _ _ lt st fun v h' tk pv st' kp=>?_))
  have eB':=kp B _ nW eB
  show wpAny _ A.in1 (tryCatch (holding [v,v] (richCompare .Lt v best >>= _)) _ >>= _) _ _ _
  refine wpAny_bind (wpAny_tryCatch (wpAny_holding (wpAny_bind (cm (j+1) (argBest bt j) v best _ _ _ (fun b o e=>kp b o (hbw b o e).1 (kb b o e)) pv pb ?_))))
  refine wpAny_bind (wpAny_holding (wpAny_truthy_bool ?_))
  refine wpAny_bind (wpAny_letGo (wpAny_pure ?_))
  cases eb:bt (j+1) (argBest bt j) with
  | true =>
   rw [if_pos rfl]
   refine wpAny_bind ?_
   refine wpAny_updateSeq eB' rfl (wpAny_bind (wpAny_letGo ?_))
   rw [nm]
   refine wpAny_pure ⟨plainId_quiet PySem.F.plain_min_loop _,ih (j+1) _ v _ (by omega) lt (W.frame _ _ _ st' fun b bf o e=>?_) (by simp only [argBest,eb,if_true];exact pv) (Heap.get?_update_self _ eB' rfl) (fun b o e=>(Heap.get?_update_other _ _ (Ne.symm (hbw b o e).2)).trans (kp b o (hbw b o e).1 (kb b o e))) fun v' h2 tk2 pv' kp2=>?_⟩
   ·exact (Heap.get?_update_other _ _ (fun z:B=b=>nB (by rw [z];exact bf))).trans e
   ·exact fin v' h2 tk2 pv' fun b o nb nS e=>kp2 b o nb nS ((Heap.get?_update_other _ _ (Ne.symm nS)).trans (kp b o nb e))
  | false =>
   rw [if_neg Bool.false_ne_true]
   refine wpAny_bind (wpAny_letGo ?_)
   rw [nm]
   refine wpAny_pure ⟨plainId_quiet PySem.F.plain_min_loop _,ih (j+1) _ best c (by omega) lt st' (by simp only [argBest,eb,Bool.false_eq_true,if_false];exact pb) eB' (fun b o e=>kp b o (hbw b o e).1 (kb b o e)) fun v' h2 tk2 pv' kp2=>?_⟩
   exact fin v' h2 tk2 pv' fun b o nb nS e=>kp2 b o nb nS (kp b o nb e)
theorem begin_(W:Walks prog w A.in1 It fp wr n Pr Sx)(bt:Nat->Nat->Bool){base:Heap}(cm:∀ i j vi vj (s:Shared) (Q:Value->Shared->Prop) (E:Value->Shared->Prop),(∀ b o,base.get? b=some o->s.heap.get? b=some o)->Pr i vi->Pr j vj->Q (.bool (bt i j)) s->wpAny (model prog w) A.in1 (richCompare .Lt vi vj) Q E s)(B:Addr)(nB:B ∉ fp)(hbw:∀ b o,base.get? b=some o->b ∉ wr/\b≠B){s:Shared}{c:Nat}(hn:0 < n)(st:Sx 0 s.heap)
  (eB:s.heap.get? B=some { cls:=.type "list",dict:=none,data:=.seq #[] c,slots:=#[] })(kb:∀ b o,base.get? b=some o->s.heap.get? b=some o)
  (fin:∀ v h' tk,Pr (argBest bt (n - 1)) v->(∀ b o,b ∉ wr->b≠B->s.heap.get? b=some o->h'.get? b=some o)->R (.ok (.ret v)) { s with heap:=h',toks:=tk }) :
  codeAny (model prog w) A (.builtin "min.loop" ⟨[.ref It,.none,.ref B],[]⟩) R s:=by
 have nW:B ∉ wr:=fun z=>nB (W.sub _ z)
 refine codeAny_builtin PySem.F.entry_min_loop ?_
 rw [Around.under_plainId (PySem.F.plain_min_loop) _]
 show wpAny _ A.in1 (seqItems? (.ref B) >>= _) _ _ s
 refine wpAny_bind (wpAny_seqItems eB rfl ?_)
 show wpAny _ A.in1 (tryCatch (pyNext (.ref It)) _ >>= _) _ _ s
 refine wpAny_bind (wpAny_tryCatch (W.item 0 s _ _ hn st fun v h' tk pv st' kp=>?_))
 have eB':=kp B _ nW eB
 show wpAny _ A.in1 (updateSeq B (fun _=>#[v,v]) >>= _) _ _ _
 refine wpAny_bind ?_
 refine wpAny_updateSeq eB' rfl ?_
 rw [nm]
 refine wpAny_pure ⟨plainId_quiet PySem.F.plain_min_loop _,on W bt cm B nB hbw _ 0 _ v _ rfl hn (W.frame _ _ _ st' fun b bf o e=>?_) pv (Heap.get?_update_self _ eB' rfl) (fun b o e=>(Heap.get?_update_other _ _ (Ne.symm (hbw b o e).2)).trans (kp b o (hbw b o e).1 (kb b o e))) fun v' h2 tk2 pv' kp2=>?_⟩
 ·exact (Heap.get?_update_other _ _ (fun z:B=b=>nB (by rw [z];exact bf))).trans e
 ·exact fin v' h2 tk2 pv' fun b o nb nS e=>kp2 b o nb nS ((Heap.get?_update_other _ _ (Ne.symm nS)).trans (kp b o nb e))
end
section
variable {prog:Program}{w:World}{A:Around}{E:Value->Shared->Prop}{s:Shared}
theorem call{x:Value}{Q:Value->Shared->Prop}
  (h:wpAny (model prog w) A.in1 (pyIter x) (fun it s2=>∃ I fp wr n Pr Sx bt,it=.ref I/\Walks prog w A.in1 I fp wr n Pr Sx/\Sx 0 s2.heap/\(∀ b∈fp,b < s2.heap.objs.size)/\(∃ base:Heap,(∀ i j vi vj (s:Shared) (Q:Value->Shared->Prop) (E:Value->Shared->Prop),(∀ b o,base.get? b=some o->s.heap.get? b=some o)->Pr i vi->Pr j vj->Q (.bool (bt i j)) s->wpAny (model prog w) A.in1 (richCompare .Lt vi vj) Q E s)/\(∀ b o,base.get? b=some o->b ∉ wr/\s2.heap.get? b=some o)) /\
   0 < n /\
   (∀ v h' tk,Pr (argBest bt (n - 1)) v->(∀ b o,b ∉ wr->s2.heap.get? b=some o->h'.get? b=some o)->Q v { s2 with heap:=h',toks:=tk })) E s) :
  wpAny (model prog w) A (PySem.call (.builtin "min") [x] ([])) Q E s:=by
 refine MT.Hr PySem.F.kind_min PySem.F.plain_min PySem.F.entry_min (Kl _) ?_
 show wpAny _ A.in1 (Builtin.Builtins.bindParams "min" ["key","default"] 0 ⟨[],[]⟩ >>= _) _ _ s
 refine wpAny_bind (wpAny_of_eq (show Builtin.Builtins.bindParams "min" ["key","default"] 0 ⟨[],[]⟩=pure [none,none] from rfl) ?_)
 refine wpAny_bind (wpAny_pure ?_)
 refine wpAny_bind (wpAny_mono h (fun it s2 h2=>?_) fun _ _ e=>e)
 obtain⟨I,fp,wr,n,Pr,Sx,bt,rfl,W,st,hf,⟨base,cm,hb⟩,q0,q1⟩:=h2
 refine wpAny_bind (wpAny_newObj_type ?_)
 have nB:s2.heap.objs.size ∉ fp:=fun z=>Nat.lt_irrefl _ (hf _ z)
 rw [nm]
 refine wpAny_pure ⟨plainId_quiet PySem.F.plain_min_loop _,begin_ W bt cm s2.heap.objs.size nB (fun b o e=>⟨(hb b o e).1,Nat.ne_of_lt (Heap.lt_size (hb b o e).2)⟩) q0 (W.frame _ _ _ st fun b _ o e=>Heap.get?_push_of_some _ e) (Heap.get?_push_size _ rfl) (fun b o e=>Heap.get?_push_of_some _ (hb b o e).2) fun v h' tk pv kp=>?_⟩
 ·exact q1 v h' tk pv fun b o nb e=>kp b o nb (Nat.ne_of_lt (Heap.lt_size e)) (Heap.get?_push_of_some _ e)
end
end MU
namespace L2
open PySem PySem.Spec PyProof.Rows
theorem lg(ds:List D):∀ k j,j<=k->argBest (fun i k=>dlt (ds.getD i .non) (ds.getD k .non)) k<=k/\dlt (ds.getD j .non) (ds.getD (argBest (fun i k=>dlt (ds.getD i .non) (ds.getD k .non)) k) .non)=false
 | 0,j,h=>by
  have:j=0:=by omega
  subst this
  exact⟨Nat.le_refl _,nY _⟩
 | k+1,j,h=>by
  have ih0:=(lg ds k k (Nat.le_refl _)).1
  show (if dlt (ds.getD (k+1) .non) (ds.getD (argBest _ k) .non)=true then k+1 else argBest _ k)<=k+1/\dlt _ (ds.getD (if dlt (ds.getD (k+1) .non) (ds.getD (argBest _ k) .non)=true then k+1 else argBest _ k) .non)=false
  by_cases hb:dlt (ds.getD (k+1) .non) (ds.getD (argBest (fun i k=>dlt (ds.getD i .non) (ds.getD k .non)) k) .non)=true
  ·rw [if_pos hb]
   refine⟨Nat.le_refl _,?_⟩
   rcases Nat.lt_or_ge k j with hj | hj
   ·have:j=k+1:=by omega
    subst this
    exact nY _
   ·have ih:=(lg ds k j hj).2
    cases hc:dlt (ds.getD j .non) (ds.getD (k+1) .non) with
    | false=>rfl
    | true=>rw [uY _ _ _ hc hb] at ih;cases ih
  ·rw [if_neg hb]
   refine⟨Nat.le_succ_of_le ih0,?_⟩
   rcases Nat.lt_or_ge k j with hj | hj
   ·have:j=k+1:=by omega
    subst this
    exact Bool.eq_false_iff.mpr hb
   ·exact (lg ds k j hj).2
section
variable {X:Cx}
noncomputable def JG(K:W.Frag)(l:Addr)(vs:List V)(ds:List D)(H:Hp):Prop:=SqL K H l vs/\cj H vs ds/\(∀ d∈ds,∀ e∈ds,Sim d e)/\∀ d∈ds,jf 50 d
theorem Ec{pins:List (Addr × Obj)}{σ:St}{H:Hp}{s:Shared}{l:Addr}{vs:List V}{ds:List D}(hc:X.calm=true)(hu:X.A.units+64 < cLine)(I:Inv X pins σ H s)(h:JG X.K l vs ds H) :
  ∃(its:List Value),Vals vs its/\s.heap.IsList l its.toArray/\its.length=ds.length /\
   (∀ i j vi vj (s':Shared) (Q:Value->Shared->Prop) (E:Value->Shared->Prop),(∀ b o,s.heap.get? b=some o->s'.heap.get? b=some o)->its.toArray[i]?=some vi->its.toArray[j]?=some vj->Q (.bool (dlt (ds.getD i .non) (ds.getD j .non))) s'->wpAny (model X.prog X.w) X.A.in1 (richCompare .Lt vi vj) Q E s'):=by
 obtain⟨hq,hD,hS,hh⟩:=h
 obtain⟨its,rv,pl,hz⟩:=I.list hq
 have l1:=hD.len
 have l2:=rv.length
 refine⟨its,rv,pl.isList,by omega,fun i j vi vj s' Q E kp hi hj q=>?_⟩
 rw [List.getElem?_toArray] at hi hj
 have hil:=(List.getElem?_eq_some_iff.mp hi).1
 have hjl:=(List.getElem?_eq_some_iff.mp hj).1
 obtain⟨x,v,e1,e2,e3,e4,e5,e6⟩:=at3 (i:=i) hD rv (by omega)
 obtain⟨y,u,f1,f2,f3,f4,f5,f6⟩:=at3 (i:=j) hD rv (by omega)
 rw [hi] at e2
 rw [hj] at f2
 cases e2
 cases f2
 exact (Jj I (s':=s') kp 50 _ _ _ _ _ _ _ (hh _ e6) (hh _ f6) (hS _ e6 _ f6) e4 f4 e5 f5 (by simp only [Around.in1];omega)).2 _ _ _ _ q
noncomputable def Mx(K:W.Frag):List V->Hp->VK->Prop:=fun xs H Q=>∃(l:Addr)(vs:List V)(ds:List D),xs=[.ref l]/\JG K l vs ds H/\ds≠[]/\∀(i:Nat)(v:V)(d:D),vs[i]?=some v->ds[i]?=some d->(∀ e∈ds,dlt e d=false)->Q v H
theorem yc(hc:X.calm=true)(hu:X.A.units+64 < cLine):gA X (.builtin "min") (Mx X.K):=by
 intro pins s σ H xs us Q I r h
 obtain⟨l,vs,ds,rfl,hm,hne,q⟩:=h
 obtain⟨u,rfl,rx⟩:=vals1 r
 cases rx
 obtain⟨its,rv,pl,hl,cm⟩:=Ec hc hu I hm
 have hd:X.A.in1.handled=none:=I.ok.hd hc
 obtain⟨o,eo,_⟩:=id pl
 have ll:l < s.heap.objs.size:=Heap.lt_size eo
 have hpos:0 < ds.length:=List.length_pos_iff.mpr hne
 have ev:its.toArray.size=ds.length:=by rw [List.size_toArray,hl]
 refine MU.call (wpAny_pyIter_list pl ?_)
 have I3:Inv X pins σ H { s with heap:=s.heap.push { cls:=.type "list_iterator",data:=.fields #[.ref l,.int 0 0] } }:=I.kept (t':=s.toks) fun b o q=>Heap.get?_push_of_some _ q
 obtain⟨f0,f1,f2,f3,f4,f5⟩:=I.fpOk (b:=s.heap.objs.size) (Nat.le_refl _) I.fresh
 refine⟨s.heap.objs.size,_,_,_,_,_,fun i k=>dlt (ds.getD i .non) (ds.getD k .non),rfl,Walks.list hd s.heap.objs.size l (Nat.ne_of_lt ll) its.toArray,⟨⟨_,Heap.get?_push_size _ rfl,rfl,rfl⟩,pl.push _⟩,fun b hb=>?_,⟨s.heap,cm,fun b o e=>⟨?_,Heap.get?_push_of_some _ e⟩⟩,by rw [ev];exact hpos,fun v h' tk hv kp=>?_⟩
 ·show b < (s.heap.push _).objs.size
  rw [Heap.size_push]
  rcases List.mem_cons.mp hb with rfl | hb
  ·exact Nat.lt_succ_self _
  ·rw [List.mem_singleton.mp hb]
   exact Nat.lt_succ_of_lt ll
 ·exact fun z=>absurd (List.mem_singleton.mp z) (Nat.ne_of_lt (Heap.lt_size e))
 ·have hb:=lg ds (ds.length - 1)
  rw [ev] at hv
  have hle:=(hb _ (Nat.le_refl _)).1
  generalize argBest (fun i k=>dlt (ds.getD i .non) (ds.getD k .non)) (ds.length - 1)=b at hv hb hle
  obtain⟨hv',_⟩:its.toArray[b]?=some v/\True:=⟨hv,trivial⟩
  rw [List.getElem?_toArray] at hv'
  obtain⟨x,v',e1,e2,e3,e4,e5,e6⟩:=at3 (i:=b) hm.2.1 rv (by omega)
  rw [hv'] at e2
  cases e2
  refine⟨x,H,I3.turned (it:=s.heap.objs.size) (fun b o hb e=>kp b o (by simpa using hb) e) f0 f1 f3 f4 f5,e5,q b x (ds.getD b .non) e1 ?_ fun e he=>?_⟩
  ·have:b < ds.length:=by omega
   rw [List.getD_eq_getElem?_getD,List.getElem?_eq_getElem this]
   rfl
  ·obtain⟨j,hj,ej⟩:=List.getElem_of_mem he
   have:=(hb j (by omega)).2
   rw [List.getD_eq_getElem?_getD,List.getElem?_eq_getElem hj] at this
   rw [← ej]
   exact this
end
noncomputable abbrev Lk:=List Nat × List Nat
noncomputable abbrev Stp:=List Lk
noncomputable def nD(xs:List Nat):D:=.tup (xs.map fun i=>D.int (i:Nat))
noncomputable def lkD(p:Lk):D:=.tup [nD p.1,nD p.2]
noncomputable def stD(s:Stp):D:=.tup (s.map lkD)
noncomputable def sz1(s:Stp):Nat:=(s.map fun p=>p.1.length).sum
noncomputable def sz2(s:Stp):Nat:=(s.map fun p=>p.2.length).sum
noncomputable def shapes:List (Nat × Nat):=[(0,1),(1,0),(1,1),(1,2),(1,3),(2,1),(3,1)]
noncomputable def one(i j:Nat)(s:Nat × Nat):Stp:=[(List.range' i s.1,List.range' j s.2)]
noncomputable def crs(i j:Nat):Stp:=[([i],[j+1]),([i+1],[j])]
noncomputable def bw(i j m n:Nat):List Stp:=(shapes.filter fun s=>decide (i+s.1<=m/\j+s.2<=n)).map (one i j)++if i+2<=m/\j+2<=n then [crs i j] else []
theorem step_at{i j m n:Nat}{s:Stp}(h:s∈bw i j m n):i+sz1 s<=m/\j+sz2 s<=n/\1<=sz1 s+sz2 s:=by
 rcases List.mem_append.mp h with h | h
 ·obtain⟨p,hp,rfl⟩:=List.mem_map.mp h
  obtain⟨hm,hc⟩:=List.mem_filter.mp hp
  have hc:=of_decide_eq_true hc
  have h1:1<=p.1+p.2:=(by decide:∀ p∈shapes,1<=p.1+p.2) p hm
  have e1:sz1 (one i j p)=p.1:=by simp [sz1,one]
  have e2:sz2 (one i j p)=p.2:=by simp [sz2,one]
  rw [e1,e2]
  exact⟨hc.1,hc.2,h1⟩
 ·split at h
  ·rename_i hc
   rw [List.mem_singleton.mp h]
   have e1:sz1 (crs i j)=2:=rfl
   have e2:sz2 (crs i j)=2:=rfl
   rw [e1,e2]
   exact⟨hc.1,hc.2,by decide⟩
  ·cases h
theorem HN{a:List Nat}:∀ {b:List Nat},(a.map fun i=>D.int (i:Nat))=(b.map fun i=>D.int (i:Nat))->a=b:=by
 intro b h
 induction a generalizing b with
 | nil =>
  cases b with
  | nil=>rfl
  | cons _ _=>cases h
 | cons x a ih =>
  cases b with
  | nil=>cases h
  | cons y b =>
   rw [List.map_cons,List.map_cons] at h
   injection h with h1 h2
   have:=D.int.inj h1
   rw [ih h2,show x=y by omega]
theorem Fx{a b:List Nat}(h:nD a=nD b):a=b:=HN (D.tup.inj h)
theorem Gd{a b:Lk}(h:lkD a=lkD b):a=b:=by
 have h:=D.tup.inj h
 injection h with h1 h2
 injection h2 with h2
 exact Prod.ext (Fx h1) (Fx h2)
theorem yM:∀ {a b:Stp},stD a=stD b->a=b
 | [],[],_=>rfl
 | x :: a,y :: b,h=>by
  have h:=D.tup.inj h
  rw [List.map_cons,List.map_cons] at h
  injection h with h1 h2
  rw [Gd h1,yM (congrArg D.tup h2)]
 | [],_ :: _,h=>by cases D.tup.inj h
 | _ :: _,[],h=>by cases D.tup.inj h
noncomputable abbrev Rst:=Nat->Nat->Int × Option Stp
noncomputable def tot(cost:Stp->Int)(R:Rst)(i j:Nat)(s:Stp):Int:=cost s+(R (i+sz1 s) (j+sz2 s)).1
noncomputable def chD(cost:Stp->Int)(R:Rst)(i j:Nat)(s:Stp):D:=.tup [.int (tot cost R i j s),stD s,.tup [.int ((i+sz1 s:Nat):Int),.int ((j+sz2 s:Nat):Int)]]
structure KZ(m n:Nat)(cost:Stp->Int)(R:Rst):Prop where
 nil:∀ i j,i<=m->j<=n->bw i j m n=[]->R i j=(0,none)
 cons:∀ i j,i<=m->j<=n->bw i j m n≠[]->∃ s∈bw i j m n,R i j=(tot cost R i j s,some s)/\∀ s'∈bw i j m n,dlt (chD cost R i j s') (chD cost R i j s)=false
inductive Gi(R:Rst):Nat->Nat->List Stp->Prop
 | stop {i j:Nat} (h:(R i j).2=none):Gi R i j []
 | go {i j:Nat}{s:Stp}{w:List Stp} (h:(R i j).2=some s) (k:Gi R (i+sz1 s) (j+sz2 s) w):Gi R i j (s :: w)
inductive KPs(K:W.Frag):List Addr->List (Nat × Nat)->Prop
 | nil:KPs K [] []
 | cons {a:Addr}{p:Nat × Nat}{as:List Addr}{ps:List (Nat × Nat)} (h:KTup K a [.int (p.1:Nat),.int (p.2:Nat)]) (r:KPs K as ps):KPs K (a :: as) (p :: ps)
noncomputable def yG(K:W.Frag)(t:Addr)(ps:List (Nat × Nat)):Prop:=∃ as:List Addr,KTup K t (as.map V.ref)/\KPs K as ps
theorem Ay{K:W.Frag}{t:Addr}{as:List Addr}{ps:List (Nat × Nat)}(h:KTup K t (as.map V.ref))(r:KPs K as ps):yG K t ps:=⟨as,h,r⟩
theorem KPs.len{K:W.Frag}{as:List Addr}{ps:List (Nat × Nat)}(h:KPs K as ps):as.length=ps.length:=by
 induction h with
 | nil=>rfl
 | cons _ _ ih=>rw [List.length_cons,List.length_cons,ih]
theorem KPs.at_{K:W.Frag}{as:List Addr}{ps:List (Nat × Nat)}(h:KPs K as ps){i:Nat}{a:Addr}{p:Nat × Nat}(ha:as[i]?=some a)(hp:ps[i]?=some p):KTup K a [.int (p.1:Nat),.int (p.2:Nat)]:=by
 induction h generalizing i with
 | nil=>cases ha
 | cons h _ ih =>
  cases i with
  | zero =>
   cases ha
   cases hp
   exact h
  | succ i=>exact ih ha hp
noncomputable def Oq(H:Hp):V->Prop
 | .str x=>x.length<=1000
 | .non=>True
 | .bl _=>True
 | .int _=>True
 | .ref p=>(∃ xs,H p=some (.lst xs))\/(∃ xs,H p=some (.tup xs))\/∃ kvs,H p=some (.dK kvs)
 | _=>False
noncomputable def notStar:Expr->Bool
 | .Starred ..=>false
 | _=>true
theorem zP{e:Expr}{es:List Expr}{env:Env}(h:notStar e=true):starEach (e :: es) env=(false,eval e env) :: starEach es env:=by
 cases e <;> first | rfl | cases h
theorem O4{X:Cx}{e:Expr}{es:List Expr}{te:TE}{t:TA}(ha:PE X e te)(hr:PA X es t)(h:notStar e=true:=by rfl):PA X (e :: es) (Gf te t):=aj ha hr (zP h)
structure QSs(X:Cx)(st:List Stmt)(t:TS):Prop where
 h:PSs X st t
structure QS(X:Cx)(st:Stmt)(t:TS):Prop where
 h:PS X st t
structure QE(X:Cx)(e:Expr)(t:TE):Prop where
 h:PE X e t
structure QA(X:Cx)(es:List Expr)(t:TA):Prop where
 h:PA X es t
theorem cL{X:Cx}{st:Stmt}{rest:List Stmt}{t u:TS}(h1:QS X st t)(h2:QSs X rest u):QSs X (st :: rest) (KH t u):=⟨au h1.h h2.h⟩
theorem J3{X:Cx}{es:List Expr}{t:TA}{pos:Pos}(h:QA X es t):QE X (.List es pos) (Nb t):=⟨cQ h.h⟩
theorem Ez{X:Cx}:QA X [] Ni:=⟨ao⟩
theorem Ii{X:Cx}{e:Expr}{es:List Expr}{te:TE}{t:TA}(ha:QE X e te)(hr:QA X es t)(h:notStar e=true:=by rfl):QA X (e :: es) (Gf te t):=⟨O4 ha.h hr.h h⟩
structure QI(X:Cx)(tg e:Expr)(t:TI):Prop where
 h:PI X tg e t
theorem xq{X:Cx}{st:Stmt}{t:TS}(h1:QS X st t):QSs X [st] t:=⟨aC h1.h⟩
theorem Jp{X:Cx}{x:Str}{k n:Nat}{ps:List Str}{sp:Sp}{e:Expr}{es:List Expr}{t:TA}{p pos:Pos}(C:Cal X.prog X.w X.K X.mg X.base x k ps sp)(hr:kJ n X.A)(hk:k<=n)(hg:Gl X x)(ha:QA X (e :: es) t)
  (hdb:(x == ("__debug__" : Str))=false:=by decide)(he:starEach (e :: es) X.env=(false,eval e X.env) :: starEach es X.env:=by rfl)(hpl:(backTo pos (starEach es X.env)).any (·.1)=false:=by rfl) :
  QE X (.Call (.Name x p) (e :: es) [] pos) (Hh sp [] E0 t):=⟨aG C hr hk hg ha.h hdb he hpl⟩
theorem Iw{X:Cx}{tg e:Expr}{te:TE}{g:TG}{pos:Pos}(he:QE X e te)(hg:PG X tg g)(hs:swapsWithSole [tg] e pos.line X.env=pure false:=by rfl)(hw:swappedStores [tg] e X.env=pure none:=by rfl)
  (h1:(assignEach [tg] X.env).map (·.2)=[assign tg X.env]:=by rfl):QS X (.Assign [tg] e pos) (Jf te g):=⟨dg he.h hg hs hw h1⟩
theorem Lh{X:Cx}{r:R2}{a b:Expr}{ta tb:TE}{pos:Pos}(hr:IxR X r)(ha:QE X a ta)(hb:QE X b tb)(hs:yO b):QE X (.Subscript a b pos) (tOp r ta tb):=⟨bx hr ha.h hb.h hs⟩
theorem qex{X:Cx}{st:List Stmt}{A:TS->Prop}(h:∃ t,QSs X st t/\A t):∃ t,PSs X st t/\A t:=by
 obtain⟨t,a,b⟩:=h
 exact⟨t,a.h,b⟩
end L2
namespace M01
open PySem
structure Ce(n:Nat)(q:S):Prop where
 a:∀ r∈q.1,r.length<=n/\∀ c∈r,isW c=true
 b:q.2.length<=n
 c:∀ c∈q.2,isW c=true
theorem Ce.stp{n:Nat}{q:S}(h:Ce n q)(c:Nat):Ce (n+1) (stp q c):=by
 unfold M01.stp
 split
 ·rename_i hc
  refine⟨fun r hr=>⟨Nat.le_succ_of_le (h.a r hr).1,(h.a r hr).2⟩,?_,?_⟩
  ·have:=h.b
   simp only [List.length_append,List.length_cons,List.length_nil]
   omega
  ·intro d hd
   rcases List.mem_append.mp hd with z | z
   ·exact h.c d z
   ·have:d=c:=by simpa using z
    rw [this];exact hc
 ·split
  ·exact⟨fun r hr=>⟨Nat.le_succ_of_le (h.a r hr).1,(h.a r hr).2⟩,Nat.le_succ_of_le h.b,h.c⟩
  ·refine⟨fun r hr=>?_,Nat.zero_le _,fun d hd=>by cases hd⟩
   rcases List.mem_append.mp hr with z | z
   ·exact⟨Nat.le_succ_of_le (h.a r z).1,(h.a r z).2⟩
   ·have:r=q.2:=by simpa using z
    rw [this];exact⟨Nat.le_succ_of_le h.b,h.c⟩
theorem Ce.fold:∀(l:List Nat) {n:Nat}{q:S},Ce n q->Ce (n+l.length) (l.foldl M01.stp q)
 | [],_,_,h=>h
 | c :: l,n,q,h=>by
  have:=Ce.fold l (h.stp c)
  rw [List.length_cons,show n+(l.length+1)=n+1+l.length by omega]
  exact this
theorem HD{l:List Nat}{r:List Nat}(h:r∈wds l):r.length<=l.length/\∀ c∈r,isW c=true:=by
 have w:Ce (0+l.length) (scn l):=Ce.fold l ⟨fun r hr=>(by cases hr),Nat.le_refl _,fun c hc=>by cases hc⟩
 rw [Nat.zero_add] at w
 unfold wds fn at h
 split at h
 ·exact w.a r h
 ·rcases List.mem_append.mp h with z | z
  ·exact w.a r z
  ·have:r=(scn l).2:=by simpa using z
   rw [this];exact⟨w.b,w.c⟩
theorem J1{c:Nat}(h:isW c=true):c < 128:=by
 unfold isW at h
 simp only [Bool.or_eq_true,decide_eq_true_eq] at h
 omega
end M01
namespace Mine
open PySem L2 PyProof.Rows
noncomputable def top(i:Nat):Stmt:=PySem.Challenge.pw_twainkeep_k56_shown_by_a_grid.main.body.getD i (.Pass ⟨0,0,0,0⟩)
noncomputable abbrev jH:Stmt:=top 1
noncomputable abbrev lA:Stmt:=top 2
noncomputable abbrev fH:Stmt:=top 3
noncomputable abbrev lZ:Stmt:=top 4
noncomputable abbrev Js:Stmt:=top 6
noncomputable abbrev m9:Stmt:=top 7
noncomputable abbrev jz:Stmt:=top 8
noncomputable abbrev ou:Stmt:=top 9
noncomputable abbrev gB:Stmt:=top 10
noncomputable abbrev eN:Stmt:=top 11
noncomputable abbrev eU:Stmt:=top 12
noncomputable abbrev lF:Stmt:=top 15
noncomputable abbrev lM:Stmt:=top 16
noncomputable abbrev j4:Stmt:=top 17
noncomputable abbrev gj:Stmt:=top 18
noncomputable abbrev dM:Stmt:=top 19
noncomputable abbrev dD:Stmt:=top 20
noncomputable abbrev qN:Stmt:=top 21
noncomputable abbrev iB:Stmt:=top 28
noncomputable abbrev gn:Stmt:=top 29
noncomputable abbrev fO:Stmt:=top 30
noncomputable abbrev eX:Stmt:=top 31
noncomputable abbrev gq:Stmt:=top 32
noncomputable abbrev gJ:Stmt:=top 33
noncomputable abbrev jq:Stmt:=top 34
noncomputable abbrev fK:Stmt:=top 35
noncomputable abbrev lD:Stmt:=top 37
noncomputable abbrev dZ:Stmt:=top 38
noncomputable abbrev gw:Stmt:=top 39
noncomputable abbrev DK:Stmt:=top 41
noncomputable abbrev qj:Stmt:=top 42
noncomputable abbrev yq:Stmt:=top 43
noncomputable abbrev Di:Stmt:=top 44
noncomputable abbrev rz:Stmt:=top 45
noncomputable abbrev uZ:Stmt:=top 46
noncomputable abbrev mF:Stmt:=top 47
noncomputable abbrev u6:Stmt:=top 48
noncomputable abbrev uV:Stmt:=top 49
noncomputable abbrev qx:Stmt:=top 50
noncomputable abbrev mQ:Stmt:=top 51
noncomputable abbrev Ah:Stmt:=top 52
noncomputable abbrev uq:Stmt:=top 53
noncomputable abbrev sOn:Stmt:=top 54
noncomputable abbrev uO:Stmt:=top 55
noncomputable abbrev tU:Stmt:=top 56
noncomputable abbrev rE:Stmt:=top 57
noncomputable abbrev oE:Stmt:=top 58
noncomputable abbrev yp:Stmt:=top 59
noncomputable abbrev lE:Stmt:=top 60
noncomputable abbrev iG:Stmt:=top 61
noncomputable abbrev nu:Stmt:=top 62
noncomputable abbrev iJ:Stmt:=top 63
noncomputable abbrev ju:Stmt:=top 64
noncomputable abbrev KJ:Stmt:=top 65
noncomputable abbrev lH:Stmt:=top 66
noncomputable abbrev Dk:Stmt:=top 67
theorem aU{H H':Hp}{l:Addr}{o:HO}(s:Same H H')(h:H l=none):Same H (upd H' l o):=fun c u z=>by
 rw [aL (aF z h)]
 exact s c u z
theorem aZ{α:Type}{xs:List α}{i:Nat}(h:i < xs.length):xs[i]?=some xs[i]:=List.getElem?_eq_getElem h
theorem take_one{α:Type}{xs:List α}{i:Nat}{x:α}(h:xs[i]?=some x):xs.take (i+1)=xs.take i++[x]:=by rw [List.take_add_one,h];rfl
theorem Fw{xs:List Str}{i:Nat}(h:i < xs.length):(xs.map V.str)[i]?=some (.str xs[i]):=by rw [List.getElem?_map,aZ h];rfl
theorem int_at{xs:List Int}{i:Nat}(h:i < xs.length):(xs.map V.int)[i]?=some (.int (xs.getD i 0)):=by rw [List.getElem?_map,aZ h,List.getD_eq_getElem?_getD,aZ h];rfl
noncomputable def bM(b:Addr)(H:Hp):Prop:=∃(ns:List Int)(s:Int),H b=some (.lst ((ns++[s]).map V.int))/\ns.length<=64/\0<=s/\s < 2305843009213693951
theorem bM.same{b:Addr}{H H':Hp}(h:bM b H)(s:Same H H'):bM b H':=by
 obtain⟨ns,x,e,r⟩:=h
 exact⟨ns,x,s _ _ e,r⟩
theorem bM.ne{b c:Addr}{H:Hp}(h:bM b H)(hc:H c=none):c≠b:=by
 obtain⟨ns,x,e,r⟩:=h
 exact (aF e hc).symm
noncomputable def cY(b:Addr)(H H':Hp):Prop:=∀ c o,H c=some o->c≠b->H' c=some o
theorem cY.trans{b:Addr}{H H1 H2:Hp}(a:cY b H H1)(c:cY b H1 H2):cY b H H2:=fun d o e h=>c d o (a d o e h) h
theorem cY.of{b:Addr}{H H1:Hp}(s:Same H H1):cY b H H1:=fun c o e _=>s c o e
theorem cY.tup{b:Addr}{H H':Hp}(hp:bM b H)(o:cY b H H'):∀(c:Addr)(vs:List V),H c=some (.tup vs)->H' c=some (.tup vs):=fun c vs e=>by
 obtain⟨ns,x,e1,r⟩:=hp
 refine o c _ e fun z=>?_
 rw [z,e1] at e
 cases e
theorem cY.none{b c:Addr}{H H':Hp}(o:cY b H H')(hp':bM b H')(hc:H' c=none):H c=none:=by
 cases e:H c with
 | none=>rfl
 | some u =>
  have:=o c u e (hp'.ne hc)
  rw [hc] at this
  cases this
noncomputable def iu:Sp:=fun vs H Q _=>∃(b:Addr)(m:Int),vs=[.ref b,.int m]/\bM b H/\0 < m/\m < 2 ^ 64/\∀(r:Int)(H':Hp),bM b H'->cY b H H'->0<=r->r < m->Q (.int r) H'
noncomputable def Bt(K:W.Frag):Sp:=fun vs H Q _=>∃(a:Addr)(ms:List Int),vs=[.ref a]/\SqL K H a (ms.map V.int)/\ms.length<=63/\∀(l:Addr)(H':Hp),Same H H'->bM l H'->Q (.ref l) H'
theorem Om{α:Type}(x:α)(r:List α):ixN (x :: r).length 0=some 0:=by
 unfold ixN
 rw [if_pos (Int.le_refl 0),if_pos (by simp)]
 rfl
theorem Jb(n:Nat):seqIndex? 0 (n+1)=some 0:=by
 unfold seqIndex?
 simp
section
variable {P:Program}{w:World}{K:W.Frag}{mg:Str->Option Value}{base:Heap}
theorem Eo:aQ ["_law_pot","_law_many","_law_digit"] ["_law_pot","_law_many"] (aB DK):=⟨rfl,rfl,rfl,by decide +kernel,rfl,by decide +kernel,by decide +kernel⟩
theorem J2(h:Has K mg "_law_next" DK ["_law_pot","_law_many"])(Ph:mg "len" = none):Cal P w K mg base "_law_next" 1 ["_law_pot","_law_many"] iu:=by
 refine h.mk' Eo (fun vs H Q E hs=>?_) (fun f cdv A outer s H vs Q E hr hs=>?_)
 ·obtain⟨b,m,rfl,_⟩:=hs
  rfl
 obtain⟨b,m,rfl,⟨ns,s,e,hl,s0,s1⟩,m0,m1,k⟩:=hs
 refine⟨_,(au (cD (aW HJ (aJ aN rfl Ph PySem.boot_len (aj (pv 0) ao)) aA (bB _))
   (au (aR (i:=2) Eo.nd rfl (Or.inl rfl) (aP qL (bx aX (pv 0) aA (fun _ _=>rfl)) (pv 1)))
  (au (dg (aP lB (bx aX (pv 0) aA (fun _ _=>rfl)) (pv 1)) (rK (pv 0) aA set_list))
  (au (cD (aW dR (bx aX (pv 0) aA (fun _ _=>rfl)) aA (bB _))
   (aC (cI (cZ PySem.F.plainAttrs_list PySem.F.slot_list_pop PySem.F.type_list_pop Dt (pv 0) (aj aA ao))))
   bF)
  (aC (aV (pv 2))))))
   bF)
  (au (dg (aP qL (aP bA (aP iy (bx aX (pv 0) aA (fun _ _=>rfl)) aA) aA) aA) (rK (pv 0) aA set_list))
  (aC (aV (aP qL (aP lB (bx aX (pv 0) aA (fun _ _=>rfl)) aA) (pv 1)))))),?_⟩
 cases ns with
 | nil =>
  have e0:H b=some (.lst [.int s]):=e
  have hz:∀ x:Int,atI [V.int x] 0=some (.int x):=fun x=>cJ _ _
  refine⟨_,rfl,b,_,rfl,.inl (SqL.of e0),_,_,rfl,rfl,_,rfl,oZ ?_⟩
  refine⟨_,rfl,ixL (p:=b) rfl rfl (SqL.of e0) (hz s) (⟨ _,_,rfl,rfl,.inl ⟨by omega,by omega⟩,_,_,rfl,rfl,_,_,rfl,rfl,by show (0:Int) < 2305843009213693951;decide,_,rfl,b,_,_,0,rfl,rfl,e0,rfl,?_⟩)⟩
  have hr:=Int.emod_nonneg (s * 3935559000370003845+2691343689449507681) (show (2305843009213693951:Int)≠0 by decide)
  have hr2:=Int.emod_lt_of_pos (s * 3935559000370003845+2691343689449507681) (show (0:Int) < 2305843009213693951 by decide)
  have e3:(upd H b (.lst ([V.int s].set 0 (.int ((s * 3935559000370003845+2691343689449507681) % 2305843009213693951))))) b=some (.lst [.int ((s * 3935559000370003845+2691343689449507681) % 2305843009213693951)]):=ak
  have o3:cY b H (upd H b (.lst ([V.int s].set 0 (.int ((s * 3935559000370003845+2691343689449507681) % 2305843009213693951))))):=fun c o z h=>by
   rw [aL h]
   exact z
  generalize upd H b (.lst ([V.int s].set 0 (.int ((s * 3935559000370003845+2691343689449507681) % 2305843009213693951))))=H3 at e3 o3
  generalize (s * 3935559000370003845+2691343689449507681) % 2305843009213693951=s' at e3 hr hr2
  refine⟨_,rfl,ixL (p:=b) rfl rfl (SqL.of e3) (hz s') (⟨ _,_,rfl,rfl,⟨by decide,by decide⟩,_,rfl,_,_,rfl,rfl,m0,?_⟩)⟩
  exact k _ H3 ⟨[],s',e3,by decide,hr,hr2⟩ o3 (Int.emod_nonneg _ (by omega)) (Int.emod_lt_of_pos _ m0)
 | cons x r =>
  have e0:H b=some (.lst (.int x :: (r++[s]).map V.int)):=e
  have hz:∀(x:Int)(q:List V),atI (V.int x :: q) 0=some (.int x):=fun x q=>cJ _ _
  have hz2:=Om (V.int x) ((r++[s]).map V.int)
  have hlen:1 < (V.int x :: (r++[s]).map V.int).length:=by simp
  have hlr:r.length < 64:=by have:=hl;simp at this;omega
  refine⟨_,rfl,b,_,rfl,.inl (SqL.of e0),_,_,rfl,rfl,_,rfl,?_⟩
  refine cU (fun _=>?_) (fun z=>absurd (decide_eq_true (by omega)) z)
  refine⟨_,rfl,ixL (p:=b) rfl rfl (SqL.of e0) (hz x _) (⟨ _,rfl,_,_,rfl,rfl,m0,?_⟩)⟩
  have hr:=Int.emod_nonneg x (show m≠0 by omega)
  have hr2:=Int.emod_lt_of_pos x m0
  refine gN ⟨_,rfl,ixL (p:=b) rfl rfl (SqL.of e0) (hz x _) (⟨ _,rfl,_,_,rfl,rfl,⟨m0,m1⟩,_,rfl,b,_,_,0,rfl,rfl,e0,hz2,?_⟩)⟩
  have e3:(upd H b (.lst ((V.int x :: (r++[s]).map V.int).set 0 (.int (x / m))))) b=some (.lst (.int (x / m) :: (r++[s]).map V.int)):=ak
  have o3:cY b H (upd H b (.lst ((V.int x :: (r++[s]).map V.int).set 0 (.int (x / m))))):=fun c o z h=>by
   rw [aL h]
   exact z
  generalize upd H b (.lst ((V.int x :: (r++[s]).map V.int).set 0 (.int (x / m))))=H3 at e3 o3
  generalize x / m=y at e3
  refine⟨_,rfl,ixL (p:=b) rfl rfl (SqL.of e3) (hz y _) (⟨ rfl,_,rfl,?_⟩)⟩
  refine cU (fun _=>?_) (fun _=>?_)
  ·refine⟨_,rfl,.inl ⟨rfl,_,SqL.of e3⟩,b,_,0,0,_,rfl,rfl,e3,by decide,by decide,Jb _,rfl,?_⟩
   refine⟨_,rfl,k _ _ ⟨r,s,ak,by omega,s0,s1⟩ (fun c o z h=>?_) hr hr2⟩
   rw [aL h]
   exact o3 c o z h
  ·exact⟨_,rfl,k _ H3 ⟨y :: r,s,e3,by simp;omega,s0,s1⟩ o3 hr hr2⟩
theorem scState:aQ ["_law_script","_law_seed","_law_cell"] ["_law_script"] (aB qj):=⟨rfl,rfl,rfl,by decide +kernel,rfl,by decide +kernel,by decide +kernel⟩
theorem G9(h:Has K mg "_law_state" qj ["_law_script"])(Qw:mg "abs" = none):Cal P w K mg base "_law_state" 1 ["_law_script"] (Bt K):=by
 refine h.mk' scState (fun vs H Q E hs=>?_) (fun f cdv A outer s H vs Q E hr hs=>?_)
 ·obtain⟨a,ms,rfl,_⟩:=hs
  rfl
 obtain⟨a,ms,rfl,hS,h63,k⟩:=hs
 refine⟨_,(au (aR (i:=1) scState.nd rfl (Or.inl rfl) aA)
  (au (cG PassesOwn.never rfl (bY (cH n6 (pv 0) cW (cX aA))) (aD (i:=2) scState.nd rfl (Or.inl rfl))
   (aC (aR (i:=1) scState.nd rfl (Or.inl rfl) (aP qL (aP bA (aP bA (aP iy (pv 1) aA) (aP qL (pv 2) (aP FN aA aA))) aA) aA))))
  (aC (aV (aP Bp (bD ["_law_script","_law_seed","_law_cell"] (aB qj) ["_law_cell"] [none] rfl rfl rfl (bY (cH n6 (pv 0) cW (cX aA))) rfl (by decide +kernel) (by decide +kernel) (by decide +kernel) (by decide +kernel) (hg:=fun cl C s H ex pn E=>(aD (i:=0) (by decide +kernel:(["_law_cell"]:List Str).Nodup) rfl (Or.inl rfl))) (ht:=fun cl C s H ex pn E=>(jG (aW Mq (aJ lG rfl Qw boot_abs (aj (pv 0) ao)) (aP FN aA aA) (bB _)))) (he:=fun cl C s H ex pn E=>(aJ lG rfl Qw boot_abs (aj (pv 0) ao)))) (cQ (aj (pv 1) ao))))))),?_⟩
 obtain⟨m2,em2,hm2⟩:=xU ms none (some 63)
 refine gN ⟨_,rfl,_,rfl,a,_,rfl,hS,fun lx hlx=>?_⟩
 rw [em2]
 have s2:=aq hlx (.lst (m2.map V.int))
 have e2:(upd H lx (.lst (m2.map V.int))) lx=some (.lst (m2.map V.int)):=ak
 generalize upd H lx (.lst (m2.map V.int))=H2 at s2 e2
 refine⟨lx,rfl,⟨_,SqL.of e2⟩,?_⟩
 refine iI (K:=K0) (a:=lx) (xs:=m2.map V.int) (fun i σ H3=>∃(v2:Option V)(s:Int),σ=[some (.ref a),some (.int s),v2]/\H3=H2/\0<=s/\s < 2305843009213693951) ⟨_,7,rfl,rfl,by decide,by decide⟩ ?_ ?_ ?_
 ·rintro i σ H3 _ ⟨_,_,_,rfl,_⟩
  exact SqL.of e2
 ·rintro i y σ H3 hi ⟨v2,s,rfl,rfl,a0,a1⟩
  obtain⟨c,rfl⟩:=vQ hi
  refine gN ⟨_,rfl,_,_,rfl,rfl,.inl ⟨by omega,by omega⟩,_,rfl,_,_,rfl,rfl,⟨by decide,by decide,by decide⟩,_,_,rfl,rfl,by show (0:Int) < 10 ^ 40;decide,_,_,rfl,rfl,_,_,rfl,rfl,_,_,rfl,rfl,by show (0:Int) < 2305843009213693951;decide,?_⟩
  exact⟨_,_,rfl,rfl,Int.emod_nonneg _ (by decide),Int.emod_lt_of_pos _ (by decide)⟩
 ·rintro σ H3 ⟨v2,s,rfl,rfl,a0,a1⟩
  refine⟨_,rfl,_,rfl,a,_,rfl,s2.seq hS,fun ly hly=>?_⟩
  rw [em2]
  have s3:=s2.trans (aq hly (.lst (m2.map V.int)))
  have e3:(upd H3 ly (.lst (m2.map V.int))) ly=some (.lst (m2.map V.int)):=ak
  generalize upd H3 ly (.lst (m2.map V.int))=H4 at s3 e3
  refine⟨ly,rfl,⟨_,SqL.of e3⟩,fun lc hlc=>?_⟩
  refine bL (J:=Itl K0 ly) (l:=lc) m2.length (fun i σ' H'=>∃(v:Option V)(ns:List Int),σ'=[v]/\Same H4 H'/\H' lc=some (.lst (ns.map V.int))/\ns.length<=i) ⟨none,[],rfl,aq hlc _,ak,Nat.le_refl _⟩ ?_ ?_
  ·rintro σ' H5 ⟨v,ns,rfl,s5,e5,hn⟩
   refine⟨⟨_,SqL.of (s5 _ _ e3),by rw [List.length_map];exact Nat.le_refl _⟩,?_⟩
   refine⟨_,rfl,smn 1,fun l6 hl6=>?_⟩
   have s6:=aq hl6 (.lst [.int s])
   refine⟨lc,l6,_,_,rfl,rfl,s6 _ _ e5,ak,?_,fun l7 hl7=>?_⟩
   ·rw [List.length_map]
    exact small (by simp;omega)
   ·refine k l7 _ (((s3.trans s5).trans s6).trans (aq hl7 _)) ⟨ns,s,?_,by omega,a0,a1⟩
    rw [ak,List.map_append]
    rfl
  ·rintro i σ' H5 hi ⟨v,ns,rfl,s5,e5,hn⟩
   have hat:(m2.map V.int)[i]?=some (.int m2[i]):=by rw [List.getElem?_map,aZ hi];rfl
   refine⟨⟨_,_,SqL.of (s5 _ _ e3),hat⟩,?_⟩
   rintro y H6 ⟨rfl,hy⟩
   have ey:y=.int m2[i]:=Option.some.inj ((hy _ (SqL.of (s5 _ _ e3))).symm.trans hat)
   subst ey
   refine gN ⟨_,rfl,_,rfl,_,_,rfl,rfl,⟨by decide,by decide,by decide⟩,_,_,rfl,rfl,_,rfl,?_⟩
   refine cU (fun _=>?_) (fun _=>?_)
   ·refine⟨_,rfl,_,rfl,_,e5,aK (by rw [List.length_map];omega),_,ns++[if m2[i] < 0 then -m2[i] else m2[i]],rfl,aU s5 hlc,?_,by rw [List.length_append,List.length_singleton];omega⟩
    rw [ak,List.map_append]
    rfl
   ·exact⟨_,ns,rfl,s5,e5,by omega⟩
end
noncomputable def CZ:Sp:=fun vs H Q _=>∃ c:Nat,vs=[.str ⟨#[c]⟩]/\Q (.bl (M01.isW c)) H
noncomputable def sI:Sp:=fun vs H Q _=>∃ x:Str,vs=[.str x]/\x.length<=1000/\∀(t:Addr)(H':Hp),Same H H'->H' t=some (.tup (((M01.wds x.cps.toList).map fun r=>(⟨r.toArray⟩:Str)).map V.str))->Q (.ref t) H'
section
open M01
variable {P:Program}{w:World}{K:W.Frag}{mg:Str->Option Value}{base:Heap}
theorem K5:aQ ["sign"] ["sign"] (aB Js):=⟨rfl,rfl,rfl,by decide +kernel,rfl,by decide +kernel,by decide +kernel⟩
theorem JK{c:Nat}{σ:L2.St}{H:Hp}{Q:VK}(h0:σ[0]?=some (some (.str ⟨#[c]⟩)))(q:Q (.bl (isW c)) H) :
  Lj (pI Dz Dz (tC (.str "a")) (vM 0) (tC (.str "z"))) (Lj (pI Dz Dz (tC (.str "A")) (vM 0) (tC (.str "Z"))) (pI Dz Dz (tC (.str "0")) (vM 0) (tC (.str "9")))) σ H Q:=by
 unfold isW at q
 refine jJ (a:=97) (b:=122) (by decide +kernel) (by decide +kernel) h0 ⟨_,rfl,?_⟩
 refine cU (fun h=>?_) (fun h=>?_)
 ·rw [h] at q
  exact q
 ·have h':decide (97<=c/\c<=122)=false:=by simpa using h
  rw [h',Bool.false_or] at q
  refine jJ (a:=65) (b:=90) (by decide +kernel) (by decide +kernel) h0 ⟨_,rfl,?_⟩
  refine cU (fun g=>?_) (fun g=>?_)
  ·rw [g] at q
   exact q
  ·have g':decide (65<=c/\c<=90)=false:=by simpa using g
   rw [g',Bool.false_or] at q
   exact jJ (a:=48) (b:=57) (by decide +kernel) (by decide +kernel) h0 q
theorem JW{f:Addr}{fd:FuncData}(F:Fun K "is_word_sign" "is_word_sign" Js f fd):oR P w K mg base CX0 1 f fd ["sign"] CZ:=by
 refine F.ok K5 (fun vs H Q E h=>?_) (fun cdv A outer s H vs Q E hr h=>?_)
 ·obtain⟨c,rfl,_⟩:=h
  rfl
 obtain⟨c,rfl,q⟩:=h
 refine⟨_,aC (aV (Jk (oG nG nG cB (pv 0) cB) (Jk (oG nG nG cB (pv 0) cB) (gM (oG nG nG cB (pv 0) cB))))),?_⟩
 exact JK rfl q
theorem yX:aQ ["text","spaced"] ["text"] (aB m9):=⟨rfl,rfl,rfl,by decide +kernel,rfl,by decide +kernel,by decide +kernel⟩
theorem Df{f fW:Addr}{fd fdW:FuncData}(F:Fun K "words_of" "words_of" m9 f fd)(GW:oR P w K mg base CX0 1 fW fdW ["sign"] CZ)(bW:Binds K fdW ["sign"] [])(kW:W.keepIn K (.ref fW)=true)(mW:mg "is_word_sign" = some (.ref fW))(mtuple:mg "tuple" = none) :
  oR P w K mg base CX0 2 f fd ["text"] sI:=by
 refine F.ok yX (fun vs H Q E h=>?_) (fun cdv A outer s H vs Q E hr h=>?_)
 ·obtain⟨x,rfl,_⟩:=h
  rfl
 obtain⟨x,rfl,hx,k⟩:=h
 refine⟨_,au (aR (i:=1) yX.nd rfl (Or.inl rfl) (Gr PySem.F.plainAttrs_str PySem.F.slot_str_join PySem.F.type_str_join xZ cB (aj
   (bD ["text","spaced"] (aB m9) ["sign"] [none] rfl rfl rfl (zj (pv 0)) rfl (by decide +kernel) (by decide +kernel) (by decide +kernel) (by decide +kernel)
    (fun cl C s H ex pn E=>aD (i:=0) (by decide +kernel:(["sign"]:List Str).Nodup) rfl (Or.inl rfl)) (fun cl C s H ex pn E=>bC)
    (fun cl C s H ex pn E=>uT (gG (Ac GW hr rfl mW kW bW .nil Jc (aj (pv 0) ao))) (pv 0) cB)) ao)))
  (aC (aV (bV gC rfl mtuple boot_tuple (aj (pJ PySem.F.plainAttrs_str PySem.F.slot_str_split PySem.F.type_str_split Dg (pv 1)) ao)))),?_⟩
 have hlen:x.cps.toList.length=x.length:=by simp [Str.length]
 refine⟨rfl,_,rfl,x,rfl,fun l hl=>?_⟩
 refine bL (J:=Its x) (l:=l) x.cps.size (fun i σ' H'=>∃ v:Option V,σ'=[v]/\H'=upd H l (.lst ((x.cps.toList.take i).map fun c=>V.str ⟨#[bl c]⟩))) ⟨none,rfl,rfl⟩ ?_ ?_
 ·rintro σ' H' ⟨v,rfl,rfl⟩
  have e:x.cps.toList.take x.cps.size=x.cps.toList:=by rw [← Array.length_toList];exact List.take_length
  rw [e]
  have em:(x.cps.toList.map fun c=>V.str ⟨#[bl c]⟩)=((x.cps.toList.map bl).map fun c=>(⟨#[c]⟩:Str)).map V.str:=by
   rw [List.map_map,List.map_map]
   rfl
  rw [em]
  refine⟨Nat.le_refl _,_,l,(x.cps.toList.map bl).map (fun c=>(⟨#[c]⟩:Str)),rfl,rfl,SqL.of ak,pN (by decide +kernel) _ (by rw [List.length_map,hlen];omega),?_⟩
  have ej:∀ y:Str,y=⟨#[]⟩->Str.join y ((x.cps.toList.map bl).map fun c=>(⟨#[c]⟩:Str))=⟨(x.cps.toList.map bl).toArray⟩:=fun y hy=>by
   subst hy
   exact join_ones _
  rw [ej _ (by decide +kernel)]
  refine⟨_,rfl,rfl,_,rfl,rfl,?_,fun l2 hl2=>?_⟩
  ·show (x.cps.toList.map bl).toArray.size<=100000
   rw [List.size_toArray,List.length_map,hlen]
   omega
  ·rw [yI]
   refine⟨l2,_,rfl,.inl ⟨SqL.of ak,fun t ht=>?_⟩⟩
   exact k t _ ((aq hl _).trans ((aq hl2 _).trans (aq ht _))) ak
 ·rintro i σ' H' hi ⟨v,rfl,rfl⟩
  refine⟨hi,?_⟩
  rintro y H'' ⟨rfl,c,hc,rfl⟩
  have ht:x.cps.toList.take (i+1)=x.cps.toList.take i++[c]:=by
   rw [List.take_add_one]
   have hc':x.cps.toList[i]?=some c:=by simpa using hc
   rw [hc']
   rfl
  have fin:∃ ys,(upd H l (.lst ((x.cps.toList.take i).map fun c=>V.str ⟨#[bl c]⟩))) l=some (.lst ys)/\ys.length < sizeLine /\
    ∃ v1:Option V,([v].set 0 (some (V.str ⟨#[c]⟩)):L2.St)=[v1]/\upd (upd H l (.lst ((x.cps.toList.take i).map fun c=>V.str ⟨#[bl c]⟩))) l (.lst (ys++[V.str ⟨#[bl c]⟩]))=upd H l (.lst ((x.cps.toList.take (i+1)).map fun c=>V.str ⟨#[bl c]⟩)):=by
   refine⟨_,ak,?_,_,rfl,?_⟩
   ·rw [List.length_map,List.length_take]
    have:x.cps.size=x.length:=rfl
    exact Nat.lt_of_le_of_lt (Nat.min_le_left _ _) (aK (by omega))
   ·rw [Ag,ht,List.map_append]
    rfl
  refine gN (iM (eZ ?_))
  refine⟨_,rfl,c,rfl,_,rfl,?_⟩
  refine cU (fun h=>?_) (fun h=>?_)
  ·refine⟨_,rfl,?_⟩
   have e:bl c=c:=by unfold bl;rw [if_pos h]
   rw [e] at fin
   exact fin
  ·have e:bl c=32:=by unfold bl;rw [if_neg h]
   rw [e] at fin
   exact fin
end
section
variable {P:Program}{w:World}{K:W.Frag}{mg:Str->Option Value}{base:Heap}
theorem Le(h:Has K mg "is_word_sign" Js ["sign"]):Cal P w K mg base "is_word_sign" 1 ["sign"] CZ:=h.cal fun f fd F _ _=>JW F
theorem Ht(h:Has K mg "words_of" m9 ["text"])(Sq:Cal P w K mg base "is_word_sign" 1 ["sign"] CZ)(Pb:mg "tuple" = none):Cal P w K mg base "words_of" 2 ["text"] sI:=by
 obtain⟨fT,fdT,GT,bT,kT,mT⟩:=Sq.ex
 exact h.cal fun f fd F _ _=>Df F GT bT kT mT Pb
end
noncomputable abbrev rR(r:List Nat):Str:=⟨(r.map lo1).toArray⟩
noncomputable def Af:Sp:=fun vs H Q _=>∃ x:Str,vs=[.str x]/\x.length<=1000/\∀(t:Addr)(H':Hp),Same H H'->H' t=some (.tup (((M01.wds x.cps.toList).map rR).map V.str))->Q (.ref t) H'
section
open M01
variable {P:Program}{w:World}{K:W.Frag}{mg:Str->Option Value}{base:Heap}
theorem oU{ws:List (List Nat)}{i:Nat}(hi:i < ws.length):((ws.take (i+1)).map rR).map V.str=((ws.take i).map rR).map V.str++[V.str (rR ws[i])]:=by
 rw [List.take_add_one,List.getElem?_eq_getElem hi,List.map_append,List.map_append]
 rfl
theorem Eh{ws:List (List Nat)}{i:Nat}(hi:i < ws.length):((ws.map fun r=>(⟨r.toArray⟩:Str)).map V.str)[i]?=some (V.str ⟨ws[i].toArray⟩):=by
 rw [List.getElem?_map,List.getElem?_map,List.getElem?_eq_getElem hi]
 rfl
theorem lens(x:Str):x.cps.toList.length=x.length:=by simp [Str.length]
theorem Az:aQ ["text"] ["text"] (aB jz):=⟨rfl,rfl,rfl,by decide +kernel,rfl,by decide +kernel,by decide +kernel⟩
theorem GJ(h:Has K mg "cores_of" jz ["text"])(Rq:Cal P w K mg base "words_of" 2 ["text"] sI)(Pb:mg "tuple" = none):Cal P w K mg base "cores_of" 3 ["text"] Af:=by
 refine h.mk' Az (fun vs H Q E hs=>?_) (fun f cdv A outer s H vs Q E hr hs=>?_)
 ·obtain⟨x,rfl,_⟩:=hs
  rfl
 obtain⟨x,rfl,hx,k⟩:=hs
 refine⟨_,(aC (aV (bV bJ rfl Pb boot_tuple (aj (bD ["text"] (aB jz) ["word"] [none] rfl rfl rfl (bQ (aG Rq hr (by decide) rfl (aj (pv 0) ao))) rfl (by decide +kernel) (by decide +kernel) (by decide +kernel) (by decide +kernel) (hg:=fun cl C s H ex pn E=>(aD (i:=0) (by decide +kernel:(["word"]:List Str).Nodup) rfl (Or.inl rfl))) (ht:=fun cl C s H ex pn E=>bC) (he:=fun cl C s H ex pn E=>(HW (K:=K) rfl PySem.F.plainAttrs_str PySem.F.slot_str_lower PySem.F.type_str_lower vp (pv 0)))) ao)))),?_⟩
 refine⟨_,rfl,x,rfl,hx,fun t H1 s1 e1=>?_⟩
 generalize hws:wds x.cps.toList=ws at e1 k
 have hwl:ws.length<=1000:=by
  have:=FJ x.cps.toList
  rw [hws,lens] at this
  omega
 have hmem:∀ r∈ws,r.length<=1000/\∀ c∈r,isW c=true:=fun r hr=>by
  rw [← hws] at hr
  have:=HD hr
  rw [lens] at this
  exact⟨by omega,this.2⟩
 refine⟨t,rfl,⟨_,SqT.of e1⟩,fun l hl=>?_⟩
 have ntl:t≠l:=aF e1 hl
 refine bL (J:=Itt K0 t) (l:=l) ws.length (fun i σ' H'=>∃ v:Option V,σ'=[v]/\H'=upd H1 l (.lst (((ws.take i).map rR).map V.str))) ⟨none,rfl,rfl⟩ ?_ ?_
 ·rintro σ' H' ⟨v,rfl,rfl⟩
  refine⟨⟨_,SqT.of ((aL ntl).trans e1),by simp⟩,l,_,rfl,.inl ⟨SqL.of ak,fun t2 ht2=>?_⟩⟩
  refine k t2 _ (s1.trans ((aq hl _).trans (aq ht2 _))) ?_
  rw [ak,List.take_length]
 ·rintro i σ' H' hi ⟨v,rfl,rfl⟩
  have ht:(upd H1 l (.lst (((ws.take i).map rR).map V.str))) t=some (.tup ((ws.map fun r=>(⟨r.toArray⟩:Str)).map V.str)):=(aL ntl).trans e1
  refine⟨⟨_,_,SqT.of ht,Eh hi⟩,?_⟩
  rintro y H'' ⟨rfl,hy⟩
  have ey:y=V.str ⟨ws[i].toArray⟩:=Option.some.inj ((hy _ (SqT.of ht)).symm.trans (Eh hi))
  subst ey
  have hm:=hmem ws[i] (List.getElem_mem hi)
  refine gN (iM (eZ ?_))
  refine⟨_,rfl,rfl,ws[i],rfl,rfl,fun c hc=>J1 (hm.2 c hc),by omega,?_⟩
  refine⟨_,ak,?_,_,rfl,?_⟩
  ·rw [List.length_map,List.length_map,List.length_take]
   exact aK (by omega)
  ·rw [Ag,oU hi]
end
noncomputable def bG(xs:List Str):List Str:=xs.flatMap fun x=>(M01.wds x.cps.toList).map rR
noncomputable def Ih(kvs:List (Key × V))(cs:List Str):Prop:=∀ c:Str,(lq kvs (Sum.inr c)).isSome=true↔c∈cs
noncomputable def zy:Sp:=fun vs H Q _=>∃(q:Addr)(xs:List Str),vs=[.ref q]/\H q=some (.tup (xs.map V.str))/\xs.length<=100/\(∀ x∈xs,x.length<=1000) /\
 ∀(d:Addr)(kvs:List (Key × V))(H':Hp),Same H H'->H' d=some (.dK kvs)->Ih kvs (bG xs)->Q (.ref d) H'
section
open M01
variable {P:Program}{w:World}{K:W.Frag}{mg:Str->Option Value}{base:Heap}
theorem Ih.put{kvs:List (Key × V)}{cs:List Str}{c:Str}{v:V}(h:Ih kvs cs):Ih (putK kvs (Sum.inr c) v) (cs++[c]):=by
 intro e
 rw [nR]
 by_cases z:(Sum.inr e:Key)=Sum.inr c
 ·rw [if_pos z]
  cases z
  exact⟨fun _=>List.mem_append.mpr (.inr (List.mem_singleton.mpr rfl)),fun _=>rfl⟩
 ·rw [if_neg z,h e,List.mem_append,List.mem_singleton]
  exact⟨.inl,fun t=>t.elim id fun t=>absurd (congrArg Sum.inr t) z⟩
theorem FZ{kvs:List (Key × V)}{k:Key}{v:V}:(putK kvs k v).length<=kvs.length+1:=jD [(k,v)] kvs
theorem rW{xs:List Str}{i:Nat}(hi:i < xs.length):bG (xs.take (i+1))=bG (xs.take i)++(M01.wds xs[i].cps.toList).map rR:=by
 unfold bG
 rw [List.take_add_one,List.getElem?_eq_getElem hi,List.flatMap_append]
 simp
theorem fP:aQ ["texts","cores","text","core"] ["texts"] (aB gB):=⟨rfl,rfl,rfl,by decide +kernel,rfl,by decide +kernel,by decide +kernel⟩
theorem oA(h:Has K mg "cores_among" gB ["texts"])(Rr:Cal P w K mg base "cores_of" 3 ["text"] Af):Cal P w K mg base "cores_among" 4 ["texts"] zy:=by
 refine h.mk' fP (fun vs H Q E hs=>?_) (fun f cdv A outer s H vs Q E hr hs=>?_)
 ·obtain⟨q,xs,rfl,_⟩:=hs
  rfl
 obtain⟨q,xs,rfl,hq,hz,hxs,k⟩:=hs
 refine⟨_,(au (aR (i:=1) fP.nd rfl (Or.inl rfl) Dp)
  (au (cG PassesOwn.never rfl (bQ (pv 0)) (aD (i:=2) fP.nd rfl (Or.inl rfl))
   (aC (cG PassesOwn.never rfl (bQ (aG Rr hr (by decide) rfl (aj (pv 2) ao))) (aD (i:=3) fP.nd rfl (Or.inl rfl))
   (aC (yx (vN hr) (pv 1) (pv 3) fJ rfl)))))
  (aC (aV (pv 1))))),?_⟩
 refine fun d hd=>?_
 have sp:∀ {H2:Hp}{o:HO},Same H H2->Same H (upd H2 d o):=fun s c o z=>by
  rw [aL (aF z hd)]
  exact s c o z
 refine⟨_,rfl,q,rfl,⟨_,SqT.of (aq hd _ _ _ hq)⟩,?_⟩
 refine gR (K:=K0) (a:=q) (xs:=xs.map V.str) (fun i σ H2=>∃(v2 v3:Option V)(kvs:List (Key × V)),σ=[some (.ref q),some (.ref d),v2,v3]/\Same H H2/\H2 d=some (.dK kvs)/\kvs.length<=1000 * i/\Ih kvs (bG (xs.take i)))
  ⟨_,_,[],rfl,aq hd _,ak,Nat.zero_le _,fun c=>⟨(fun z=>by cases z),(fun z=>by cases z)⟩⟩ ?_ ?_ ?_
 ·rintro i σ H2 _ ⟨v2,v3,kvs,_,s2,_⟩
  exact SqT.of (s2 _ _ hq)
 ·rintro i y σ H2 hi ⟨v2,v3,kvs,rfl,s2,ed,hk,hd2⟩
  have hil:i < xs.length:=by
   have:=(List.getElem?_eq_some_iff.mp hi).1
   simpa using this
  have ey:y=V.str xs[i]:=by
   rw [List.getElem?_map,List.getElem?_eq_getElem hil] at hi
   exact (Option.some.inj hi).symm
  subst ey
  have hxl:=hxs xs[i] (List.getElem_mem hil)
  refine⟨_,rfl,xs[i],rfl,hxl,fun t H3 s3 e3=>?_⟩
  have hcs:=rW hil
  generalize hws:wds xs[i].cps.toList=ws at e3 hcs
  have hwl:ws.length<=1000:=by
   have:=FJ xs[i].cps.toList
   rw [hws,lens] at this
   omega
  refine⟨t,rfl,⟨_,SqT.of e3⟩,?_⟩
  refine gR (K:=K0) (a:=t) (xs:=(ws.map rR).map V.str) (fun j σ H4=>∃(v3:Option V)(kvs':List (Key × V)),σ=[some (.ref q),some (.ref d),some (.str xs[i]),v3]/\Same H H4/\H4 t=some (.tup ((ws.map rR).map V.str))/\H4 d=some (.dK kvs')/\kvs'.length<=kvs.length+j/\Ih kvs' (bG (xs.take i)++(ws.take j).map rR))
   ⟨_,kvs,rfl,s2.trans s3,e3,s3 _ _ ed,Nat.le_refl _,by simpa using hd2⟩ ?_ ?_ ?_
  ·rintro j σ H4 _ ⟨v3,kvs',_,_,e4,_⟩
   exact SqT.of e4
  ·rintro j y σ H4 hj ⟨v3,kvs',rfl,s4,e4,ed4,hk4,hd4⟩
   have hjl:j < ws.length:=by
    have:=(List.getElem?_eq_some_iff.mp hj).1
    simpa using this
   have ey:y=V.str (rR ws[j]):=by
    rw [List.getElem?_map,List.getElem?_map,List.getElem?_eq_getElem hjl] at hj
    exact (Option.some.inj hj).symm
   subst ey
   have ntd:t≠d:=mL e4 ed4 (by intro z;cases z)
   have hsz:kvs'.length < sizeLine:=by
    have:=cu
    omega
   refine⟨_,rfl,_,rfl,d,_,rfl,El.k (k:=Sum.inr (rR ws[j])) ed4 hsz,_,_,rfl,sp s4,(aL ntd).trans e4,ak,Nat.le_trans FZ (by omega),?_⟩
   have ht:(ws.take (j+1)).map rR=(ws.take j).map rR++[rR ws[j]]:=by
    rw [List.take_add_one,List.getElem?_eq_getElem hjl,List.map_append]
    rfl
   rw [ht,← List.append_assoc]
   exact hd4.put
  ·rintro σ H4 ⟨v3,kvs',rfl,s4,e4,ed4,hk4,hd4⟩
   rw [List.length_map,List.length_map] at hk4 hd4
   rw [List.take_length,← hcs] at hd4
   exact⟨_,_,_,rfl,s4,ed4,by omega,hd4⟩
 ·rintro σ H2 ⟨v2,v3,kvs,rfl,s2,ed,hk,hd2⟩
  rw [List.length_map,List.take_length] at hd2
  exact⟨_,rfl,k d kvs _ s2 ed hd2⟩
end
noncomputable def vG(as bs:List Str)(p:Str × Str):Bool:=decide (p.1∈as) && decide (p.2∈bs)
noncomputable def wV(as bs:List Str)(ps:List (Str × Str)):Nat:=(ps.filter (vG as bs)).length
noncomputable def PrT(H:Hp)(us:List V)(ps:List (Str × Str)):Prop:=us.length=ps.length/\∀(i:Nat)(u:V)(p:Str × Str),us[i]?=some u->ps[i]?=some p->∃ q:Addr,u=.ref q/\H q=some (.tup [.str p.1,.str p.2])
theorem PrT.same{H H':Hp}{us:List V}{ps:List (Str × Str)}(h:PrT H us ps)(s:Same H H'):PrT H' us ps:=⟨h.1,fun i u p a b=>by
 obtain⟨q,e1,e2⟩:=h.2 i u p a b
 exact⟨q,e1,s _ _ e2⟩⟩
theorem Ax{as bs:List Str}{ps:List (Str × Str)}{i:Nat}(hi:i < ps.length):wV as bs (ps.take (i+1))=wV as bs (ps.take i)+if vG as bs ps[i] then 1 else 0:=by
 unfold wV
 rw [List.take_add_one,List.getElem?_eq_getElem hi,List.filter_append,List.length_append]
 show _+([ps[i]].filter (vG as bs)).length=_
 by_cases z:vG as bs ps[i]=true
 ·rw [if_pos z,List.filter_cons_of_pos z]
  rfl
 ·rw [if_neg z,List.filter_cons_of_neg z]
  rfl
noncomputable def pk(side:Nat)(p:Str × Str):Str:=if side=0 then p.1 else p.2
noncomputable def plc(side:Nat)(cs:List Str)(ps:List (Str × Str))(n:Nat):List Nat:=(List.range n).filter fun i=>decide (pk side (ps.getD i (Str.empty,Str.empty))∈cs)
theorem Ds{side:Nat}{cs:List Str}{ps:List (Str × Str)}(n:Nat):plc side cs ps (n+1)=plc side cs ps n++if pk side (ps.getD n (Str.empty,Str.empty))∈cs then [n] else []:=by
 unfold plc
 rw [List.range_succ,List.filter_append]
 congr 1
 by_cases h:pk side (ps.getD n (Str.empty,Str.empty))∈cs
 ·rw [if_pos h,List.filter_cons_of_pos (by simpa using h)]
  rfl
 ·rw [if_neg h,List.filter_cons_of_neg (by simpa using h)]
  rfl
theorem zZ(side:Nat)(cs:List Str)(ps:List (Str × Str))(n:Nat):(plc side cs ps n).length<=n:=by
 have:=List.length_filter_le (fun i=>decide (pk side (ps.getD i (Str.empty,Str.empty))∈cs)) (List.range n)
 rw [List.length_range] at this
 exact this
theorem lU{side:Nat}{cs:List Str}{ps:List (Str × Str)}{n:Nat}{k:Int}:k∈(plc side cs ps n).map (fun i=>((i:Nat):Int))↔∃ i:Nat,k=i/\i < n/\pk side (ps.getD i (Str.empty,Str.empty))∈cs:=by
 unfold plc
 rw [List.mem_map]
 constructor
 ·rintro ⟨i,hi,rfl⟩
  obtain⟨h1,h2⟩:=List.mem_filter.mp hi
  exact⟨i,rfl,List.mem_range.mp h1,of_decide_eq_true h2⟩
 ·rintro ⟨i,rfl,h1,h2⟩
  exact⟨i,List.mem_filter.mpr ⟨List.mem_range.mpr h1,decide_eq_true h2⟩,rfl⟩
theorem Dd{as bs:List Str}{ps:List (Str × Str)}{L:List Int}(hn:L.Nodup)(hL:∀ k,k∈L↔k∈(plc 0 as ps ps.length).map (fun i=>((i:Nat):Int))/\k∈(plc 1 bs ps ps.length).map (fun i=>((i:Nat):Int))):L.length=wV as bs ps:=by
 have e:ps=(List.range ps.length).map fun i=>ps.getD i (Str.empty,Str.empty):=by
  apply List.ext_getElem (by simp)
  intro i h1 h2
  simp [List.getD_eq_getElem?_getD,h1]
 have hf:((List.range ps.length).filter fun i=>vG as bs (ps.getD i (Str.empty,Str.empty))).length=wV as bs ps:=by
  unfold wV
  conv=>rhs;rw [e]
  rw [List.filter_map,List.length_map]
  rfl
 rw [← hf]
 have hp:L.Perm (((List.range ps.length).filter fun i=>vG as bs (ps.getD i (Str.empty,Str.empty))).map fun i=>((i:Nat):Int)):=by
  refine (List.perm_ext_iff_of_nodup hn ?_).mpr fun k=>?_
  ·refine List.Pairwise.map _ (fun a b h z=>h (Int.ofNat.inj z)) (List.Pairwise.filter _ List.nodup_range)
  ·rw [hL k,lU,lU,List.mem_map]
   constructor
   ·rintro ⟨⟨i,rfl,h1,h2⟩,⟨j,hj,_,h4⟩⟩
    have ej:i=j:=Int.ofNat.inj hj
    subst ej
    refine⟨i,List.mem_filter.mpr ⟨List.mem_range.mpr h1,?_⟩,rfl⟩
    unfold vG
    rw [decide_eq_true (show (ps.getD i (Str.empty,Str.empty)).1∈as from h2),decide_eq_true (show (ps.getD i (Str.empty,Str.empty)).2∈bs from h4)]
    rfl
   ·rintro ⟨i,hi,rfl⟩
    obtain⟨h1,h2⟩:=List.mem_filter.mp hi
    unfold vG at h2
    obtain⟨h3,h4⟩:=Bool.and_eq_true_iff.mp h2
    exact⟨⟨i,rfl,List.mem_range.mp h1,of_decide_eq_true h3⟩,⟨i,rfl,List.mem_range.mp h1,of_decide_eq_true h4⟩⟩
 rw [hp.length_eq,List.length_map]
theorem Bv{H H':Hp}{b:Addr}(s:Same H H')(h:H' b=none):H b=none:=by
 cases e:H b with
 | none=>rfl
 | some o=>rw [s _ _ e] at h;cases h
noncomputable def uQ:Sp:=fun vs H Q _=>∃(qa qw:Addr)(side:Nat)(xs:List Str)(us:List V)(ps:List (Str × Str)),vs=[.ref qa,.ref qw,.int (side:Nat)]/\side<=1/\H qa=some (.tup (xs.map V.str))/\xs.length<=100/\(∀ x∈xs,x.length<=1000) /\
 H qw=some (.tup us)/\us.length<=1000/\PrT H us ps/\∀(l:Addr)(H':Hp),H l=none->Same H H'->H' l=some (.lst (((plc side (bG xs) ps ps.length).map fun i=>((i:Nat):Int)).map V.int))->Q (.ref l) H'
noncomputable def Ep:Sp:=fun vs H Q _=>∃(l1 l2:Addr)(as bs:List Int),vs=[.ref l1,.ref l2]/\H l1=some (.lst (as.map V.int))/\H l2=some (.lst (bs.map V.int))/\as.length<=4000/\bs.length<=4000/\∀(L:List Int)(H':Hp),Same H H'->L.Nodup->(∀ k,k∈L↔k∈as/\k∈bs)->Q (.int (L.length:Nat)) H'
section
open M01
variable {P:Program}{w:World}{K:W.Frag}{mg:Str->Option Value}{base:Heap}
theorem jA:aQ ["texts","words","side","cores"] ["texts","words","side"] (aB eN):=⟨rfl,rfl,rfl,by decide +kernel,rfl,by decide +kernel,by decide +kernel⟩
theorem mK(h:Has K mg "places_known" eN ["texts","words","side"])(Qi:Cal P w K mg base "cores_among" 4 ["texts"] zy)(Pz:mg "enumerate" = none):Cal P w K mg base "places_known" 5 ["texts","words","side"] uQ:=by
 refine h.mk' jA (fun vs H Q E hs=>?_) (fun f cdv A outer s H vs Q E hr hs=>?_)
 ·obtain⟨qa,qw,side,xs,us,ps,rfl,_⟩:=hs
  rfl
 obtain⟨qa,qw,side,xs,us,ps,rfl,hside,ha,ha1,ha2,hw,hu,hP,k⟩:=hs
 refine⟨_,(au (aR (i:=3) jA.nd rfl (Or.inr rfl) (aG Qi hr (by decide) rfl (aj (pv 0) ao)))
  (aC (aV (bD ["texts","words","side","cores"] (aB eN) ["side","cores","place","pair"] [some 2,some 3,none,none] rfl rfl rfl (lY rfl Pz (aj (pv 1) ao)) rfl (by decide +kernel) (by decide +kernel) (by decide +kernel) (by decide +kernel) (g:=rT K0 2 (dG (cP 2) (dG (cP 3) tG))) (hg:=fun cl C s H ex pn E=>bH (n:=2) rfl (aH (aD (i:=2) (by decide +kernel:(["side","cores","place","pair"]:List Str).Nodup) rfl (Or.inl rfl) (Or.inr rfl)) (aH (aD (i:=3) (by decide +kernel:(["side","cores","place","pair"]:List Str).Nodup) rfl (Or.inl rfl) (Or.inr rfl)) bI))) (ht:=fun cl C s H ex pn E=>(jG (Ko (J5 (vN hr) (bx (bh) (pv 3) (pv 0) (fun _ _=>rfl)) (pv 1)) (by with_unfolding_all rfl)))) (he:=fun cl C s H ex pn E=>(pv 2)))))),?_⟩
 refine⟨_,rfl,qa,xs,rfl,ha,ha1,ha2,fun d kl H1 s1 e1 h1=>?_⟩
 refine gN ⟨_,rfl,qw,rfl,⟨_,SqT.of (s1 _ _ hw)⟩,fun l hl=>?_⟩
 refine bL (J:=Ba K0 qw) (l:=l) us.length (fun i σ' H'=>∃(v2 v3:Option V),σ'=[some (.int (side:Nat)),some (.ref d),v2,v3]/\Same H1 H'/\H' l=some (.lst (((plc side (bG xs) ps i).map fun i=>((i:Nat):Int)).map V.int))) ⟨none,none,rfl,aq hl _,ak⟩ ?_ ?_
 ·rintro σ' H' ⟨v2,v3,rfl,s',e'⟩
  rw [hP.1] at e'
  exact⟨⟨_,SqT.of (s' _ _ (s1 _ _ hw)),Nat.le_refl _⟩,k l H' (Bv s1 hl) (s1.trans s') e'⟩
 ·rintro i σ' H' hi ⟨v2,v3,rfl,s',e'⟩
  have hat:us[i]?=some us[i]:=List.getElem?_eq_getElem hi
  have hwi:H' qw=some (.tup us):=s' _ _ (s1 _ _ hw)
  refine⟨⟨_,_,SqT.of hwi,hat⟩,?_⟩
  rintro y H'' ⟨t,x,rfl,ht,rfl,hx⟩
  have ex:x=us[i]:=Option.some.inj ((hx _ (SqT.of hwi)).symm.trans hat)
  have s'':=s'.trans (aq ht (.tup [.int (i:Nat),x]))
  have hip:i < ps.length:=by rw [← hP.1];exact hi
  obtain⟨qi,eu,eq⟩:=(hP.same (s1.trans s'')).2 i us[i] ps[i] hat (List.getElem?_eq_getElem hip)
  rw [eu] at ex
  subst ex
  have ntl:l≠t:=aF e' ht
  have e'':(upd H' t (.tup [.int (i:Nat),.ref qi])) l=some (.lst (((plc side (bG xs) ps i).map fun i=>((i:Nat):Int)).map V.int)):=(aL ntl).trans e'
  have hpi:ps.getD i (Str.empty,Str.empty)=ps[i]:=by rw [List.getD_eq_getElem?_getD,List.getElem?_eq_getElem hip];rfl
  have hsn:=Ds (side:=side) (cs:=bG xs) (ps:=ps) i
  rw [hpi] at hsn
  have hpl:=zZ side (bG xs) ps i
  have hat2:∃ z:Str,z=pk side ps[i]/\atI [V.str ps[i].1,V.str ps[i].2] (side:Nat)=some (.str z):=by
   match side,hside with
   | 0,_=>exact⟨_,rfl,cJ _ _⟩
   | 1,_=>exact⟨_,rfl,aO (xs:=[V.str ps[i].1,V.str ps[i].2]) (j:=1) rfl⟩
  obtain⟨z,ez,hz⟩:=hat2
  rw [← ez] at hsn
  generalize ps[i]=pp at eq hz
  refine⟨t,_,rfl,SqT.of ak,rfl,_,_,rfl,_,_,rfl,rfl,?_⟩
  refine⟨_,rfl,_,rfl,ixT (p:=qi) rfl rfl (SqT.of eq) (hz) (⟨ _,rfl,d,_,rfl,vA.k (k:=Sum.inr z) (s'' _ _ e1),_,rfl,?_⟩)⟩
  refine cU (fun c1=>?_) (fun c1=>?_)
  ·rw [if_pos ((h1 _).mp c1)] at hsn
   refine⟨_,rfl,_,e'',aK (by rw [List.length_map,List.length_map];omega),_,_,rfl,?_,?_⟩
   ·intro c o q
    rw [aL (aF q hl)]
    exact s'' c o q
   ·rw [ak,hsn,List.map_append,List.map_append]
    rfl
  ·rw [if_neg (fun q=>c1 ((h1 _).mpr q)),List.append_nil] at hsn
   exact⟨_,_,rfl,s'',by rw [hsn];exact e''⟩
theorem mO:aQ ["left","right"] ["left","right"] (aB eU):=⟨rfl,rfl,rfl,by decide +kernel,rfl,by decide +kernel,by decide +kernel⟩
theorem kE(h:Has K mg "hits_of_places" eU ["left","right"])(Ph:mg "len" = none)(R4:mg "set" = none):Cal P w K mg base "hits_of_places" 1 ["left","right"] Ep:=by
 refine h.mk' mO (fun vs H Q E hs=>?_) (fun f cdv A outer s H vs Q E hr hs=>?_)
 ·obtain⟨l1,l2,as,bs,rfl,_⟩:=hs
  rfl
 obtain⟨l1,l2,as,bs,rfl,h1,h2,n1,n2,k⟩:=hs
 refine⟨_,(aC (aV (aJ nT rfl Ph PySem.boot_len (aj (aP Gm (bV (qK rfl) rfl R4 boot_set (aj (pv 0) ao)) (bV (qK rfl) rfl R4 boot_set (aj (pv 1) ao))) ao)))),?_⟩
 refine⟨_,rfl,l1,as,rfl,SqL.of h1,n1,fun a n ha hn=>?_⟩
 have s1:=aq ha (.set (Gu as) n)
 refine⟨_,rfl,l2,bs,rfl,SqL.of (s1 _ _ h2),n2,fun b m hb hm=>?_⟩
 have s2:=aq hb (.set (Gu bs) m)
 refine⟨a,b,_,_,n,m,rfl,rfl,aF ak hb,s2 _ _ ak,ak,by omega,by omega,fun c L hc hnd hL=>?_⟩
 refine⟨c,_,_,rfl,ak,k L _ ((s1.trans s2).trans (aq hc _)) hnd fun x=>?_⟩
 rw [hL x]
 unfold Gu
 rw [decide_eq_true_eq,decide_eq_true_eq]
end
noncomputable def plI(side:Nat)(x:Str)(ps:List (Str × Str)):List Int:=(plc side (bG [x]) ps ps.length).map fun i=>((i:Nat):Int)
noncomputable def siz(x:Str):Int:=sz x.cps.toList
theorem JF:∀ l:List Nat,0<=sz l/\sz l<=l.length
 | []=>⟨Int.le_refl _,Int.le_refl _⟩
 | c :: l=>by
  have ih:=JF l
  have e:=qe [c] l
  have e2:=yU [] c
  rw [List.nil_append] at e2
  have e3:sz []=0:=rfl
  rw [show c :: l=[c]++l from rfl,e,e2,e3,List.length_append]
  simp only [List.length_singleton]
  split <;> omega
theorem IK(x:Str)(h:x.length<=1000):0<=siz x/\siz x<=1000:=by
 have:=JF x.cps.toList
 have e:x.cps.toList.length=x.length:=by simp [Str.length]
 unfold siz
 omega
theorem pX:∀ {xs:List Str},(∀ x∈xs,x.length<=1000)->0<=(xs.map siz).sum/\(xs.map siz).sum<=1000 * xs.length
 | [],_=>⟨Int.le_refl _,Int.le_refl _⟩
 | x :: xs,h=>by
  have:=IK x (h x List.mem_cons_self)
  have:=pX (xs:=xs) fun y hy=>h y (List.mem_cons_of_mem _ hy)
  rw [List.map_cons,List.sum_cons,List.length_cons]
  omega
structure wQ(H:Hp)(l:Addr)(side:Nat)(xs:List Str)(ps:List (Str × Str)):Prop where
 ex:∃ us:List V,H l=some (.lst us)/\us.length=xs.length/\∀(i:Nat)(u:V)(x:Str),us[i]?=some u->xs[i]?=some x->∃ t lp:Addr,u=.ref t/\H t=some (.tup [.int (siz x),.ref lp])/\H lp=some (.lst ((plI side x ps).map V.int))
theorem wQ.same{H H':Hp}{l:Addr}{side:Nat}{xs:List Str}{ps:List (Str × Str)}(h:wQ H l side xs ps)(s:Same H H'):wQ H' l side xs ps:=by
 obtain⟨us,e,hl,k⟩:=h.ex
 refine⟨us,s _ _ e,hl,fun i u x hu hx=>?_⟩
 obtain⟨t,lp,e1,e2,e3⟩:=k i u x hu hx
 exact⟨t,lp,e1,s _ _ e2,s _ _ e3⟩
noncomputable def GP(d:Int):Int:=if d < 0 then -d else d
noncomputable def Ho(i j:Int):Int:=if j > i then j else i
noncomputable def Gj(ns:List Int)(a b:Nat)(d:Int)(k:Nat):Int:=ns.getD 1 0 * (Ho (a:Nat) (b:Nat) - 1)+ns.getD 3 0 * GP d - ns.getD 4 0 * (k:Nat)
noncomputable def costOf(ns:List Int)(xs ys:List Str)(ps:List (Str × Str)):Int:=Gj ns xs.length ys.length ((xs.map siz).sum - (ys.map siz).sum) (wV (bG xs) (bG ys) ps)
noncomputable def ur:Sp:=fun vs H Q _=>∃ x:Str,vs=[.str x]/\x.length<=1000/\Q (.int (siz x)) H
noncomputable def nH:Sp:=fun vs H Q _=>∃(q qw:Addr)(side:Nat)(xs:List Str)(us:List V)(ps:List (Str × Str)),vs=[.ref q,.ref qw,.int (side:Nat)]/\side<=1/\H q=some (.tup (xs.map V.str))/\xs.length<=100/\(∀ x∈xs,x.length<=1000)/\H qw=some (.tup us)/\us.length<=1000/\PrT H us ps /\
 ∀(l:Addr)(H':Hp),Same H H'->wQ H' l side xs ps->Q (.ref l) H'
noncomputable def pQ:Sp:=fun vs H Q _=>∃(l:Addr)(side:Nat)(xs:List Str)(ps:List (Str × Str)),vs=[.ref l]/\wQ H l side xs ps/\xs.length<=100/\∀ H',Same H H'->Q (.int (xs.map siz).sum) H'
noncomputable def mC:Sp:=fun vs H Q _=>∃(l:Addr)(side:Nat)(xs:List Str)(ps:List (Str × Str)),vs=[.ref l]/\wQ H l side xs ps/\xs.length<=100/\ps.length<=1000/\∀(l':Addr)(H':Hp),Same H H'->H' l'=some (.lst ((xs.flatMap fun x=>plI side x ps).map V.int))->Q (.ref l') H'
noncomputable def yd:Sp:=fun vs H Q _=>∃(l1 l2 qp:Addr)(xs ys:List Str)(ps:List (Str × Str))(ns:List Int),vs=[.ref l1,.ref l2,.ref qp]/\wQ H l1 0 xs ps/\wQ H l2 1 ys ps/\xs.length<=3/\ys.length<=3/\(∀ x∈xs,x.length<=1000)/\(∀ x∈ys,x.length<=1000)/\ps.length<=1000/\H qp=some (.tup (ns.map V.int))/\ns.length=5 /\
 ∀ H',Same H H'->Q (.int (costOf ns xs ys ps)) H'
theorem mj{xs:List Str}{c:Str}:c∈bG xs↔∃ x∈xs,c∈bG [x]:=by
 unfold bG
 simp only [List.mem_flatMap,List.mem_singleton]
 constructor
 ·rintro ⟨x,hx,h⟩
  exact⟨x,hx,x,rfl,h⟩
 ·rintro ⟨x,hx,y,rfl,h⟩
  exact⟨_,hx,h⟩
theorem zc{side:Nat}{xs:List Str}{ps:List (Str × Str)}{k:Int}:k∈(xs.flatMap fun x=>plI side x ps)↔k∈(plc side (bG xs) ps ps.length).map fun i=>((i:Nat):Int):=by
 rw [List.mem_flatMap,lU]
 constructor
 ·rintro ⟨x,hx,h⟩
  obtain⟨i,e,hi,hm⟩:=lU.mp h
  exact⟨i,e,hi,mj.mpr ⟨x,hx,hm⟩⟩
 ·rintro ⟨i,e,hi,hm⟩
  obtain⟨x,hx,h⟩:=mj.mp hm
  exact⟨x,hx,lU.mpr ⟨i,e,hi,h⟩⟩
theorem zQ(side:Nat)(x:Str)(ps:List (Str × Str)):(plI side x ps).length<=ps.length:=by
 unfold plI
 rw [List.length_map]
 exact zZ _ _ _ _
theorem oF{side:Nat}{ps:List (Str × Str)}:∀ xs:List Str,(xs.flatMap fun x=>plI side x ps).length<=xs.length * ps.length
 | []=>Nat.zero_le _
 | x :: xs=>by
  have:=oF (side:=side) (ps:=ps) xs
  have:=zQ side x ps
  rw [List.flatMap_cons,List.length_append,List.length_cons,Nat.succ_mul]
  omega
section
open M01
variable {P:Program}{w:World}{K:W.Frag}{mg:Str->Option Value}{base:Heap}
theorem Ea:aQ ["text"] ["text"] (aB ou):=⟨rfl,rfl,rfl,by decide +kernel,rfl,by decide +kernel,by decide +kernel⟩
theorem yP(h:Has K mg "size_of" ou ["text"])(Ph:mg "len" = none):Cal P w K mg base "size_of" 1 ["text"] ur:=by
 refine h.mk' Ea (fun vs H Q E hs=>?_) (fun f cdv A outer s H vs Q E hr hs=>?_)
 ·obtain⟨x,rfl,_⟩:=hs
  rfl
 obtain⟨x,rfl,hz,k⟩:=hs
 refine⟨_,(aC (aV (aP fB (aP fB (aJ qt rfl Ph PySem.boot_len (aj (pv 0) ao)) (cZ PySem.F.plainAttrs_str PySem.F.slot_str_count PySem.F.type_str_count vB (pv 0) (aj cB ao))) (cZ PySem.F.plainAttrs_str PySem.F.slot_str_count PySem.F.type_str_count vB (pv 0) (aj cB ao))))),?_⟩
 refine⟨_,rfl,x,rfl,small hz,_,rfl,rfl,x,32,rfl,rfl,_,_,rfl,rfl,_,rfl,rfl,x,10,rfl,rfl,_,_,rfl,rfl,?_⟩
 have e:=Ku x.cps.toList
 have el:(x.cps.toList.length:Int)=(x.length:Int):=by simp [Str.length]
 rw [el] at e
 show Q (.int ((x.length:Int) - cnt 32 x.cps.toList - cnt 10 x.cps.toList)) H
 rw [e]
 exact k
theorem vR:aQ ["texts","words","side"] ["texts","words","side"] (aB iB):=⟨rfl,rfl,rfl,by decide +kernel,rfl,by decide +kernel,by decide +kernel⟩
theorem wO(h:Has K mg "measured" iB ["texts","words","side"])(Qg:Cal P w K mg base "places_known" 5 ["texts","words","side"] uQ)(QF:Cal P w K mg base "size_of" 1 ["text"] ur):Cal P w K mg base "measured" 6 ["texts","words","side"] nH:=by
 refine h.mk' vR (fun vs H Q E hs=>?_) (fun f cdv A outer s H vs Q E hr hs=>?_)
 ·obtain⟨q,qw,side,xs,us,ps,rfl,_⟩:=hs
  rfl
 obtain⟨q,qw,side,xs,us,ps,rfl,hside,hq,hx1,hx2,hw,hu,hP,k⟩:=hs
 refine⟨_,(aC (aV (bD ["texts","words","side"] (aB iB) ["words","side","text"] [some 1,some 2,none] rfl rfl rfl (bQ (pv 0)) rfl (by decide +kernel) (by decide +kernel) (by decide +kernel) (by decide +kernel) (hg:=fun cl C s H ex pn E=>(aD (i:=2) (by decide +kernel:(["words","side","text"]:List Str).Nodup) rfl (Or.inl rfl))) (ht:=fun cl C s H ex pn E=>bC) (he:=fun cl C s H ex pn E=>(aM (aj (aG QF hr (by decide) rfl (aj (pv 2) ao)) (aj (aG Qg hr (by decide) rfl (aj (aM (aj (pv 2) ao)) (aj (pv 0) (aj (pv 1) ao)))) ao))))))),?_⟩
 refine⟨_,rfl,q,rfl,⟨_,SqT.of hq⟩,fun l hl=>?_⟩
 refine bL (J:=Itt K0 q) (l:=l) xs.length (fun i σ' H'=>∃(v:Option V)(ms:List V),σ'=[some (.ref qw),some (.int (side:Nat)),v]/\Same H H'/\H' l=some (.lst ms)/\ms.length=i/\∀(j:Nat)(u:V)(x:Str),ms[j]?=some u->xs[j]?=some x->∃ t lp:Addr,u=.ref t/\H' t=some (.tup [.int (siz x),.ref lp])/\H' lp=some (.lst ((plI side x ps).map V.int))/\lp≠l) ⟨none,[],rfl,aq hl _,ak,rfl,fun j u x h=>by simp at h⟩ ?_ ?_
 ·rintro σ' H1 ⟨v,ms,rfl,s1,e1,hn,hm⟩
  refine⟨⟨_,SqT.of (s1 _ _ hq),by rw [List.length_map];exact Nat.le_refl _⟩,k l H1 s1 ⟨ms,e1,hn,fun j u x h1 h2=>?_⟩⟩
  obtain⟨t,lp,a,b,c,_⟩:=hm j u x h1 h2
  exact⟨t,lp,a,b,c⟩
 ·rintro i σ' H1 hi ⟨v,ms,rfl,s1,e1,hn,hm⟩
  have hat:=Fw hi
  refine⟨⟨_,_,SqT.of (s1 _ _ hq),hat⟩,?_⟩
  rintro y H2 ⟨rfl,hy⟩
  have ey:y=.str xs[i]:=Option.some.inj ((hy _ (SqT.of (s1 _ _ hq))).symm.trans hat)
  subst ey
  have hxl:=hx2 xs[i] (List.getElem_mem hi)
  refine gN (iM (eZ ⟨_,rfl,xs[i],rfl,hxl,_,rfl,smn 1,fun t1 ht1=>?_⟩))
  have s2:=aq ht1 (.tup [.str xs[i]])
  have e2:(upd H2 t1 (.tup [.str xs[i]])) t1=some (.tup ([xs[i]].map V.str)):=ak
  have el2:(upd H2 t1 (.tup [.str xs[i]])) l=some (.lst ms):=s2 _ _ e1
  generalize upd H2 t1 (.tup [.str xs[i]])=H3 at s2 e2 el2
  have s03:=s1.trans s2
  refine⟨_,rfl,_,rfl,t1,qw,side,[xs[i]],us,ps,rfl,hside,e2,by simp,fun x hx=>by rw [List.mem_singleton.mp hx];exact hxl,s03 _ _ hw,hu,hP.same s03,fun lp H4 hfree s4 e4=>?_⟩
  refine⟨smn 2,fun t hf=>?_⟩
  have s5:=aq hf (.tup [.int (siz xs[i]),.ref lp])
  have e5:(upd H4 t (.tup [.int (siz xs[i]),.ref lp])) t=some (.tup [.int (siz xs[i]),.ref lp]):=ak
  have s25:=(s2.trans s4).trans s5
  have elp:=s5 _ _ e4
  have el5:=s25 _ _ e1
  generalize upd H4 t (.tup [.int (siz xs[i]),.ref lp])=H5 at s5 e5 s25 elp el5
  have hms:ms.length < 1000:=by omega
  have nlp:lp≠l:=(aF el2 hfree).symm
  refine⟨ms,el5,aK (by omega),_,ms++[.ref t],rfl,aU (s1.trans s25) hl,ak,by rw [List.length_append,hn];rfl,fun j u x h1 h2=>?_⟩
  have keep:∀(c:Addr)(o:HO),H5 c=some o->c≠l->(upd H5 l (.lst (ms++[V.ref t]))) c=some o:=fun c o z h=>by rw [aL h];exact z
  by_cases hj:j < ms.length
  ·rw [List.getElem?_append_left hj] at h1
   obtain⟨t',lp',a,b,c,d⟩:=hm j u x h1 h2
   refine⟨t',lp',a,keep _ _ (s25 _ _ b) (fun z=>?_),keep _ _ (s25 _ _ c) d,d⟩
   rw [z,e1] at b
   cases b
  ·have hj2:j=ms.length:=by
    have:=(List.getElem?_eq_some_iff.mp h1).1
    rw [List.length_append,List.length_singleton] at this
    omega
   subst hj2
   rw [List.getElem?_append_right (Nat.le_refl _),Nat.sub_self] at h1
   have eu:u=.ref t:=(Option.some.inj h1).symm
   rw [hn,aZ hi] at h2
   have exx:x=xs[i]:=(Option.some.inj h2).symm
   subst exx
   refine⟨t,lp,eu,keep _ _ e5 (fun z=>?_),keep _ _ elp nlp,nlp⟩
   rw [z,el5] at e5
   cases e5
theorem tQ:aQ ["texts"] ["texts"] (aB gn):=⟨rfl,rfl,rfl,by decide +kernel,rfl,by decide +kernel,by decide +kernel⟩
theorem nO(h:Has K mg "size_of_all" gn ["texts"])(Px:mg "sum" = none):Cal P w K mg base "size_of_all" 1 ["texts"] pQ:=by
 refine h.mk' tQ (fun vs H Q E hs=>?_) (fun f cdv A outer s H vs Q E hr hs=>?_)
 ·obtain⟨l,side,xs,ps,rfl,_⟩:=hs
  rfl
 obtain⟨l,side,xs,ps,rfl,hM,hx,k⟩:=hs
 refine⟨_,(aC (aV (aJ (cR rfl) rfl Px boot_sum (aj (bD ["texts"] (aB gn) ["size","places"] [none,none] rfl rfl rfl (bY (pv 0)) rfl (by decide +kernel) (by decide +kernel) (by decide +kernel) (by decide +kernel) (g:=rT K0 2 (dG (cP 0) (dG (cP 1) tG))) (hg:=fun cl C s H ex pn E=>bH (n:=2) rfl (aH (aD (i:=0) (by decide +kernel:(["size","places"]:List Str).Nodup) rfl (Or.inl rfl) (Or.inr rfl)) (aH (aD (i:=1) (by decide +kernel:(["size","places"]:List Str).Nodup) rfl (Or.inl rfl) (Or.inr rfl)) bI))) (ht:=fun cl C s H ex pn E=>bC) (he:=fun cl C s H ex pn E=>(pv 0))) ao)))),?_⟩
 obtain⟨us,e,hl,hu⟩:=hM.ex
 refine⟨_,rfl,l,rfl,⟨_,SqL.of e⟩,fun lc hlc=>?_⟩
 refine bL (J:=Itl K0 l) (l:=lc) us.length (fun i σ' H'=>∃ v0 v1:Option V,σ'=[v0,v1]/\Same H H'/\H' lc=some (.lst (((xs.take i).map siz).map V.int))) ⟨none,none,rfl,aq hlc _,ak⟩ ?_ ?_
 ·rintro σ' H1 ⟨v0,v1,rfl,s1,e1⟩
  rw [hl,List.take_length] at e1
  exact⟨⟨_,SqL.of (s1 _ _ e),Nat.le_refl _⟩,lc,_,rfl,SqL.of e1,k H1 s1⟩
 ·rintro i σ' H1 hi ⟨v0,v1,rfl,s1,e1⟩
  have hix:i < xs.length:=by omega
  refine⟨⟨_,_,SqL.of (s1 _ _ e),aZ hi⟩,?_⟩
  rintro y H2 ⟨rfl,hy⟩
  have ey:y=us[i]:=Option.some.inj ((hy _ (SqL.of (s1 _ _ e))).symm.trans (aZ hi))
  obtain⟨t,lp,eu,ht,_⟩:=hu i us[i] xs[i] (aZ hi) (aZ hix)
  rw [eu] at ey
  subst ey
  refine⟨t,_,rfl,SqT.of (s1 _ _ ht),rfl,_,_,rfl,_,_,rfl,rfl,iM (eZ ?_)⟩
  refine⟨_,rfl,_,e1,aK (by rw [List.length_map,List.length_map,List.length_take];omega),_,_,rfl,aU s1 hlc,?_⟩
  rw [ak,take_one (aZ hix),List.map_append,List.map_append]
  rfl
theorem eV:aQ ["texts","found","size","places"] ["texts"] (aB fO):=⟨rfl,rfl,rfl,by decide +kernel,rfl,by decide +kernel,by decide +kernel⟩
theorem mG(h:Has K mg "places_of_all" fO ["texts"])  : Cal P w K mg base "places_of_all" 1 ["texts"] mC:=by
 refine h.mk' eV (fun vs H Q E hs=>?_) (fun f cdv A outer s H vs Q E hr hs=>?_)
 ·obtain⟨l,side,xs,ps,rfl,_⟩:=hs
  rfl
 obtain⟨l,side,xs,ps,rfl,hM,hx,hp,k⟩:=hs
 refine⟨_,(au (aR (i:=1) eV.nd rfl (Or.inl rfl) (cQ ao))
  (au (cG PassesOwn.never rfl (bY (pv 0)) (bH (n:=2) rfl (aH (aD (i:=2) eV.nd rfl (Or.inl rfl)) (aH (aD (i:=3) eV.nd rfl (Or.inl rfl)) bI)))
   (aC (cI (cZ PySem.F.plainAttrs_list PySem.F.slot_list_extend PySem.F.type_list_extend zu (pv 1) (aj (pv 3) ao)))))
  (aC (aV (pv 1))))),?_⟩
 obtain⟨us,e,hl,hu⟩:=hM.ex
 refine⟨smn 0,fun lf hlf=>?_⟩
 refine gN ⟨_,rfl,l,rfl,⟨_,SqL.of (aq hlf _ _ _ e)⟩,?_⟩
 refine iI (K:=K0) (a:=l) (xs:=us) (fun i σ H1=>∃ v2 v3:Option V,σ=[some (.ref l),some (.ref lf),v2,v3]/\Same H H1/\H1 lf=some (.lst (((xs.take i).flatMap fun x=>plI side x ps).map V.int))) ⟨_,_,rfl,aq hlf _,ak⟩ ?_ ?_ ?_
 ·rintro i σ H1 _ ⟨_,_,_,s1,_⟩
  exact SqL.of (s1 _ _ e)
 ·rintro i y σ H1 hi ⟨v2,v3,rfl,s1,e1⟩
  have hix:i < xs.length:=by have:=(List.getElem?_eq_some_iff.mp hi).1;omega
  obtain⟨t,lp,eu,ht,hlp⟩:=hu i y xs[i] hi (aZ hix)
  subst eu
  refine⟨t,_,rfl,SqT.of (s1 _ _ ht),rfl,_,_,rfl,_,_,rfl,rfl,?_⟩
  have h1:=oF (side:=side) (ps:=ps) (xs.take i)
  have h2:=zQ side xs[i] ps
  have h3:(xs.take i).length * ps.length<=100 * 1000:=Nat.mul_le_mul (by rw [List.length_take];omega) hp
  refine⟨_,rfl,.inl ⟨rfl,_,SqL.of e1⟩,_,rfl,lf,lp,_,_,rfl,rfl,e1,s1 _ _ hlp,?_,_,_,rfl,aU s1 hlf,?_⟩
  ·rw [List.length_map,List.length_map]
   exact Nat.le_trans (show _<=1000000 by omega) cu
  ·rw [ak,take_one (aZ hix),List.flatMap_append,List.map_append]
   simp
 ·rintro σ H1 ⟨v2,v3,rfl,s1,e1⟩
  rw [hl,List.take_length] at e1
  exact⟨_,rfl,k lf H1 s1 e1⟩
theorem dY:aQ ["ones","others","prices","above_one","difference","found"] ["ones","others","prices"] (aB eX):=⟨rfl,rfl,rfl,by decide +kernel,rfl,by decide +kernel,by decide +kernel⟩
theorem mD(h:Has K mg "measured_cost" eX ["ones","others","prices"])(Qd:Cal P w K mg base "size_of_all" 1 ["texts"] pQ)(Qc:Cal P w K mg base "hits_of_places" 1 ["left","right"] Ep)(PK:Cal P w K mg base "places_of_all" 1 ["texts"] mC)(Rn:mg "max" = none)(Ph:mg "len" = none)(Qw:mg "abs" = none){Rt:Tok}(RQ:mg "MORE" = some (.int 1 Rt)){Qt:Tok}(QG:mg "STRETCH" = some (.int 3 Qt)){QC:Tok}(Q8:mg "ANCHOR" = some (.int 4 QC)):Cal P w K mg base "measured_cost" 2 ["ones","others","prices"] yd:=by
 refine h.mk' dY (fun vs H Q E hs=>?_) (fun f cdv A outer s H vs Q E hr hs=>?_)
 ·obtain⟨l1,l2,qp,xs,ys,ps,ns,rfl,_⟩:=hs
  rfl
 obtain⟨l1,l2,qp,xs,ys,ps,ns,rfl,m1,m2,hx,hy,hx2,hy2,hp,hqp,hns,k⟩:=hs
 refine⟨_,(au (aR (i:=3) dY.nd rfl (Or.inl rfl) (aP fB (aJ (qg rfl) rfl Rn boot_max (aj (aJ aN rfl Ph PySem.boot_len (aj (pv 0) ao)) (aj (aJ aN rfl Ph PySem.boot_len (aj (pv 1) ao)) ao))) aA))
  (au (aR (i:=4) dY.nd rfl (Or.inl rfl) (aJ lG rfl Qw boot_abs (aj (aP fB (aG Qd hr (by decide) rfl (aj (pv 0) ao)) (aG Qd hr (by decide) rfl (aj (pv 1) ao))) ao)))
  (au (aR (i:=5) dY.nd rfl (Or.inl rfl) (aG Qc hr (by decide) rfl (aj (aG PK hr (by decide) rfl (aj (pv 0) ao)) (aj (aG PK hr (by decide) rfl (aj (pv 1) ao)) ao))))
  (aC (aV (aP fB (aP bA (aP iy (bx bh (pv 2) (jN (v:=.int 1) rfl RQ ⟨Rt,rfl⟩) (fun _ _=>rfl)) (pv 3)) (aP iy (bx bh (pv 2) (jN (v:=.int 3) rfl QG ⟨Qt,rfl⟩) (fun _ _=>rfl)) (pv 4))) (aP iy (bx bh (pv 2) (jN (v:=.int 4) rfl Q8 ⟨QC,rfl⟩) (fun _ _=>rfl)) (pv 5)))))))),?_⟩
 obtain⟨us,e1,hu1,_⟩:=id m1.ex
 obtain⟨ws,e2,hu2,_⟩:=id m2.ex
 have b1:=pX hx2
 have b2:=pX hy2
 refine⟨_,rfl,l1,_,rfl,.inl (SqL.of e1),_,rfl,l2,_,rfl,.inl (SqL.of e2),_,_,rfl,_,_,rfl,rfl,?_⟩
 rw [hu1,hu2]
 refine gN ⟨_,rfl,l1,0,xs,ps,rfl,m1,by omega,fun H1 s1=>?_⟩
 refine⟨_,rfl,l2,1,ys,ps,rfl,m2.same s1,by omega,fun H2 s2=>⟨_,_,rfl,rfl,_,rfl,?_⟩⟩
 have s02:=s1.trans s2
 refine gN ⟨_,rfl,l1,0,xs,ps,rfl,m1.same s02,by omega,hp,fun l3 H3 s3 e3=>?_⟩
 refine⟨_,rfl,l2,1,ys,ps,rfl,m2.same (s02.trans s3),by omega,hp,fun l4 H4 s4 e4=>?_⟩
 have h1:=oF (side:=0) (ps:=ps) xs
 have h2:=oF (side:=1) (ps:=ps) ys
 have h3:xs.length * ps.length<=3 * 1000:=Nat.mul_le_mul hx hp
 have h4:ys.length * ps.length<=3 * 1000:=Nat.mul_le_mul hy hp
 refine⟨l3,l4,_,_,rfl,s4 _ _ e3,e4,by omega,by omega,fun L H5 s5 hnd hL=>?_⟩
 have hlen:L.length=wV (bG xs) (bG ys) ps:=Dd hnd fun k=>by rw [hL k,zc,zc]
 have hLb:L.length<=1000:=by
  rw [hlen]
  unfold wV
  have:=List.length_filter_le (vG (bG xs) (bG ys)) ps
  omega
 have s05:=((s02.trans s3).trans s4).trans s5
 have at1:atI (ns.map V.int) 1=some (.int (ns.getD 1 0)):=aO (j:=1) (int_at (by omega))
 have at3:atI (ns.map V.int) 3=some (.int (ns.getD 3 0)):=aO (j:=3) (int_at (by omega))
 have at4:atI (ns.map V.int) 4=some (.int (ns.getD 4 0)):=aO (j:=4) (int_at (by omega))
 have q5:=s05 _ _ hqp
 have bm:-(2 ^ 64) < Ho (xs.length:Nat) (ys.length:Nat) - 1/\Ho (xs.length:Nat) (ys.length:Nat) - 1 < 2 ^ 64:=by
  unfold Ho
  split <;> omega
 have bd:-(2 ^ 64) < GP ((xs.map siz).sum - (ys.map siz).sum)/\GP ((xs.map siz).sum - (ys.map siz).sum) < 2 ^ 64:=by
  unfold GP
  split <;> omega
 refine gN ⟨_,rfl,ixT (p:=qp) rfl rfl (SqT.of q5) (at1) (⟨ _,rfl,_,_,rfl,rfl,.inr bm,_,rfl,ixT (p:=qp) rfl rfl (SqT.of q5) (at3) (⟨ _,rfl,_,_,rfl,rfl,.inr bd,_,_,rfl,rfl,_,rfl,ixT (p:=qp) rfl rfl (SqT.of q5) (at4) (⟨ _,rfl,_,_,rfl,rfl,.inr ⟨by omega,by omega⟩,_,_,rfl,rfl,?_⟩)⟩)⟩)⟩
 have:=k H5 s05
 unfold costOf Gj at this
 rw [← hlen] at this
 exact this
end
theorem iH(i a n:Nat)(h:n=a):CQ (i:Nat) n=(List.range' i a).map fun k=>V.int (k:Nat):=by
 subst h
 unfold CQ
 rw [List.range'_eq_map_range,List.map_map]
 refine List.map_congr_left fun k _=>?_
 show V.int _=V.int _
 congr 1
theorem uW(H:Hp):∀ xs:List Nat,cj H (xs.map fun k=>V.int (k:Nat)) (xs.map fun i=>D.int (i:Nat))
 | []=>trivial
 | _ :: xs=>⟨rfl,uW H xs⟩
theorem JX{H:Hp}{v:V}{xs:List Nat}(h:Den H v (nD xs)):∃ t:Addr,v=.ref t/\H t=some (.tup (xs.map fun k=>V.int (k:Nat))):=by
 obtain⟨t,vs,e,ht,hd⟩:=bO h
 have:vs=xs.map fun k=>V.int (k:Nat):=by
  clear ht e h
  induction xs generalizing vs with
  | nil =>
   cases vs with
   | nil=>rfl
   | cons _ _=>exact hd.elim
  | cons x xs ih =>
   cases vs with
   | nil=>exact hd.elim
   | cons u us =>
    have e:u=.int (x:Nat):=hd.1
    rw [e,ih us hd.2]
    rfl
 rw [this] at ht
 exact⟨t,e,ht⟩
theorem Ga{H:Hp}{v:V}{a b:D}(h:Den H v (.tup [a,b])):∃(t:Addr)(x y:V),v=.ref t/\H t=some (.tup [x,y])/\Den H x a/\Den H y b:=by
 obtain⟨t,vs,e,ht,hd⟩:=bO h
 match vs,hd with
 | [x,y],hd=>exact⟨t,x,y,e,ht,hd.1,hd.2.1⟩
 | [],hd=>exact hd.elim
 | [_],hd=>exact hd.2.elim
 | _ :: _ :: _ :: _,hd=>exact hd.2.2.elim
theorem at_of{H:Hp}{vs:List V}{ds:List D}(d:cj H vs ds){i:Nat}{v:V}(h:vs[i]?=some v){e:D}(he:ds[i]?=some e):Den H v e:=by
 obtain⟨f,hf,k⟩:=d.at_ h
 rw [hf] at he
 cases he
 exact k
theorem jg{H:Hp}{v:V}{q:Lk}(h:Den H v (lkD q)):∃ p a b,v=.ref p/\H p=some (.tup [.ref a,.ref b])/\H a=some (.tup (q.1.map fun i=>V.int (i:Nat)))/\H b=some (.tup (q.2.map fun i=>V.int (i:Nat))):=by
 obtain⟨p,vs,rfl,hp,d⟩:=bO h
 match vs,d,hp with
 | [x,y],d,hp =>
  obtain⟨a,rfl,ha⟩:=JX d.1
  obtain⟨b,rfl,hb⟩:=JX d.2.1
  exact⟨p,a,b,rfl,hp,ha,hb⟩
 | [],d,_=>exact d.elim
 | [_],d,_=>exact d.2.elim
 | _ :: _ :: _ :: _,d,_=>exact d.2.2.elim
theorem Cp{K:W.Frag}{H H':Hp}{a:Addr}{xs:List V}(h:SqT K H a xs)(s:Same H H'):SqT K H' a xs:=by
 rcases h with (e | ⟨o,e⟩) | r
 ·exact .inl (.inl (s _ _ e))
 ·exact .inl (.inr ⟨o,s _ _ e⟩)
 ·exact .inr r
noncomputable def JR(K:W.Frag):Sp:=fun vs H Q _=>∃(i j a b:Nat)(sh:Addr),vs=[.int (i:Nat),.int (j:Nat),.ref sh]/\SqT K H sh [.int (a:Nat),.int (b:Nat)]/\i<=1000/\j<=1000/\a<=3/\b<=3/\∀(r:V)(H':Hp),Same H H'->Den H' r (stD (one i j (a,b)))->Q r H'
noncomputable def pU:Sp:=fun vs H Q _=>∃(i j:Nat),vs=[.int (i:Nat),.int (j:Nat)]/\∀(r:V)(H':Hp),Same H H'->Den H' r (stD (crs i j))->Q r H'
noncomputable def pC:Sp:=fun vs H Q _=>∃(v:V)(s:Stp),vs=[v]/\Den H v (stD s)/\s.length<=2/\(∀ p∈s,p.1.length<=1000/\p.2.length<=1000)/\∀(r:Addr)(H':Hp),Same H H'->H' r=some (.tup [.int (sz1 s:Nat),.int (sz2 s:Nat)])->Q (.ref r) H'
section
variable {P:Program}{w:World}{K:W.Frag}{mg:Str->Option Value}{base:Heap}
theorem zY:aQ ["i","j","shape"] ["i","j","shape"] (aB lF):=⟨rfl,rfl,rfl,by decide +kernel,rfl,by decide +kernel,by decide +kernel⟩
theorem wB(h:Has K mg "one_link" lF ["i","j","shape"])(Pb:mg "tuple" = none)(Pg:mg "range" = none):Cal P w K mg base "one_link" 1 ["i","j","shape"] (JR K):=by
 refine h.mk' zY (fun vs H Q E hs=>?_) (fun f cdv A outer s H vs Q E hr hs=>?_)
 ·obtain⟨i,j,a,b,sh,rfl,_⟩:=hs
  rfl
 obtain⟨i,j,a,b,sh,rfl,hsh,hi,hj,ha,hb,k⟩:=hs
 refine⟨_,(aC (aV (aM (aj (aM (aj (jO rfl rfl Pb rfl Pg (aj (pv 0) (aj (aP bA (pv 0) (bx uP (pv 2) aA (fun _ _=>rfl))) ao))) (aj (jO rfl rfl Pb rfl Pg (aj (pv 1) (aj (aP bA (pv 1) (bx uP (pv 2) aA (fun _ _=>rfl))) ao))) ao))) ao)))),?_⟩
 refine⟨_,rfl,_,rfl,_,rfl,sh,_,_,_,rfl,rfl,hsh,cJ _ _,_,_,rfl,rfl,_,_,rfl,⟨by omega,by omega,by omega,by omega⟩,by omega,fun p1 hp1=>?_⟩
 rw [iH i a _ (by omega)]
 have s1:=aq hp1 (.tup ((List.range' i a).map fun k=>V.int (k:Nat)))
 have e1:(upd H p1 (.tup ((List.range' i a).map fun k=>V.int (k:Nat)))) p1=some (.tup ((List.range' i a).map fun k=>V.int (k:Nat))):=ak
 generalize upd H p1 (.tup ((List.range' i a).map fun k=>V.int (k:Nat)))=H1 at s1 e1 ⊢
 refine⟨_,rfl,_,rfl,_,rfl,sh,_,_,_,rfl,rfl,Cp hsh s1,aO (xs:=[V.int (a:Nat),V.int (b:Nat)]) (j:=1) rfl,_,_,rfl,rfl,_,_,rfl,⟨by omega,by omega,by omega,by omega⟩,by omega,fun p2 hp2=>?_⟩
 rw [iH j b _ (by omega)]
 have s2:=aq hp2 (.tup ((List.range' j b).map fun k=>V.int (k:Nat)))
 have e2:(upd H1 p2 (.tup ((List.range' j b).map fun k=>V.int (k:Nat)))) p2=some (.tup ((List.range' j b).map fun k=>V.int (k:Nat))):=ak
 generalize upd H1 p2 (.tup ((List.range' j b).map fun k=>V.int (k:Nat)))=H2 at s2 e2 ⊢
 refine⟨smn 2,fun p3 hp3=>?_⟩
 have s3:=aq hp3 (.tup [.ref p1,.ref p2])
 have e3:(upd H2 p3 (.tup [.ref p1,.ref p2])) p3=some (.tup [.ref p1,.ref p2]):=ak
 generalize upd H2 p3 (.tup [.ref p1,.ref p2])=H3 at s3 e3 ⊢
 refine⟨smn 1,fun p4 hp4=>?_⟩
 have s4:=aq hp4 (.tup [.ref p3])
 have e4:(upd H3 p4 (.tup [.ref p3])) p4=some (.tup [.ref p3]):=ak
 generalize upd H3 p4 (.tup [.ref p3])=H4 at s4 e4 ⊢
 exact k _ H4 (((s1.trans s2).trans s3).trans s4) ⟨p4,_,rfl,e4,⟨p3,_,rfl,s4 _ _ e3,⟨p1,_,rfl,s4 _ _ (s3 _ _ (s2 _ _ e1)),uW _ _⟩,⟨p2,_,rfl,s4 _ _ (s3 _ _ e2),uW _ _⟩,trivial⟩,trivial⟩
theorem xV:aQ ["i","j"] ["i","j"] (aB lM):=⟨rfl,rfl,rfl,by decide +kernel,rfl,by decide +kernel,by decide +kernel⟩
theorem zN(h:Has K mg "crossed" lM ["i","j"])  : Cal P w K mg base "crossed" 1 ["i","j"] pU:=by
 refine h.mk' xV (fun vs H Q E hs=>?_) (fun f cdv A outer s H vs Q E hr hs=>?_)
 ·obtain⟨i,j,rfl,_⟩:=hs
  rfl
 obtain⟨i,j,rfl,k⟩:=hs
 refine⟨_,(aC (aV (aM (aj (aM (aj (aM (aj (pv 0) ao)) (aj (aM (aj (aP bA (pv 1) aA) ao)) ao))) (aj (aM (aj (aM (aj (aP bA (pv 0) aA) ao)) (aj (aM (aj (pv 1) ao)) ao))) ao))))),?_⟩
 refine⟨_,rfl,smn 1,fun p1 hp1=>?_⟩
 have s1:=aq hp1 (.tup [.int (i:Nat)])
 have e1:(upd H p1 (.tup [.int (i:Nat)])) p1=some (.tup [.int (i:Nat)]):=ak
 generalize upd H p1 (.tup [.int (i:Nat)])=H1 at s1 e1 ⊢
 refine⟨_,rfl,_,_,rfl,rfl,smn 1,fun p2 hp2=>?_⟩
 have s2:=aq hp2 (.tup [.int ((j:Nat)+1)])
 have e2:(upd H1 p2 (.tup [.int ((j:Nat)+1)])) p2=some (.tup [.int ((j:Nat)+1)]):=ak
 generalize upd H1 p2 (.tup [.int ((j:Nat)+1)])=H2 at s2 e2 ⊢
 refine⟨smn 2,fun p3 hp3=>?_⟩
 have s3:=aq hp3 (.tup [.ref p1,.ref p2])
 have e3:(upd H2 p3 (.tup [.ref p1,.ref p2])) p3=some (.tup [.ref p1,.ref p2]):=ak
 generalize upd H2 p3 (.tup [.ref p1,.ref p2])=H3 at s3 e3 ⊢
 refine⟨_,rfl,_,_,rfl,rfl,smn 1,fun p4 hp4=>?_⟩
 have s4:=aq hp4 (.tup [.int ((i:Nat)+1)])
 have e4:(upd H3 p4 (.tup [.int ((i:Nat)+1)])) p4=some (.tup [.int ((i:Nat)+1)]):=ak
 generalize upd H3 p4 (.tup [.int ((i:Nat)+1)])=H4 at s4 e4 ⊢
 refine⟨_,rfl,smn 1,fun p5 hp5=>?_⟩
 have s5:=aq hp5 (.tup [.int (j:Nat)])
 have e5:(upd H4 p5 (.tup [.int (j:Nat)])) p5=some (.tup [.int (j:Nat)]):=ak
 generalize upd H4 p5 (.tup [.int (j:Nat)])=H5 at s5 e5 ⊢
 refine⟨smn 2,fun p6 hp6=>?_⟩
 have s6:=aq hp6 (.tup [.ref p4,.ref p5])
 have e6:(upd H5 p6 (.tup [.ref p4,.ref p5])) p6=some (.tup [.ref p4,.ref p5]):=ak
 generalize upd H5 p6 (.tup [.ref p4,.ref p5])=H6 at s6 e6 ⊢
 refine⟨smn 2,fun p7 hp7=>?_⟩
 have s7:=aq hp7 (.tup [.ref p3,.ref p6])
 have e7:(upd H6 p7 (.tup [.ref p3,.ref p6])) p7=some (.tup [.ref p3,.ref p6]):=ak
 generalize upd H6 p7 (.tup [.ref p3,.ref p6])=H7 at s7 e7 ⊢
 have s37:=((s4.trans s5).trans s6).trans s7
 have s47:=(s5.trans s6).trans s7
 have s57:=s6.trans s7
 exact k _ H7 (((s1.trans s2).trans s3).trans s37) ⟨p7,_,rfl,e7,⟨p3,_,rfl,s37 _ _ e3,⟨p1,_,rfl,s37 _ _ (s3 _ _ (s2 _ _ e1)),rfl,trivial⟩,⟨p2,_,rfl,s37 _ _ (s3 _ _ e2),rfl,trivial⟩,trivial⟩,⟨p6,_,rfl,s7 _ _ e6,⟨p4,_,rfl,s47 _ _ e4,rfl,trivial⟩,⟨p5,_,rfl,s57 _ _ e5,rfl,trivial⟩,trivial⟩,trivial⟩
theorem Cz:aQ ["step"] ["step"] (aB j4):=⟨rfl,rfl,rfl,by decide +kernel,rfl,by decide +kernel,by decide +kernel⟩
theorem Dv(h:Has K mg "passed" j4 ["step"])(Px:mg "sum" = none)(Ph:mg "len" = none):Cal P w K mg base "passed" 1 ["step"] pC:=by
 refine h.mk' Cz (fun vs H Q E hs=>?_) (fun f cdv A outer s H vs Q E hr hs=>?_)
 ·obtain⟨v,s,rfl,_⟩:=hs
  rfl
 obtain⟨v,s,rfl,hv,hl2,hb2,k⟩:=hs
 refine⟨_,(aC (aV (aM (aj (aJ (cR rfl) rfl Px boot_sum (aj (bD ["step"] (aB j4) ["ones","others"] [none,none] rfl rfl rfl (bQ (pv 0)) rfl (by decide +kernel) (by decide +kernel) (by decide +kernel) (by decide +kernel) (g:=rT K0 2 (dG (cP 0) (dG (cP 1) tG))) (hg:=fun cl C s H ex pn E=>bH (n:=2) rfl (aH (aD (i:=0) (by decide +kernel:(["ones","others"]:List Str).Nodup) rfl (Or.inl rfl) (Or.inr rfl)) (aH (aD (i:=1) (by decide +kernel:(["ones","others"]:List Str).Nodup) rfl (Or.inl rfl) (Or.inr rfl)) bI))) (ht:=fun cl C s H ex pn E=>bC) (he:=fun cl C s H ex pn E=>(aJ (dH (K:=K) rfl) rfl Ph PySem.boot_len (aj (pv 0) ao)))) ao)) (aj (aJ (cR rfl) rfl Px boot_sum (aj (bD ["step"] (aB j4) ["ones","others"] [none,none] rfl rfl rfl (bQ (pv 0)) rfl (by decide +kernel) (by decide +kernel) (by decide +kernel) (by decide +kernel) (g:=rT K0 2 (dG (cP 0) (dG (cP 1) tG))) (hg:=fun cl C s H ex pn E=>bH (n:=2) rfl (aH (aD (i:=0) (by decide +kernel:(["ones","others"]:List Str).Nodup) rfl (Or.inl rfl) (Or.inr rfl)) (aH (aD (i:=1) (by decide +kernel:(["ones","others"]:List Str).Nodup) rfl (Or.inl rfl) (Or.inr rfl)) bI))) (ht:=fun cl C s H ex pn E=>bC) (he:=fun cl C s H ex pn E=>(aJ (dH (K:=K) rfl) rfl Ph PySem.boot_len (aj (pv 1) ao)))) ao)) ao))))),?_⟩
 obtain⟨q,ls,rfl,hq,dl⟩:=bO hv
 have hll:=dl.len
 rw [List.length_map] at hll
 have hcst:∀ f:Lk->Nat,(s.map fun p=>((f p:Nat):Int)).sum=(((s.map f).sum:Nat):Int):=fun f=>by
  clear hv hl2 hb2 k dl hll
  induction s with
  | nil=>rfl
  | cons p r ih =>
   rw [List.map_cons,List.sum_cons,List.map_cons,List.sum_cons,ih]
   exact (Int.natCast_add _ _).symm
 refine⟨_,rfl,q,rfl,⟨_,SqT.of hq⟩,fun l hl=>?_⟩
 refine bL (J:=Itt K0 q) (l:=l) s.length (fun i σ' H'=>∃ v0 v1:Option V,σ'=[v0,v1]/\Same H H'/\H' l=some (.lst (((s.take i).map fun p=>((p.1.length:Nat):Int)).map V.int))) ⟨none,none,rfl,aq hl _,ak⟩ ?_ ?_
 ·rintro σ' H1 ⟨v0,v1,rfl,s1,e1⟩
  rw [List.take_length] at e1
  refine⟨⟨_,SqT.of (s1 _ _ hq),by omega⟩,l,_,rfl,SqL.of e1,?_⟩
  rw [hcst fun p=>p.1.length]
  refine⟨_,rfl,q,rfl,⟨_,SqT.of (s1 _ _ hq)⟩,fun m hm=>?_⟩
  refine bL (J:=Itt K0 q) (l:=m) s.length (fun i σ' H'=>∃ v0 v1:Option V,σ'=[v0,v1]/\Same H1 H'/\H' m=some (.lst (((s.take i).map fun p=>((p.2.length:Nat):Int)).map V.int))) ⟨none,none,rfl,aq hm _,ak⟩ ?_ ?_
  ·rintro σ' H2 ⟨v0,v1,rfl,s2,e2⟩
   rw [List.take_length] at e2
   refine⟨⟨_,SqT.of (s2 _ _ (s1 _ _ hq)),by omega⟩,m,_,rfl,SqL.of e2,?_⟩
   rw [hcst fun p=>p.2.length]
   refine⟨smn 2,fun r hr=>?_⟩
   exact k r _ ((s1.trans s2).trans (aq hr _)) ak
  ·rintro x σ' H2 hx ⟨v0,v1,rfl,s2,e2⟩
   have hxl:x < ls.length:=by omega
   have hat:=aZ hxl
   refine⟨⟨_,_,SqT.of (s2 _ _ (s1 _ _ hq)),hat⟩,?_⟩
   rintro y H3 ⟨rfl,hy⟩
   have ey:y=ls[x]:=Option.some.inj ((hy _ (SqT.of (s2 _ _ (s1 _ _ hq)))).symm.trans hat)
   have dy:Den H y (lkD s[x]):=by rw [ey];exact at_of dl hat (by rw [List.getElem?_map,aZ hx];rfl)
   obtain⟨c,a,b,rfl,hc,ha,hb⟩:=jg (dy.same (s1.trans s2))
   refine⟨c,_,rfl,SqT.of hc,rfl,_,_,rfl,_,_,rfl,rfl,iM (eZ ?_)⟩
   refine⟨_,rfl,b,_,rfl,.inr (SqT.of hb),_,e2,?_,_,_,rfl,aU s2 hm,?_⟩
   ·rw [List.length_map,List.length_map,List.length_take]
    exact aK (by omega)
   ·rw [ak,take_one (aZ hx),List.map_append,List.map_append,List.length_map]
    rfl
 ·rintro x σ' H1 hx ⟨v0,v1,rfl,s1,e1⟩
  have hxl:x < ls.length:=by omega
  have hat:=aZ hxl
  refine⟨⟨_,_,SqT.of (s1 _ _ hq),hat⟩,?_⟩
  rintro y H3 ⟨rfl,hy⟩
  have ey:y=ls[x]:=Option.some.inj ((hy _ (SqT.of (s1 _ _ hq))).symm.trans hat)
  have dy:Den H y (lkD s[x]):=by rw [ey];exact at_of dl hat (by rw [List.getElem?_map,aZ hx];rfl)
  obtain⟨c,a,b,rfl,hc,ha,hb⟩:=jg (dy.same s1)
  refine⟨c,_,rfl,SqT.of hc,rfl,_,_,rfl,_,_,rfl,rfl,iM (eZ ?_)⟩
  refine⟨_,rfl,a,_,rfl,.inr (SqT.of ha),_,e1,?_,_,_,rfl,aU s1 hl,?_⟩
  ·rw [List.length_map,List.length_map,List.length_take]
   exact aK (by omega)
  ·rw [ak,take_one (aZ hx),List.map_append,List.map_append,List.length_map]
   rfl
end
noncomputable def pick(xs:List Str)(is:List Nat):List Str:=is.map fun k=>xs.getD k Str.empty
noncomputable def iK(ns:List Int)(xs ys:List Str)(ps:List (Str × Str))(l:Lk):Int:=if l.1=[]\/l.2=[] then ns.getD 0 0 else costOf ns (pick xs l.1) (pick ys l.2) ps
noncomputable def aY(ns:List Int)(xs ys:List Str)(ps:List (Str × Str))(s:Stp):Int:=(s.map (iK ns xs ys ps)).sum+if s.length=2 then ns.getD 2 0 else 0
structure wW(m n:Nat)(l:Lk):Prop where
 a:∀ k∈l.1,k < m
 b:∀ k∈l.2,k < n
 la:l.1.length<=3
 lb:l.2.length<=3
structure jF(H:Hp)(l1 l2 qp:Addr)(ns:List Int)(xs ys:List Str)(ps:List (Str × Str)):Prop where
 m1:wQ H l1 0 xs ps
 m2:wQ H l2 1 ys ps
 qp:H qp=some (.tup (ns.map V.int))
 n5:ns.length=5
 tx:∀ x∈xs,x.length<=1000
 ty:∀ x∈ys,x.length<=1000
 pl:ps.length<=1000
theorem jF.same{H H':Hp}{l1 l2 qp:Addr}{ns:List Int}{xs ys:List Str}{ps:List (Str × Str)}(h:jF H l1 l2 qp ns xs ys ps)(s:Same H H'):jF H' l1 l2 qp ns xs ys ps:=⟨h.m1.same s,h.m2.same s,s _ _ h.qp,h.n5,h.tx,h.ty,h.pl⟩
theorem getD_mem{xs:List Str}{k:Nat}(h:k < xs.length):xs.getD k Str.empty∈xs:=by
 rw [List.getD_eq_getElem?_getD,List.getElem?_eq_getElem h]
 exact List.getElem_mem h
theorem kZ{xs:List Str}{is:List Nat}(h:∀ k∈is,k < xs.length)(ht:∀ x∈xs,x.length<=1000):∀ x∈pick xs is,x.length<=1000:=fun x hx=>by
 obtain⟨k,hk,rfl⟩:=List.mem_map.mp hx
 exact ht _ (getD_mem (h k hk))
theorem wQ.pick{H:Hp}{l l':Addr}{side:Nat}{xs:List Str}{ps:List (Str × Str)}{us:List V}{is:List Nat}(el:H l=some (.lst us))(h:wQ H l side xs ps)(hi:∀ k∈is,k < xs.length)(e:H l'=some (.lst (is.map fun k=>us.getD k .non))):wQ H l' side (Mine.pick xs is) ps:=by
 obtain⟨us',e',hl,hk⟩:=h.ex
 rw [el] at e'
 cases e'
 refine⟨_,e,by unfold Mine.pick;rw [List.length_map,List.length_map],fun i u x hu hx=>?_⟩
 unfold Mine.pick at hx
 rw [List.getElem?_map] at hu hx
 cases hq:is[i]? with
 | none=>rw [hq] at hu;cases hu
 | some k =>
  rw [hq] at hu hx
  have hkx:=hi k (List.mem_of_getElem? hq)
  have eu:us.getD k .non=u:=Option.some.inj hu
  have ex:xs.getD k Str.empty=x:=Option.some.inj hx
  refine hk k u x ?_ ?_
  ·rw [← eu,List.getD_eq_getElem?_getD,List.getElem?_eq_getElem (by omega)]
   rfl
  ·rw [← ex,List.getD_eq_getElem?_getD,List.getElem?_eq_getElem hkx]
   rfl
theorem pY{K:PySem.W.Frag}{l q lb:Addr}{us:List V}{is:List Nat}{H:Hp}{R:Hp->Prop}(el:H l=some (.lst us))(eq:H q=some (.tup (is.map fun k=>V.int (k:Nat))))(hi:∀ k∈is,k < us.length)(hn:is.length<=3)(hlb:H lb=none)
  (hfin:∀ H',Same H H'->H' lb=some (.lst (is.map fun k=>us.getD k .non))->R H') :
  ∃ W:Nat->Nat->L2.St->Hp->Prop,(∃ m,W 0 m [some (.ref l),none] (upd H lb (.lst [])))/\∀ i m σ H,W i m σ H ->
   ((Itt K q).stop i H/\R H)\/((Itt K q).go i H/\∃ N:L2.St->Hp->Prop,(∀ σ' H',N σ' H'->∃ m',m' < m/\W (i+1) m' σ' H') /\
    ∀ x H',(Itt K q).yld i H x H'->cP 1 x σ H' fun σ2 H2=>Ij σ2 H2 fun b H3=>if b=true then tOp (Kg K) (vM 0) (vM 1) σ2 H3 fun v H4=>∃ ys,H4 lb=some (.lst ys)/\ys.length < sizeLine/\N σ2 (upd H4 lb (.lst (ys++[v]))) else N σ2 H3):=by
 refine bL (J:=Itt K q) (l:=lb) is.length (fun i σ' H'=>∃ v1:Option V,σ'=[some (.ref l),v1]/\Same H H'/\H' lb=some (.lst ((is.take i).map fun k=>us.getD k .non))) ⟨none,rfl,aq hlb _,ak⟩ ?_ ?_
 ·rintro σ' H1 ⟨v1,rfl,s1,e1⟩
  rw [List.take_length] at e1
  exact⟨⟨_,SqT.of (s1 _ _ eq),by rw [List.length_map];exact Nat.le_refl _⟩,hfin H1 s1 e1⟩
 ·rintro i σ' H1 hii ⟨v1,rfl,s1,e1⟩
  have hr:(is.map fun k=>V.int (k:Nat))[i]?=some (.int (is[i]:Nat)):=by rw [List.getElem?_map,List.getElem?_eq_getElem hii];rfl
  refine⟨⟨_,_,SqT.of (s1 _ _ eq),hr⟩,?_⟩
  rintro y H2 ⟨rfl,hy⟩
  have ey:y=.int (is[i]:Nat):=Option.some.inj ((hy _ (SqT.of (s1 _ _ eq))).symm.trans hr)
  subst ey
  have hik:=hi _ (List.getElem_mem hii)
  have htk:(is.take (i+1)).map (fun k=>us.getD k V.non)=(is.take i).map (fun k=>us.getD k V.non)++[us.getD is[i] .non]:=by rw [List.take_add_one,List.getElem?_eq_getElem hii,List.map_append];rfl
  rw [htk]
  have hat:atI us ((is[i]:Nat):Int)=some (us.getD is[i] .non):=aO (by rw [List.getElem?_eq_getElem hik,List.getD_eq_getElem?_getD,List.getElem?_eq_getElem hik];rfl)
  refine gN (iM (eZ ⟨_,rfl,_,rfl,l,_,_,_,rfl,rfl,SqL.of (s1 _ _ el),hat,_,e1,aK (by rw [List.length_map,List.length_take];omega),_,rfl,fun x u z=>?_,ak⟩))
  rw [aL (aF z hlb)]
  exact s1 _ _ z
noncomputable def nA:Sp:=fun vs H Q _=>∃(v:V)(l1 l2 qp:Addr)(lk:Lk)(ns:List Int)(xs ys:List Str)(ps:List (Str × Str)),vs=[v,.ref l1,.ref l2,.ref qp]/\Den H v (lkD lk)/\wW xs.length ys.length lk/\jF H l1 l2 qp ns xs ys ps/\∀ H',Same H H'->Q (.int (iK ns xs ys ps lk)) H'
noncomputable def jX:Sp:=fun vs H Q _=>∃(v:V)(l1 l2 qp:Addr)(s:Stp)(ns:List Int)(xs ys:List Str)(ps:List (Str × Str)),vs=[v,.ref l1,.ref l2,.ref qp]/\Den H v (stD s)/\(∀ l∈s,wW xs.length ys.length l)/\s.length<=2/\jF H l1 l2 qp ns xs ys ps/\∀ H',Same H H'->Q (.int (aY ns xs ys ps s)) H'
section
open M01
variable {P:Program}{w:World}{K:W.Frag}{mg:Str->Option Value}{base:Heap}
theorem jR:aQ ["link","left","right","prices","ones","others"] ["link","left","right","prices"] (aB gq):=⟨rfl,rfl,rfl,by decide +kernel,rfl,by decide +kernel,by decide +kernel⟩
theorem tZ(h:Has K mg "link_cost" gq ["link","left","right","prices"])(Qe:Cal P w K mg base "measured_cost" 2 ["ones","others","prices"] yd)(Ph:mg "len" = none){R5:Tok}(Ss:mg "OUT" = some (.int 0 R5)):Cal P w K mg base "link_cost" 3 ["link","left","right","prices"] nA:=by
 refine h.mk' jR (fun vs H Q E hs=>?_) (fun f cdv A outer s H vs Q E hr hs=>?_)
 ·obtain⟨v,l1,l2,qp,lk,ns,xs,ys,ps,rfl,_⟩:=hs
  rfl
 obtain⟨v,l1,l2,qp,lk,ns,xs,ys,ps,rfl,hv,hin,hC,k⟩:=hs
 refine⟨_,(au (cD (PW.pt (wI (aW dR (aJ aN rfl Ph PySem.boot_len (aj (bx bh (pv 0) aA (fun _ _=>rfl)) ao)) aA (bB _)) (m7 (aW dR (aJ aN rfl Ph PySem.boot_len (aj (bx bh (pv 0) aA (fun _ _=>rfl)) ao)) aA (bB _)))))
   (aC (aV (bx bh (pv 3) (jN (v:=.int 0) rfl Ss ⟨R5,rfl⟩) (fun _ _=>rfl))))
   bF)
  (au (iW (ix:=4) jR.nd rfl rfl ["link","left","right","prices","ones","others"] (aB gq) ["left","place"] [some 1,none] rfl rfl rfl (bQ (bx bh (pv 0) aA (fun _ _=>rfl))) rfl (by decide +kernel) (by decide +kernel) (by decide +kernel) (by decide +kernel) (hg:=fun cl C s H ex pn E=>(aD (i:=1) (by decide +kernel:(["left","place"]:List Str).Nodup) rfl (Or.inl rfl))) (ht:=fun cl C s H ex pn E=>bC) (he:=fun cl C s H ex pn E=>(bx (aX) (pv 0) (pv 1) (fun _ _=>rfl))))
  (au (iW (ix:=5) jR.nd rfl rfl ["link","left","right","prices","ones","others"] (aB gq) ["right","place"] [some 2,none] rfl rfl rfl (bQ (bx bh (pv 0) aA (fun _ _=>rfl))) rfl (by decide +kernel) (by decide +kernel) (by decide +kernel) (by decide +kernel) (hg:=fun cl C s H ex pn E=>(aD (i:=1) (by decide +kernel:(["right","place"]:List Str).Nodup) rfl (Or.inl rfl))) (ht:=fun cl C s H ex pn E=>bC) (he:=fun cl C s H ex pn E=>(bx (aX) (pv 0) (pv 1) (fun _ _=>rfl))))
  (aC (aV (aG Qe hr (by decide) rfl (aj (pv 4) (aj (pv 5) (aj (pv 3) ao))))))))),?_⟩
 obtain⟨t,a,b,rfl,ht,ha,hb⟩:=jg hv
 have at0:atI (ns.map V.int) 0=some (.int (ns.getD 0 0)):=aO (j:=0) (int_at (by have:=hC.n5;omega))
 have n0:∀ {is:List Nat},decide (V.int (((is.map fun k=>V.int (k:Nat)).length:Nat):Int)=V.int 0)=decide (is=[]):=fun {is}=>by
  rw [List.length_map]
  cases is with
  | nil=>rfl
  | cons x is=>rw [decide_eq_false (fun z=>by injection z with z;rw [List.length_cons] at z;omega),decide_eq_false (by simp)]
 refine⟨_,rfl,ixT (p:=t) rfl rfl (SqT.of ht) (cJ _ _) (⟨ a,_,rfl,.inr (SqT.of ha),rfl,_,rfl,?_⟩)⟩
 rw [n0]
 refine cU (fun c1=>?_) (fun c1=>?_)
 ·refine eZ ⟨_,rfl,ixT (p:=qp) rfl rfl (SqT.of hC.qp) (at0) (?_)⟩
  have:=k H (Same.refl _)
  unfold iK at this
  rw [if_pos (.inl (of_decide_eq_true c1))] at this
  exact this
 refine⟨_,rfl,ixT (p:=t) rfl rfl (SqT.of ht) (aO (xs:=[V.ref a,V.ref b]) (j:=1) rfl) (⟨ b,_,rfl,.inr (SqT.of hb),rfl,_,rfl,?_⟩)⟩
 rw [n0]
 refine cU (fun c2=>?_) (fun c2=>?_)
 ·refine⟨_,rfl,ixT (p:=qp) rfl rfl (SqT.of hC.qp) (at0) (?_)⟩
  have:=k H (Same.refl _)
  unfold iK at this
  rw [if_pos (.inr (of_decide_eq_true c2))] at this
  exact this
 have hne:¬ (lk.1=[]\/lk.2=[]):=fun z=>z.elim (fun y=>c1 (decide_eq_true y)) fun y=>c2 (decide_eq_true y)
 obtain⟨us,e1,hu1,_⟩:=id hC.m1.ex
 obtain⟨ws,e2,hu2,_⟩:=id hC.m2.ex
 refine⟨_,rfl,ixT (p:=t) rfl rfl (SqT.of ht) (cJ _ _) (⟨ a,rfl,⟨_,SqT.of ha⟩,fun l4 hl4=>?_⟩)⟩
 refine pY e1 ha (fun k hk=>by rw [hu1];exact hin.a k hk) hin.la hl4 fun H4 s4 e4=>?_
 refine gN ⟨_,rfl,ixT (p:=t) rfl rfl (SqT.of (s4 _ _ ht)) (aO (xs:=[V.ref a,V.ref b]) (j:=1) rfl) (⟨ b,rfl,⟨_,SqT.of (s4 _ _ hb)⟩,fun l5 hl5=>?_⟩)⟩
 refine pY (s4 _ _ e2) (s4 _ _ hb) (fun k hk=>by rw [hu2];exact hin.b k hk) hin.lb hl5 fun H5 s5 e5=>?_
 have s45:=s4.trans s5
 refine gN ⟨_,rfl,_,rfl,_,rfl,l4,l5,qp,pick xs lk.1,pick ys lk.2,ps,ns,rfl,(hC.m1.same s45).pick (s45 _ _ e1) hin.a (s5 _ _ e4),(hC.m2.same s45).pick (s45 _ _ e2) hin.b e5,by unfold pick;rw [List.length_map];exact hin.la,by unfold pick;rw [List.length_map];exact hin.lb,kZ hin.a hC.tx,kZ hin.b hC.ty,hC.pl,s45 _ _ hC.qp,hC.n5,fun H6 s6=>?_⟩
 have:=k H6 (s45.trans s6)
 unfold iK at this
 rw [if_neg hne] at this
 exact this
theorem nJ:aQ ["step","left","right","prices","cost"] ["step","left","right","prices"] (aB gJ):=⟨rfl,rfl,rfl,by decide +kernel,rfl,by decide +kernel,by decide +kernel⟩
theorem sG(h:Has K mg "step_cost" gJ ["step","left","right","prices"])(Qq:Cal P w K mg base "link_cost" 3 ["link","left","right","prices"] nA)(Px:mg "sum" = none)(Ph:mg "len" = none){Q6:Tok}(Ru:mg "CROSS" = some (.int 2 Q6)):Cal P w K mg base "step_cost" 4 ["step","left","right","prices"] jX:=by
 refine h.mk' nJ (fun vs H Q E hs=>?_) (fun f cdv A outer s H vs Q E hr hs=>?_)
 ·obtain⟨v,l1,l2,qp,st,ns,xs,ys,ps,rfl,_⟩:=hs
  rfl
 obtain⟨v,l1,l2,qp,st,ns,xs,ys,ps,rfl,hv,hin,hl2,hC,k⟩:=hs
 refine⟨_,(au (aR (i:=4) nJ.nd rfl (Or.inl rfl) (aJ (cR rfl) rfl Px boot_sum (aj (bD ["step","left","right","prices","cost"] (aB gJ) ["left","right","prices","link"] [some 1,some 2,some 3,none] rfl rfl rfl (bQ (pv 0)) rfl (by decide +kernel) (by decide +kernel) (by decide +kernel) (by decide +kernel) (hg:=fun cl C s H ex pn E=>(aD (i:=3) (by decide +kernel:(["left","right","prices","link"]:List Str).Nodup) rfl (Or.inl rfl))) (ht:=fun cl C s H ex pn E=>bC) (he:=fun cl C s H ex pn E=>(aG Qq hr (by decide) rfl (aj (pv 3) (aj (pv 0) (aj (pv 1) (aj (pv 2) ao))))))) ao)))
  (aC (aV (uT (aW dR (aJ aN rfl Ph PySem.boot_len (aj (pv 0) ao)) aA (bB _)) (aP bA (pv 4) (bx bh (pv 3) (jN (v:=.int 2) rfl Ru ⟨Q6,rfl⟩) (fun _ _=>rfl))) (pv 4))))),?_⟩
 obtain⟨q,ls,rfl,hq,dl⟩:=bO hv
 have hll:=dl.len
 rw [List.length_map] at hll
 refine⟨_,rfl,q,rfl,⟨_,SqT.of hq⟩,fun lc hlc=>?_⟩
 refine bL (J:=Itt K0 q) (l:=lc) st.length (fun i σ' H'=>∃ v3:Option V,σ'=[some (.ref l1),some (.ref l2),some (.ref qp),v3]/\Same H H'/\H' lc=some (.lst (((st.take i).map (iK ns xs ys ps)).map V.int))) ⟨none,rfl,aq hlc _,ak⟩ ?_ ?_
 ·rintro σ' H1 ⟨v3,rfl,s1,e1⟩
  rw [List.take_length] at e1
  refine⟨⟨_,SqT.of (s1 _ _ hq),by omega⟩,lc,_,rfl,SqL.of e1,gN ?_⟩
  refine⟨_,rfl,q,_,rfl,.inr (SqT.of (s1 _ _ hq)),rfl,_,rfl,?_⟩
  have hk:=k H1 s1
  unfold aY at hk
  have en:decide (V.int ((ls.length:Nat):Int)=V.int 2)=decide (st.length=2):=by
   rw [hll]
   by_cases h:st.length=2
   ·rw [decide_eq_true h,h]
    rfl
   ·rw [decide_eq_false h,decide_eq_false fun z=>by injection z with z;omega]
  rw [en]
  refine cU (fun c=>?_) (fun c=>?_)
  ·rw [if_pos (of_decide_eq_true c)] at hk
   exact⟨_,rfl,_,rfl,ixT (p:=qp) rfl rfl (SqT.of (s1 _ _ hC.qp)) (aO (j:=2) (int_at (by have:=hC.n5;omega))) (⟨ _,_,rfl,rfl,hk⟩)⟩
  ·rw [if_neg fun z=>c (decide_eq_true z),Int.add_zero] at hk
   exact⟨_,rfl,hk⟩
 ·rintro i σ' H1 hi ⟨v3,rfl,s1,e1⟩
  have hil:i < ls.length:=by omega
  refine⟨⟨_,_,SqT.of (s1 _ _ hq),List.getElem?_eq_getElem hil⟩,?_⟩
  rintro y H2 ⟨rfl,hy⟩
  have ey:y=ls[i]:=Option.some.inj ((hy _ (SqT.of (s1 _ _ hq))).symm.trans (List.getElem?_eq_getElem hil))
  have dy:Den H ls[i] (lkD st[i]):=at_of dl (List.getElem?_eq_getElem hil) (by rw [List.getElem?_map,List.getElem?_eq_getElem hi];rfl)
  have hini:=hin _ (List.getElem_mem hi)
  have htk:((st.take (i+1)).map (iK ns xs ys ps)).map V.int=((st.take i).map (iK ns xs ys ps)).map V.int++[.int (iK ns xs ys ps st[i])]:=by rw [List.take_add_one,List.getElem?_eq_getElem hi,List.map_append,List.map_append];rfl
  rw [htk]
  rw [← ey] at dy
  generalize st[i]=lk at dy hini ⊢
  refine gN (iM (eZ ⟨_,rfl,_,rfl,_,rfl,_,rfl,y,l1,l2,qp,lk,ns,xs,ys,ps,rfl,dy.same s1,hini,hC.same s1,fun H3 s3=>?_⟩))
  have s13:=s1.trans s3
  refine⟨_,s3 _ _ e1,aK (by rw [List.length_map,List.length_map,List.length_take];omega),_,rfl,fun x u z=>?_,ak⟩
  rw [aL (aF z hlc)]
  exact s13 _ _ z
end
noncomputable def iY:Sp:=fun vs H Q _=>∃(i j m n:Nat),vs=[.int (i:Nat),.int (j:Nat),.int (m:Nat),.int (n:Nat)]/\i<=m/\j<=n/\m<=900/\n<=900/\∀(q:Addr)(us:List V)(ss:List Stp)(H':Hp),Same H H'->H' q=some (.tup us)->cj H' us (ss.map stD)->ss.Perm (bw i j m n)->Q (.ref q) H'
theorem sW{α β:Type}{f:α->β}{xs ds:List β}(h:xs.Perm ds):∀ {l:List α},l.map f=xs->∃ ss:List α,ss.Perm l/\ds=ss.map f:=by
 induction h with
 | nil=>intro l e;exact⟨[],by rw [List.map_eq_nil_iff.mp e],rfl⟩
 | cons x _ ih =>
  intro l e
  cases l with
  | nil=>cases e
  | cons y l =>
   rw [List.map_cons] at e
   injection e with e1 e2
   obtain⟨ss,p,q⟩:=ih e2
   exact⟨y :: ss,p.cons y,by rw [List.map_cons,e1,q]⟩
 | swap x y zs =>
  intro l e
  match l,e with
  | a :: b :: l,e =>
   rw [List.map_cons,List.map_cons] at e
   injection e with e1 e2
   injection e2 with e2 e3
   exact⟨b :: a :: l,List.Perm.swap a b l,by rw [List.map_cons,List.map_cons,e1,e2,e3]⟩
 | trans _ _ ih1 ih2 =>
  intro l e
  obtain⟨ss,p,q⟩:=ih1 e
  obtain⟨ts,p2,q2⟩:=ih2 q.symm
  exact⟨ts,p2.trans p,q2⟩
theorem kY{α:Type}{f:α->D}(h:∀ x y,Sim (f x) (f y)):∀ xs ys:List α,pG (xs.map f) (ys.map f)
 | [],_=>Ft _
 | _ :: _,[]=>JV _
 | x :: xs,y :: ys=>zx (h x y) (kY h xs ys)
theorem zm(a b:Stp):Sim (stD a) (stD b):=xu (kY (fun x y=>xu (zx (xu (kY (f:=fun i:Nat=>D.int (i:Nat)) (fun _ _=>trivial) _ _)) (zx (xu (kY (f:=fun i:Nat=>D.int (i:Nat)) (fun _ _=>trivial) _ _)) (Ft _)))) _ _)
theorem zG{xs:List Nat}(h:xs.length<=1000):jf 1 (nD xs):=by
 refine⟨(fun z=>nomatch z),fun ds e=>?_⟩
 cases e
 refine⟨by rw [List.length_map];omega,fun d hd=>?_⟩
 obtain⟨x,_,rfl⟩:=List.mem_map.mp hd
 exact pF _
theorem lX{s:Stp}(h:s.length<=1000)(hl:∀ l∈s,l.1.length<=1000/\l.2.length<=1000):jf 3 (stD s):=by
 refine⟨(fun z=>nomatch z),fun ds e=>?_⟩
 cases e
 refine⟨by rw [List.length_map];omega,fun d hd=>?_⟩
 obtain⟨l,hm,rfl⟩:=List.mem_map.mp hd
 refine⟨(fun z=>nomatch z),fun es e=>?_⟩
 cases e
 refine⟨by show 2<=100000;decide,fun d hd=>?_⟩
 rcases List.mem_cons.mp hd with rfl | hd
 ·exact zG (hl l hm).1
 ·rw [List.mem_singleton.mp hd]
  exact zG (hl l hm).2
theorem qR{n m:Nat}{d:D}(h:jf n d)(hnm:n<=m):jf m d:=by
 induction hnm with
 | refl=>exact h
 | step _ ih=>exact ih.up
theorem cA{i j m n:Nat}{s:Stp}(h:s∈bw i j m n):1<=s.length/\s.length<=2/\∀ l∈s,wW m n l:=by
 rcases List.mem_append.mp h with h | h
 ·obtain⟨p,hp,rfl⟩:=List.mem_map.mp h
  obtain⟨hm,hc⟩:=List.mem_filter.mp hp
  have hc:=of_decide_eq_true hc
  have h3:p.1<=3/\p.2<=3:=(by decide:∀ p∈shapes,p.1<=3/\p.2<=3) p hm
  refine⟨Nat.le_refl _,by show 1<=2;decide,fun l hl=>?_⟩
  rw [List.mem_singleton.mp hl]
  refine⟨fun k hk=>?_,fun k hk=>?_,by show (List.range' i p.1).length<=3;rw [List.length_range'];exact h3.1,by show (List.range' j p.2).length<=3;rw [List.length_range'];exact h3.2⟩
  ·obtain⟨t,ht,e⟩:=List.mem_range'.mp hk
   omega
  ·obtain⟨t,ht,e⟩:=List.mem_range'.mp hk
   omega
 ·split at h
  ·rename_i hc
   rw [List.mem_singleton.mp h]
   refine⟨by show 1<=2;decide,Nat.le_refl _,fun l hl=>?_⟩
   simp only [crs,List.mem_cons,List.not_mem_nil,or_false] at hl
   rcases hl with rfl | rfl
   ·exact⟨fun k hk=>by simp at hk;omega,fun k hk=>by simp at hk;omega,by simp,by simp⟩
   ·exact⟨fun k hk=>by simp at hk;omega,fun k hk=>by simp at hk;omega,by simp,by simp⟩
  ·cases h
theorem ig(i j m n:Nat):(bw i j m n).length<=8:=by
 unfold bw
 rw [List.length_append,List.length_map]
 have:=List.length_filter_le (fun s:Nat × Nat=>decide (i+s.1<=m/\j+s.2<=n)) shapes
 have e:shapes.length=7:=rfl
 split
 ·rw [List.length_singleton];omega
 ·rw [List.length_nil];omega
section
variable {P:Program}{w:World}{K:W.Frag}{mg:Str->Option Value}{base:Heap}
theorem lN:aQ ["i","j","m","n","steps"] ["i","j","m","n"] (aB gj):=⟨rfl,rfl,rfl,by decide +kernel,rfl,by decide +kernel,by decide +kernel⟩
theorem qD(h:Has K mg "steps_from" gj ["i","j","m","n"])(Qx:Cal P w K mg base "one_link" 1 ["i","j","shape"] (JR K))(QH:Cal P w K mg base "crossed" 1 ["i","j"] pU)(Pb:mg "tuple" = none)(Q9:mg "sorted" = none){P0:Addr}(Ra:mg "SHAPES" = some (.ref P0))(QJ:yG K P0 shapes):Cal P w K mg base "steps_from" 2 ["i","j","m","n"] iY:=by
 refine h.mk' lN (fun vs H Q E hs=>?_) (fun f cdv A outer s H vs Q E hr hs=>?_)
 ·obtain⟨i,j,m,n,rfl,_⟩:=hs
  rfl
 obtain⟨i,j,m,n,rfl,hi,hj,hm,hn,k⟩:=hs
 refine⟨_,(au (iW (ix:=4) lN.nd rfl rfl ["i","j","m","n","steps"] (aB gj) ["i","j","m","n","shape"] [some 0,some 1,some 2,some 3,none] rfl rfl rfl (Fp (jN (v:=.ref P0) rfl Ra rfl)) rfl (by decide +kernel) (by decide +kernel) (by decide +kernel) (by decide +kernel) (hg:=fun cl C s H ex pn E=>(aD (i:=4) (by decide +kernel:(["i","j","m","n","shape"]:List Str).Nodup) rfl (Or.inl rfl))) (ht:=fun cl C s H ex pn E=>(jG (PW.pt (iz (aW jK (aP bA (pv 0) (bx (yE (K:=K) rfl) (pv 4) aA (fun _ _=>rfl))) (pv 2) (bB _)) (fV (aW jK (aP bA (pv 1) (bx (yE (K:=K) rfl) (pv 4) aA (fun _ _=>rfl))) (pv 3) (bB _))))))) (he:=fun cl C s H ex pn E=>(aG Qx hr (by decide) rfl (aj (pv 0) (aj (pv 1) (aj (pv 4) ao))))))
  (au (cD (PW.pt (iz (aW jK (aP bA (pv 0) aA) (pv 2) (bB _)) (fV (aW jK (aP bA (pv 1) aA) (pv 3) (bB _)))))
   (aC (cI (Gr PySem.F.plainAttrs_list PySem.F.slot_list_append PySem.F.type_list_append bN (pv 4) (aj (aG QH hr (by decide) rfl (aj (pv 0) (aj (pv 1) ao))) ao))))
   bF)
  (aC (aV (bV gC rfl Pb boot_tuple (aj (aJ (qM hr.units) rfl Q9 boot_sorted (aj (pv 4) ao)) ao)))))),?_⟩
 obtain⟨as,hT,hP⟩:=QJ
 refine⟨P0,rfl,⟨_,hT.sq⟩,fun lc hlc=>?_⟩
 have hal:=hP.len
 have h7:shapes.length=7:=rfl
 refine bL (J:=Itt K P0) (l:=lc) shapes.length (fun x σ' H'=>∃(v4:Option V)(us:List V),σ'=[some (.int (i:Nat)),some (.int (j:Nat)),some (.int (m:Nat)),some (.int (n:Nat)),v4]/\Same H H'/\H' lc=some (.lst us)/\cj H' us ((((shapes.take x).filter fun s=>decide (i+s.1<=m/\j+s.2<=n)).map (one i j)).map stD)/\us.length<=x) ⟨none,[],rfl,aq hlc _,ak,trivial,Nat.le_refl _⟩ ?_ ?_
 ·rintro σ' H1 ⟨v4,us,rfl,s1,e1,d1,hul⟩
  rw [List.take_length] at d1
  refine⟨⟨_,hT.sq,by rw [List.length_map];omega⟩,gN ?_⟩
  have fin:∀(us:List V)(H2:Hp) ,Same H H2->H2 lc=some (.lst us)->cj H2 us ((bw i j m n).map stD)->∀(l:Addr)(us':List V)(ds':List D),H2 l=none->ds'.Perm ((bw i j m n).map stD)->cj H2 us' ds'->∀ q,(upd H2 l (.lst us')) q=none->Q (.ref q) (upd (upd H2 l (.lst us')) q (.tup us')):=fun us H2 s2 e2 d2 l us' ds' hl pm d' q hq=>by
   obtain⟨ss,hss,e⟩:=sW pm.symm rfl
   rw [e] at d'
   have sn:=(aq hl (.lst us')).trans (aq hq (.tup us'))
   exact k q us' ss _ (s2.trans sn) ak (d'.same sn) hss
  have hom:Hom ((bw i j m n).map stD):=by
   refine⟨fun a ha b hb=>?_,.inr (.inr fun d hd=>?_)⟩
   ·obtain⟨x,_,rfl⟩:=List.mem_map.mp ha
    obtain⟨y,_,rfl⟩:=List.mem_map.mp hb
    exact zm x y
   ·obtain⟨x,hx,rfl⟩:=List.mem_map.mp hd
    have:=(cA hx).1
    cases x with
    | nil=>cases this
    | cons p r=>exact⟨_,_,rfl⟩
  have hsh:∀ d∈(bw i j m n).map stD,jf 50 d:=fun d hd=>by
   obtain⟨x,hx,rfl⟩:=List.mem_map.mp hd
   obtain⟨_,h2,h3⟩:=cA hx
   exact qR (lX (by omega) fun l hl=>⟨Nat.le_trans (h3 l hl).la (by decide),Nat.le_trans (h3 l hl).lb (by decide)⟩) (by decide)
  have hsl:((bw i j m n).map stD).length < 64:=by
   rw [List.length_map]
   have:=ig i j m n
   omega
  refine⟨_,rfl,_,_,rfl,rfl,_,rfl,_,_,rfl,rfl,_,rfl,?_⟩
  refine cU (fun c1=>?_) (fun c1=>oZ ?_)
  ·refine⟨_,rfl,_,_,rfl,rfl,_,rfl,_,_,rfl,rfl,_,rfl,?_⟩
   refine cU (fun c2=>?_) (fun c2=>?_)
   ·have c1':=of_decide_eq_true c1
    have c2':=of_decide_eq_true c2
    refine⟨_,rfl,.inl ⟨rfl,_,SqL.of e1⟩,_,rfl,_,rfl,i,j,rfl,fun r H2 s2 d2=>?_⟩
    have elc:=s2 _ _ e1
    have kt:∀(b:Addr)(vs:List V),H2 b=some (.tup vs)->(upd H2 lc (.lst (us++[r]))) b=some (.tup vs):=fun b vs e=>by
     rw [aL (mL e elc (by intro z;cases z))]
     exact e
    refine⟨lc,us,r,rfl,rfl,elc,aK (by omega),?_⟩
    have sF:Same H (upd H2 lc (.lst (us++[r]))):=fun x u z=>by
     rw [aL (aF z hlc)]
     exact s2 _ _ (s1 _ _ z)
    have dF:cj (upd H2 lc (.lst (us++[r]))) (us++[r]) ((bw i j m n).map stD):=by
     unfold bw
     rw [if_pos (by omega),List.map_append]
     exact ((d1.same s2).keepT kt).snoc (d2.keepT kt)
    exact⟨_,rfl,lc,_,_,rfl,.inl (SqL.of ak),dF,hom,hsl,hsh,fun l us' ds' hl pm up d'=>⟨l,us',rfl,.inl ⟨SqL.of ak,fun q hq=>fin _ _ sF ak dF l us' ds' hl pm d' q hq⟩⟩⟩
   ·have dF:cj H1 us ((bw i j m n).map stD):=by
     unfold bw
     rw [if_neg fun z=>c2 (decide_eq_true (by omega)),List.append_nil]
     exact d1
    exact⟨_,rfl,lc,_,_,rfl,.inl (SqL.of e1),dF,hom,hsl,hsh,fun l us' ds' hl pm up d'=>⟨l,us',rfl,.inl ⟨SqL.of ak,fun q hq=>fin _ _ s1 e1 dF l us' ds' hl pm d' q hq⟩⟩⟩
  ·have dF:cj H1 us ((bw i j m n).map stD):=by
    unfold bw
    rw [if_neg fun z=>c1 (decide_eq_true (by omega)),List.append_nil]
    exact d1
   exact⟨_,rfl,lc,_,_,rfl,.inl (SqL.of e1),dF,hom,hsl,hsh,fun l us' ds' hl pm up d'=>⟨l,us',rfl,.inl ⟨SqL.of ak,fun q hq=>fin _ _ s1 e1 dF l us' ds' hl pm d' q hq⟩⟩⟩
 ·rintro x σ' H1 hx ⟨v4,us,rfl,s1,e1,d1,hul⟩
  have hxa:x < as.length:=by omega
  have hat:(as.map V.ref)[x]?=some (.ref as[x]):=by rw [List.getElem?_map,List.getElem?_eq_getElem hxa];rfl
  refine⟨⟨_,_,hT.sq,hat⟩,?_⟩
  rintro y H2 ⟨rfl,hy⟩
  have ey:y=.ref as[x]:=Option.some.inj ((hy _ hT.sq).symm.trans hat)
  subst ey
  have hK:=hP.at_ (List.getElem?_eq_getElem hxa) (List.getElem?_eq_getElem hx)
  have h3:shapes[x].1<=3/\shapes[x].2<=3:=(by decide:∀ p∈shapes,p.1<=3/\p.2<=3) _ (List.getElem_mem hx)
  have htk:shapes.take (x+1)=shapes.take x++[shapes[x]]:=by rw [List.take_add_one,List.getElem?_eq_getElem hx];rfl
  rw [htk,List.filter_append,List.map_append,List.map_append]
  generalize shapes[x]=pp at hK h3 ⊢
  generalize as[x]=a at hK ⊢
  have no:¬ (i+pp.1<=m/\j+pp.2<=n)->([pp].filter fun s=>decide (i+s.1<=m/\j+s.2<=n))=[]:=fun z=>List.filter_cons_of_neg (by rw [decide_eq_true_eq];exact z)
  refine gN ⟨_,rfl,_,rfl,a,_,_,_,rfl,rfl,hK.sq,cJ _ _,_,_,rfl,rfl,_,rfl,_,_,rfl,rfl,_,rfl,?_⟩
  refine cU (fun c1=>?_) (fun c1=>oZ ?_)
  ·refine⟨_,rfl,_,rfl,a,_,_,_,rfl,rfl,hK.sq,aO (xs:=[V.int (pp.1:Nat),V.int (pp.2:Nat)]) (j:=1) rfl,_,_,rfl,rfl,_,rfl,_,_,rfl,rfl,_,rfl,?_⟩
   refine cU (fun c2=>?_) (fun c2=>?_)
   ·have c1':=of_decide_eq_true c1
    have c2':=of_decide_eq_true c2
    have yes:([pp].filter fun s=>decide (i+s.1<=m/\j+s.2<=n))=[pp]:=List.filter_cons_of_pos (by rw [decide_eq_true_eq];omega)
    rw [yes]
    refine⟨_,rfl,_,rfl,_,rfl,i,j,pp.1,pp.2,a,rfl,hK.sq,by omega,by omega,h3.1,h3.2,fun r H3 s3 d3=>?_⟩
    have elc:=s3 _ _ e1
    have kt:∀(b:Addr)(vs:List V),H3 b=some (.tup vs)->(upd H3 lc (.lst (us++[r]))) b=some (.tup vs):=fun b vs e=>by
     rw [aL (mL e elc (by intro z;cases z))]
     exact e
    refine⟨us,elc,aK (by omega),_,us++[r],rfl,fun x u z=>?_,ak,((d1.same s3).keepT kt).snoc (d3.keepT kt),by rw [List.length_append,List.length_singleton];omega⟩
    rw [aL (aF z hlc)]
    exact s3 _ _ (s1 _ _ z)
   ·rw [no fun z=>c2 (decide_eq_true (by omega)),List.map_nil,List.map_nil,List.append_nil]
    exact⟨_,us,rfl,s1,e1,d1,by omega⟩
  ·rw [no fun z=>c1 (decide_eq_true (by omega)),List.map_nil,List.map_nil,List.append_nil]
   exact⟨_,us,rfl,s1,e1,d1,by omega⟩
end
noncomputable def psD(c:Stp->Int)(i j:Nat)(s:Stp):D:=.tup [stD s,.int (c s),.tup [.int ((i+sz1 s:Nat):Int),.int ((j+sz2 s:Nat):Int)]]
noncomputable def ud:Sp:=fun vs H Q _=>∃(i j:Nat)(l1 l2 qp:Addr)(ns:List Int)(xs ys:List Str)(ps:List (Str × Str)),vs=[.int (i:Nat),.int (j:Nat),.ref l1,.ref l2,.ref qp]/\jF H l1 l2 qp ns xs ys ps/\i<=xs.length/\j<=ys.length/\xs.length<=900/\ys.length<=900 /\
 ∀(l:Addr)(us:List V)(ss:List Stp)(H':Hp),Same H H'->H l=none->H' l=some (.lst us)->cj H' us (ss.map (psD (aY ns xs ys ps) i j))->ss.Perm (bw i j xs.length ys.length)->Q (.ref l) H'
section
variable {P:Program}{w:World}{K:W.Frag}{mg:Str->Option Value}{base:Heap}
theorem dz:aQ ["i","j","left","right","prices","found","step","counts","end"] ["i","j","left","right","prices"] (aB fK):=⟨rfl,rfl,rfl,by decide +kernel,rfl,by decide +kernel,by decide +kernel⟩
theorem mR(h:Has K mg "priced_steps" fK ["i","j","left","right","prices"])(PB:Cal P w K mg base "steps_from" 2 ["i","j","m","n"] iY)(Ql:Cal P w K mg base "passed" 1 ["step"] pC)(PN:Cal P w K mg base "step_cost" 4 ["step","left","right","prices"] jX)(Ph:mg "len" = none):Cal P w K mg base "priced_steps" 5 ["i","j","left","right","prices"] ud:=by
 refine h.mk' dz (fun vs H Q E hs=>?_) (fun f cdv A outer s H vs Q E hr hs=>?_)
 ·obtain⟨i,j,l1,l2,qp,ns,xs,ys,ps,rfl,_⟩:=hs
  rfl
 obtain⟨i,j,l1,l2,qp,ns,xs,ys,ps,rfl,hC,hi,hj,hm,hn,k⟩:=hs
 refine⟨_,(au (aR (i:=5) dz.nd rfl (Or.inl rfl) (cQ ao))
  (au (cG PassesOwn.never rfl (bQ (aG PB hr (by decide) rfl (aj (pv 0) (aj (pv 1) (aj (aJ aN rfl Ph PySem.boot_len (aj (pv 2) ao)) (aj (aJ aN rfl Ph PySem.boot_len (aj (pv 3) ao)) ao)))))) (aD (i:=6) dz.nd rfl (Or.inl rfl))
   (au (aR (i:=7) dz.nd rfl (Or.inl rfl) (aG Ql hr (by decide) rfl (aj (pv 6) ao)))
  (au (aR (i:=8) dz.nd rfl (Or.inl rfl) (aM (aj (aP bA (pv 0) (bx bh (pv 7) aA (fun _ _=>rfl))) (aj (aP bA (pv 1) (bx bh (pv 7) aA (fun _ _=>rfl))) ao))))
  (aC (cI (cZ PySem.F.plainAttrs_list PySem.F.slot_list_append PySem.F.type_list_append bN (pv 5) (aj (aM (aj (pv 6) (aj (aG PN hr (by decide) rfl (aj (pv 6) (aj (pv 2) (aj (pv 3) (aj (pv 4) ao))))) (aj (pv 8) ao)))) ao)))))))
  (aC (aV (pv 5))))),?_⟩
 refine⟨smn 0,fun lf hlf=>gN ?_⟩
 have s0:=aq hlf (.lst [])
 have e0:(upd H lf (.lst [])) lf=some (.lst []):=ak
 generalize upd H lf (.lst [])=H0 at s0 e0 ⊢
 obtain⟨us1,e1,hu1,_⟩:=id hC.m1.ex
 obtain⟨us2,e2,hu2,_⟩:=id hC.m2.ex
 refine⟨_,rfl,_,rfl,_,rfl,l1,_,rfl,.inl (SqL.of (s0 _ _ e1)),_,rfl,l2,_,rfl,.inl (SqL.of (s0 _ _ e2)),?_⟩
 rw [hu1,hu2]
 refine⟨i,j,xs.length,ys.length,rfl,hi,hj,hm,hn,fun q vs ss H1 s1 e1' d1 hp=>?_⟩
 refine⟨q,rfl,⟨_,SqT.of e1'⟩,?_⟩
 have hul:=d1.len
 rw [List.length_map] at hul
 have hin:∀ s∈ss,s∈bw i j xs.length ys.length:=fun s hs=>hp.mem_iff.mp hs
 have hsl:ss.length<=8:=by rw [hp.length_eq];exact ig _ _ _ _
 have s01:=s0.trans s1
 refine gR (K:=K0) (a:=q) (xs:=vs) (fun x σ H2=>∃(v6 v7 v8:Option V)(us:List V),σ=[some (.int (i:Nat)),some (.int (j:Nat)),some (.ref l1),some (.ref l2),some (.ref qp),some (.ref lf),v6,v7,v8]/\Same H H2/\(∀(b:Addr)(vs:List V),H1 b=some (.tup vs)->H2 b=some (.tup vs))/\H2 lf=some (.lst us)/\cj H2 us ((ss.take x).map (psD (aY ns xs ys ps) i j))/\us.length=x) ⟨_,_,_,[],rfl,s01,fun _ _ e=>e,s1 _ _ e0,trivial,rfl⟩ ?_ ?_ ?_
 ·rintro x σ H2 _ ⟨_,_,_,_,_,_,k2,_⟩
  exact SqT.of (k2 _ _ e1')
 ·rintro x y σ H2 hx ⟨v6,v7,v8,us,rfl,s2,k2,e2',d2,hul2⟩
  have hxl:=(List.getElem?_eq_some_iff.mp hx).1
  have hxs:x < ss.length:=by omega
  have dy:Den H1 y (stD ss[x]):=at_of d1 hx (by rw [List.getElem?_map,List.getElem?_eq_getElem hxs];rfl)
  obtain⟨_,h2,h3⟩:=cA (hin _ (List.getElem_mem hxs))
  have htk:(ss.take (x+1)).map (psD (aY ns xs ys ps) i j)=(ss.take x).map (psD (aY ns xs ys ps) i j)++[psD (aY ns xs ys ps) i j ss[x]]:=by rw [List.take_add_one,List.getElem?_eq_getElem hxs,List.map_append];rfl
  rw [htk]
  have dy2:=dy.keepT k2
  generalize ss[x]=st at dy2 h2 h3 ⊢
  refine gN ⟨_,rfl,y,st,rfl,dy2,h2,fun p hp=>⟨Nat.le_trans (h3 p hp).la (by decide),Nat.le_trans (h3 p hp).lb (by decide)⟩,fun tc H3 s3 e3=>gN ?_⟩
  refine⟨_,rfl,_,rfl,ixT (p:=tc) rfl rfl (SqT.of e3) (cJ _ _) (⟨ _,_,rfl,rfl,_,rfl,_,rfl,ixT (p:=tc) rfl rfl (SqT.of e3) (aO (xs:=[V.int ((sz1 st:Nat):Int),V.int ((sz2 st:Nat):Int)]) (j:=1) rfl) (⟨ _,_,rfl,rfl,smn 2,fun te hte=>gN ?_⟩)⟩)⟩
  have s4:=aq hte (.tup [.int ((i:Nat)+(sz1 st:Nat)),.int ((j:Nat)+(sz2 st:Nat))])
  have e4:(upd H3 te (.tup [.int ((i:Nat)+(sz1 st:Nat)),.int ((j:Nat)+(sz2 st:Nat))])) te=some (.tup [.int ((i:Nat)+(sz1 st:Nat)),.int ((j:Nat)+(sz2 st:Nat))]):=ak
  generalize upd H3 te (.tup [.int ((i:Nat)+(sz1 st:Nat)),.int ((j:Nat)+(sz2 st:Nat))])=H4 at s4 e4 ⊢
  have s24:=s3.trans s4
  refine⟨_,rfl,.inl ⟨rfl,_,SqL.of (s24 _ _ e2')⟩,_,rfl,_,rfl,_,rfl,_,rfl,_,rfl,y,l1,l2,qp,st,ns,xs,ys,ps,rfl,dy2.same s24,h3,h2,(hC.same s2).same s24,fun H5 s5=>?_⟩
  refine⟨_,rfl,smn 3,fun tn htn=>?_⟩
  have s6:=aq htn (.tup [y,.int (aY ns xs ys ps st),.ref te])
  have e6:(upd H5 tn (.tup [y,.int (aY ns xs ys ps st),.ref te])) tn=some (.tup [y,.int (aY ns xs ys ps st),.ref te]):=ak
  generalize upd H5 tn (.tup [y,.int (aY ns xs ys ps st),.ref te])=H6 at s6 e6 ⊢
  have s26:=(s24.trans s5).trans s6
  have elf:=s26 _ _ e2'
  have kt:∀(b:Addr)(vs:List V),H6 b=some (.tup vs)->(upd H6 lf (.lst (us++[.ref tn]))) b=some (.tup vs):=fun b vs e=>by
   rw [aL (mL e elf (by intro z;cases z))]
   exact e
  refine⟨lf,us,.ref tn,rfl,rfl,elf,aK (by omega),_,_,_,us++[.ref tn],rfl,fun x u z=>?_,fun b vs e=>kt _ _ (s26 _ _ (k2 _ _ e)),ak,((d2.same s26).keepT kt).snoc ?_,by rw [List.length_append,hul2];rfl⟩
  ·rw [aL (aF z hlf)]
   exact s26 _ _ (s2 _ _ z)
  ·exact⟨tn,_,rfl,kt _ _ e6,(dy2.same s26).keepT kt,rfl,⟨te,_,rfl,kt _ _ (s6 _ _ (s5 _ _ e4)),rfl,rfl,trivial⟩,trivial⟩
 ·rintro σ H2 ⟨v6,v7,v8,us,rfl,s2,k2,e2',d2,hul2⟩
  rw [hul,List.take_length] at d2
  exact⟨_,rfl,k lf us ss H2 s2 hlf e2' d2 hp⟩
end
noncomputable def Mi(H:Hp)(i j:Nat)(r:Int × Option Stp)(v:V):Prop:=∃(t:Addr)(x y:V),v=.ref t/\H t=some (.tup [.int r.1,x,y])/\match r.2 with
 | none=>x=.non/\y=.non
 | some s=>Den H x (stD s)/\Den H y (.tup [.int ((i+sz1 s:Nat):Int),.int ((j+sz2 s:Nat):Int)])
noncomputable def yR(i j:Nat):List Key:=[Sum.inl ((i:Nat):Int),Sum.inl ((j:Nat):Int)]
theorem Dm{i j a b:Nat}(h:yR i j=yR a b):i=a/\j=b:=by
 unfold yR at h
 injection h with h1 h2
 injection h2 with h2
 have h1:=Sum.inl.inj h1
 have h2:=Sum.inl.inj h2
 omega
noncomputable def Behind(i j a b:Nat):Prop:=i < a\/(i=a/\j < b)
structure M9(H:Hp)(d:Addr)(m n:Nat)(c:Stp->Int)(S:Nat->Nat->Prop)(R:Rst)(kvs:List (List Key × V)):Prop where
 e:H d=some (.dT kvs)
 v:∀ a b,a<=m->b<=n->S a b->∃ v,lq kvs (yR a b)=some v/\Mi H a b (R a b) v
 nil:∀ a b,a<=m->b<=n->S a b->bw a b m n=[]->R a b=(0,none)
 cons:∀ a b,a<=m->b<=n->S a b->bw a b m n≠[]->∃ s∈bw a b m n,R a b=(tot c R a b s,some s)/\∀ s'∈bw a b m n,dlt (chD c R a b s') (chD c R a b s)=false
noncomputable def KC(R:Rst)(i j:Nat)(r:Int × Option Stp):Rst:=fun a b=>if a=i/\b=j then r else R a b
theorem Mj(R:Rst)(i j:Nat)(r:Int × Option Stp):KC R i j r i j=r:=if_pos ⟨rfl,rfl⟩
theorem Gv{R:Rst}{i j a b:Nat}{r:Int × Option Stp}(h:¬ (a=i/\b=j)):KC R i j r a b=R a b:=if_neg h
theorem Hu{c:Stp->Int}{R:Rst}{i j a b m n:Nat}{r:Int × Option Stp}{s:Stp}(hs:s∈bw a b m n)(h:a=i/\b=j\/Behind i j a b):tot c (KC R i j r) a b s=tot c R a b s:=by
 have:=step_at hs
 unfold tot
 rw [Gv]
 rintro ⟨h1,h2⟩
 rcases h with ⟨rfl,rfl⟩ | h | ⟨rfl,h⟩
 ·omega
 ·omega
 ·omega
theorem Mf{c:Stp->Int}{R:Rst}{i j a b m n:Nat}{r:Int × Option Stp}{s:Stp}(hs:s∈bw a b m n)(h:a=i/\b=j\/Behind i j a b):chD c (KC R i j r) a b s=chD c R a b s:=by
 unfold chD
 rw [Hu hs h]
theorem Lr{H:Hp}{v:V}{c:Stp->Int}{i j:Nat}{s:Stp}(h:Den H v (psD c i j s)):∃(t te:Addr)(x:V),v=.ref t/\H t=some (.tup [x,.int (c s),.ref te])/\Den H x (stD s)/\H te=some (.tup [.int ((i+sz1 s:Nat):Int),.int ((j+sz2 s:Nat):Int)]):=by
 obtain⟨t,vs,rfl,ht,hd⟩:=h
 match vs,hd,ht with
 | [a,b,e],hd,ht =>
  obtain⟨h1,h2,⟨te,us,rfl,hte,hu⟩,_⟩:=hd
  have h2:b=.int _:=h2
  subst h2
  match us,hu,hte with
  | [f,g],hu,hte =>
   obtain⟨k1,k2,_⟩:=hu
   have k1:f=.int _:=k1
   have k2:g=.int _:=k2
   subst k1 k2
   exact⟨t,te,a,rfl,ht,h1,hte⟩
theorem Ef{κ:Type}[DecidableEq κ](kvs:List (κ × V))(k:κ)(v:V):(putK kvs k v).length<=kvs.length+1:=by
 unfold putK
 split
 ·rw [List.length_map];omega
 ·rw [List.length_append];exact Nat.le_refl _
noncomputable def lJ(m n:Nat):Nat->Nat->List Stp->Prop
 | i,j,[]=>i=m/\j=n
 | i,j,s :: w=>s∈bw i j m n/\lJ m n (i+sz1 s) (j+sz2 s) w
theorem uF{ss:List Stp}{s:Stp}:((ss.map stD).any fun e=>eqD e (stD s))=true↔s∈ss:=by
 rw [List.any_eq_true]
 constructor
 ·rintro ⟨e,he,h⟩
  obtain⟨x,hx,rfl⟩:=List.mem_map.mp he
  by_cases z:stD x=stD s
  ·rw [← yM z]
   exact hx
  ·rw [pW z] at h
   cases h
 ·intro h
  exact⟨stD s,List.mem_map_of_mem h,gD _⟩
theorem dW{m n:Nat}:∀ {w:List Stp}{i j:Nat},lJ m n i j w->i<=m->j<=n->w.length+i+j<=m+n/\∀ s∈w,1<=s.length/\s.length<=2/\∀ l∈s,wW m n l
 | [],i,j,h,hi,hj=>⟨by rw [List.length_nil];omega,fun s hs=>by cases hs⟩
 | s :: w,i,j,h,hi,hj=>by
  obtain⟨g1,g2,g3⟩:=step_at h.1
  obtain⟨a,b⟩:=dW h.2 g1 g2
  refine⟨by rw [List.length_cons];omega,fun t ht=>?_⟩
  rcases List.mem_cons.mp ht with rfl | ht
  ·exact cA h.1
  ·exact b t ht
theorem Cj(n:Nat):(List.replicate n true).all id=true:=List.all_eq_true.mpr fun x hx=>(List.mem_replicate.mp hx).2
noncomputable def rH(w:List Stp):Prop:=∀ s∈w,s.length<=2/\∀ p∈s,p.1.length<=3/\p.2.length<=3
structure iU(H:Hp)(g:Addr)(m n:Nat)(F:Nat->Nat->Int)(gus:List V):Prop where
 e:H g=some (.tup gus)
 l:gus.length=m+1
 r:∀(i:Nat)(u:V),gus[i]?=some u->∃ a:Addr,u=.ref a/\H a=some (.tup (((List.range (n+1)).map (F i)).map V.int))
theorem iU.same{H H':Hp}{g:Addr}{m n:Nat}{F:Nat->Nat->Int}{gus:List V}(h:iU H g m n F gus)(s:Same H H'):iU H' g m n F gus:=⟨s _ _ h.e,h.l,fun i u hu=>by
 obtain⟨a,e1,e2⟩:=h.r i u hu
 exact⟨a,e1,s _ _ e2⟩⟩
theorem qU{n j:Nat}{f:Nat->Int}(h:j<=n):(((List.range (n+1)).map f).map V.int)[j]?=some (.int (f j)):=by
 rw [List.getElem?_map,List.getElem?_map,List.getElem?_range (by omega)]
 rfl
theorem iU.get{H:Hp}{g:Addr}{m n:Nat}{F:Nat->Nat->Int}{gus:List V}(h:iU H g m n F gus){i j:Nat}(hi:i<=m)(hj:j<=n):∃(a:Addr)(row:List V),gus[i]?=some (.ref a)/\H a=some (.tup row)/\row.length=n+1/\row[j]?=some (.int (F i j)):=by
 have hl:i < gus.length:=by rw [h.l];omega
 obtain⟨a,e1,e2⟩:=h.r i _ (aZ hl)
 exact⟨a,_,by rw [aZ hl,e1],e2,by rw [List.length_map,List.length_map,List.length_range],qU hj⟩
noncomputable def Hv:Sp:=fun vs H Q _=>∃ i:Int,vs=[.int i]/\Q (.bl true) H
noncomputable def nU:Sp:=fun vs H Q _=>∃(q:Addr)(us:List V)(n:Nat),vs=[.ref q,.int (n:Nat)]/\H q=some (.tup us)/\us.length=n/\Q (.bl true) H
noncomputable def zH:Sp:=fun vs H Q _=>∃(q:Addr)(ns:List Int),vs=[.ref q]/\H q=some (.tup (ns.map V.int))/\ns.length<=900/\∀ H',Same H H'->Q (.bl true) H'
noncomputable def vD:Sp:=fun vs H Q _=>∃(g:Addr)(m n:Nat)(F:Nat->Nat->Int)(gus:List V),vs=[.ref g,.int ((m:Nat)+1),.int ((n:Nat)+1)]/\iU H g m n F gus/\m<=100/\n<=100/\∀ H',Same H H'->Q (.bl true) H'
noncomputable def uo:Sp:=fun vs H Q _=>∃(v:V)(q:Lk),vs=[v]/\Den H v (lkD q)/\q.1.length<=900/\q.2.length<=900/\∀ H',Same H H'->Q (.bl true) H'
noncomputable def rD:Sp:=fun vs H Q _=>∃(v:V)(s:Stp),vs=[v]/\Den H v (stD s)/\s.length<=900/\(∀ q∈s,q.1.length<=900/\q.2.length<=900)/\∀ H',Same H H'->Q (.bl true) H'
noncomputable def Aw:Sp:=fun vs H Q _=>∃(w:Addr)(wus:List V)(way:List Stp)(m n:Nat),vs=[.ref w,.int (m:Nat),.int (n:Nat)]/\H w=some (.tup wus)/\cj H wus (way.map stD)/\rH way/\way.length<=900/\m<=900/\n<=900/\∀(b:Bool)(H':Hp),Same H H'->(b=true↔lJ m n 0 0 way)->Q (.bl b) H'
theorem zK{H:Hp}{a:Addr}{is:List Nat}(h:H a=some (.tup (is.map fun i=>V.int (i:Nat)))):H a=some (.tup ((is.map fun i=>((i:Nat):Int)).map V.int)):=by
 rw [h,List.map_map]
 rfl
section
variable {P:Program}{w:World}{K:W.Frag}{mg:Str->Option Value}{base:Heap}
theorem vW:aQ ["thing"] ["thing"] (aB jH):=⟨rfl,rfl,rfl,by decide +kernel,rfl,by decide +kernel,by decide +kernel⟩
theorem su(h:Has K mg "is_number" jH ["thing"])(Pk:mg "isinstance" = none)(QK:mg "bool" = none)(Ro:mg "int" = none):Cal P w K mg base "is_number" 1 ["thing"] Hv:=by
 refine h.mk' vW (fun vs H Q E hs=>?_) (fun f cdv A outer s H vs Q E hr hs=>?_)
 ·obtain⟨i,rfl,_⟩:=hs
  rfl
 obtain⟨i,rfl,k⟩:=hs
 refine⟨_,(aC (aV (gb (aJ c7 rfl Pk boot_isinstance (aj (pv 0) (aj (iT (v:=.ty "int") rfl Ro boot_int rfl) ao))) (gM (JZ (aJ c7 rfl Pk boot_isinstance (aj (pv 0) (aj (iT (v:=.ty "bool") rfl QK boot_bool rfl) ao)))))))),?_⟩
 exact⟨_,rfl,_,_,_,true,rfl,.int _,sV K,_,rfl,eZ ⟨_,rfl,_,_,_,false,rfl,.int _,rO K,_,rfl,k⟩⟩
theorem Br:aQ ["thing","count"] ["thing","count"] (aB lA):=⟨rfl,rfl,rfl,by decide +kernel,rfl,by decide +kernel,by decide +kernel⟩
theorem tR(h:Has K mg "is_row_of" lA ["thing","count"])(Ph:mg "len" = none)(Pk:mg "isinstance" = none)(Pb:mg "tuple" = none):Cal P w K mg base "is_row_of" 1 ["thing","count"] nU:=by
 refine h.mk' Br (fun vs H Q E hs=>?_) (fun f cdv A outer s H vs Q E hr hs=>?_)
 ·obtain⟨q,us,n,rfl,_⟩:=hs
  rfl
 obtain⟨q,us,n,rfl,e,hl,k⟩:=hs
 refine⟨_,(aC (aV (gb (aJ c7 rfl Pk boot_isinstance (aj (pv 0) (aj (iT (v:=.ty "tuple") rfl Pb boot_tuple rfl) ao))) (gM (fG dR (aJ aN rfl Ph PySem.boot_len (aj (pv 0) ao)) (pv 1) (bB _)))))),?_⟩
 refine⟨_,rfl,_,_,_,true,rfl,.tup e,dJ K,_,rfl,eZ ?_⟩
 refine⟨_,rfl,q,_,rfl,.inr (SqT.of e),_,rfl,rfl,?_⟩
 rw [hl,decide_eq_true rfl]
 exact k
theorem rN:aQ ["thing"] ["thing"] (aB fH):=⟨rfl,rfl,rfl,by decide +kernel,rfl,by decide +kernel,by decide +kernel⟩
theorem oJ(h:Has K mg "are_numbers" fH ["thing"])(PX:Cal P w K mg base "is_number" 1 ["thing"] Hv)(Qp:mg "all" = none)(Pk:mg "isinstance" = none)(Pb:mg "tuple" = none):Cal P w K mg base "are_numbers" 2 ["thing"] zH:=by
 refine h.mk' rN (fun vs H Q E hs=>?_) (fun f cdv A outer s H vs Q E hr hs=>?_)
 ·obtain⟨q,ns,rfl,_⟩:=hs
  rfl
 obtain⟨q,ns,rfl,e,hn,k⟩:=hs
 refine⟨_,(aC (aV (gb (aJ c7 rfl Pk boot_isinstance (aj (pv 0) (aj (iT (v:=.ty "tuple") rfl Pb boot_tuple rfl) ao))) (gM (aJ (jx rfl) rfl Qp boot_all (aj (bD ["thing"] (aB fH) ["each"] [none] rfl rfl rfl (bQ (pv 0)) rfl (by decide +kernel) (by decide +kernel) (by decide +kernel) (by decide +kernel) (hg:=fun cl C s H ex pn E=>(aD (i:=0) (by decide +kernel:(["each"]:List Str).Nodup) rfl (Or.inl rfl))) (ht:=fun cl C s H ex pn E=>bC) (he:=fun cl C s H ex pn E=>(aG PX hr (by decide) rfl (aj (pv 0) ao)))) ao)))))),?_⟩
 refine⟨_,rfl,_,_,_,true,rfl,.tup e,dJ K,_,rfl,eZ ?_⟩
 refine⟨_,rfl,q,rfl,⟨_,SqT.of e⟩,fun lc hlc=>?_⟩
 refine bL (J:=Itt K0 q) (l:=lc) ns.length (fun i σ' H'=>∃ v:Option V,σ'=[v]/\Same H H'/\H' lc=some (.lst ((List.replicate i true).map V.bl))) ⟨none,rfl,aq hlc _,ak⟩ ?_ ?_
 ·rintro σ' H1 ⟨v,rfl,s1,e1⟩
  refine⟨⟨_,SqT.of (s1 _ _ e),by rw [List.length_map];exact Nat.le_refl _⟩,lc,_,rfl,SqL.of e1,?_⟩
  rw [Cj]
  exact k H1 s1
 ·rintro i σ' H1 hi ⟨v,rfl,s1,e1⟩
  have hat:(ns.map V.int)[i]?=some (.int ns[i]):=by rw [List.getElem?_map,List.getElem?_eq_getElem hi];rfl
  refine⟨⟨_,_,SqT.of (s1 _ _ e),hat⟩,?_⟩
  rintro y H2 ⟨rfl,hy⟩
  have ey:y=.int ns[i]:=Option.some.inj ((hy _ (SqT.of (s1 _ _ e))).symm.trans hat)
  subst ey
  refine gN (iM (eZ ⟨_,rfl,_,rfl,_,e1,aK (by rw [List.length_map,List.length_replicate];omega),_,rfl,aU s1 hlc,?_⟩))
  rw [ak,List.replicate_succ',List.map_append]
  rfl
theorem Cr:aQ ["thing","rows","columns"] ["thing","rows","columns"] (aB lZ):=⟨rfl,rfl,rfl,by decide +kernel,rfl,by decide +kernel,by decide +kernel⟩
theorem Bm(h:Has K mg "is_grid" lZ ["thing","rows","columns"])(Pq:Cal P w K mg base "are_numbers" 2 ["thing"] zH)(Pn:Cal P w K mg base "is_row_of" 1 ["thing","count"] nU)(Qp:mg "all" = none):Cal P w K mg base "is_grid" 3 ["thing","rows","columns"] vD:=by
 refine h.mk' Cr (fun vs H Q E hs=>?_) (fun f cdv A outer s H vs Q E hr hs=>?_)
 ·obtain⟨g,m,n,F,gus,rfl,_⟩:=hs
  rfl
 obtain⟨g,m,n,F,gus,rfl,hg,hm,hn,k⟩:=hs
 refine⟨_,(aC (aV (gb (aG Pn hr (by decide) rfl (aj (pv 0) (aj (pv 1) ao))) (gM (aJ (jx rfl) rfl Qp boot_all (aj (bD ["thing","rows","columns"] (aB lZ) ["columns","row"] [some 2,none] rfl rfl rfl (bQ (pv 0)) rfl (by decide +kernel) (by decide +kernel) (by decide +kernel) (by decide +kernel) (hg:=fun cl C s H ex pn E=>(aD (i:=1) (by decide +kernel:(["columns","row"]:List Str).Nodup) rfl (Or.inl rfl))) (ht:=fun cl C s H ex pn E=>bC) (he:=fun cl C s H ex pn E=>(gb (aG Pn hr (by decide) rfl (aj (pv 1) (aj (pv 0) ao))) (gM (aG Pq hr (by decide) rfl (aj (pv 1) ao)))))) ao)))))),?_⟩
 have hgl:=hg.l
 refine⟨_,rfl,_,rfl,g,gus,m+1,rfl,hg.e,hgl,_,rfl,eZ ?_⟩
 refine⟨_,rfl,g,rfl,⟨_,SqT.of hg.e⟩,fun lc hlc=>?_⟩
 refine bL (J:=Itt K0 g) (l:=lc) gus.length (fun i σ' H'=>∃ v:Option V,σ'=[some (.int ((n:Nat)+1)),v]/\Same H H'/\H' lc=some (.lst ((List.replicate i true).map V.bl))) ⟨none,rfl,aq hlc _,ak⟩ ?_ ?_
 ·rintro σ' H1 ⟨v,rfl,s1,e1⟩
  refine⟨⟨_,SqT.of (s1 _ _ hg.e),Nat.le_refl _⟩,lc,_,rfl,SqL.of e1,?_⟩
  rw [Cj]
  exact k H1 s1
 ·rintro i σ' H1 hi ⟨v,rfl,s1,e1⟩
  refine⟨⟨_,_,SqT.of (s1 _ _ hg.e),aZ hi⟩,?_⟩
  rintro y H2 ⟨rfl,hy⟩
  have ey:y=gus[i]:=Option.some.inj ((hy _ (SqT.of (s1 _ _ hg.e))).symm.trans (aZ hi))
  obtain⟨a,eu,ha⟩:=hg.r i _ (aZ hi)
  rw [eu] at ey
  subst ey
  have ha2:=s1 _ _ ha
  refine gN (iM (eZ ⟨_,rfl,_,rfl,a,_,n+1,rfl,ha2,by rw [List.length_map,List.length_map,List.length_range],_,rfl,eZ ⟨_,rfl,a,_,rfl,ha2,by rw [List.length_map,List.length_range];omega,fun H3 s3=>?_⟩⟩))
  refine⟨_,s3 _ _ e1,aK (by rw [List.length_map,List.length_replicate];omega),_,rfl,aU (s1.trans s3) hlc,?_⟩
  rw [ak,List.replicate_succ',List.map_append]
  rfl
theorem kO:aQ ["thing"] ["thing"] (aB dM):=⟨rfl,rfl,rfl,by decide +kernel,rfl,by decide +kernel,by decide +kernel⟩
theorem jc(h:Has K mg "is_link_of_places" dM ["thing"])(Pq:Cal P w K mg base "are_numbers" 2 ["thing"] zH)(Pn:Cal P w K mg base "is_row_of" 1 ["thing","count"] nU):Cal P w K mg base "is_link_of_places" 3 ["thing"] uo:=by
 refine h.mk' kO (fun vs H Q E hs=>?_) (fun f cdv A outer s H vs Q E hr hs=>?_)
 ·obtain⟨v,q,rfl,_⟩:=hs
  rfl
 obtain⟨v,q,rfl,hv,h1,h2,k⟩:=hs
 refine⟨_,(aC (aV (gb (aG Pn hr (by decide) rfl (aj (pv 0) (aj aA ao))) (gb (aG Pq hr (by decide) rfl (aj (bx bh (pv 0) aA (fun _ _=>rfl)) ao)) (gM (aG Pq hr (by decide) rfl (aj (bx bh (pv 0) aA (fun _ _=>rfl)) ao))))))),?_⟩
 obtain⟨p,a,b,rfl,hp,ha,hb⟩:=jg hv
 refine⟨_,rfl,p,_,2,rfl,hp,rfl,_,rfl,eZ ?_⟩
 refine⟨_,rfl,ixT (p:=p) rfl rfl (SqT.of hp) (cJ _ _) (⟨ a,_,rfl,zK ha,by rw [List.length_map];exact h1,fun H1 s1=>⟨_,rfl,eZ ?_⟩⟩)⟩
 exact⟨_,rfl,ixT (p:=p) rfl rfl (SqT.of (s1 _ _ hp)) (aO (xs:=[V.ref a,V.ref b]) (j:=1) rfl) (⟨ b,_,rfl,zK (s1 _ _ hb),by rw [List.length_map];exact h2,fun H2 s2=>k H2 (s1.trans s2)⟩)⟩
theorem mJ:aQ ["thing"] ["thing"] (aB dD):=⟨rfl,rfl,rfl,by decide +kernel,rfl,by decide +kernel,by decide +kernel⟩
theorem jU(h:Has K mg "is_row_of_links" dD ["thing"])(PJ:Cal P w K mg base "is_link_of_places" 3 ["thing"] uo)(Qp:mg "all" = none)(Pk:mg "isinstance" = none)(Pb:mg "tuple" = none):Cal P w K mg base "is_row_of_links" 4 ["thing"] rD:=by
 refine h.mk' mJ (fun vs H Q E hs=>?_) (fun f cdv A outer s H vs Q E hr hs=>?_)
 ·obtain⟨v,s,rfl,_⟩:=hs
  rfl
 obtain⟨v,st,rfl,hv,hl,hq,k⟩:=hs
 refine⟨_,(aC (aV (gb (aJ c7 rfl Pk boot_isinstance (aj (pv 0) (aj (iT (v:=.ty "tuple") rfl Pb boot_tuple rfl) ao))) (gM (aJ (jx rfl) rfl Qp boot_all (aj (bD ["thing"] (aB dD) ["each"] [none] rfl rfl rfl (bQ (pv 0)) rfl (by decide +kernel) (by decide +kernel) (by decide +kernel) (by decide +kernel) (hg:=fun cl C s H ex pn E=>(aD (i:=0) (by decide +kernel:(["each"]:List Str).Nodup) rfl (Or.inl rfl))) (ht:=fun cl C s H ex pn E=>bC) (he:=fun cl C s H ex pn E=>(aG PJ hr (by decide) rfl (aj (pv 0) ao)))) ao)))))),?_⟩
 obtain⟨q,ls,rfl,e,dl⟩:=bO hv
 have hll:=dl.len
 rw [List.length_map] at hll
 refine⟨_,rfl,_,_,_,true,rfl,.tup e,dJ K,_,rfl,eZ ?_⟩
 refine⟨_,rfl,q,rfl,⟨_,SqT.of e⟩,fun lc hlc=>?_⟩
 refine bL (J:=Itt K0 q) (l:=lc) st.length (fun i σ' H'=>∃ v:Option V,σ'=[v]/\Same H H'/\H' lc=some (.lst ((List.replicate i true).map V.bl))) ⟨none,rfl,aq hlc _,ak⟩ ?_ ?_
 ·rintro σ' H1 ⟨v,rfl,s1,e1⟩
  refine⟨⟨_,SqT.of (s1 _ _ e),by omega⟩,lc,_,rfl,SqL.of e1,?_⟩
  rw [Cj]
  exact k H1 s1
 ·rintro i σ' H1 hi ⟨v,rfl,s1,e1⟩
  have hil:i < ls.length:=by omega
  refine⟨⟨_,_,SqT.of (s1 _ _ e),aZ hil⟩,?_⟩
  rintro y H2 ⟨rfl,hy⟩
  have ey:y=ls[i]:=Option.some.inj ((hy _ (SqT.of (s1 _ _ e))).symm.trans (aZ hil))
  have dy:Den H ls[i] (lkD st[i]):=at_of dl (aZ hil) (by rw [List.getElem?_map,aZ hi];rfl)
  have hqi:=hq _ (List.getElem_mem hi)
  rw [← ey] at dy
  refine gN (iM (eZ ⟨_,rfl,y,st[i],rfl,dy.same s1,hqi.1,hqi.2,fun H3 s3=>?_⟩))
  refine⟨_,s3 _ _ e1,aK (by rw [List.length_map,List.length_replicate];omega),_,rfl,aU (s1.trans s3) hlc,?_⟩
  rw [ak,List.replicate_succ',List.map_append]
  rfl
theorem jh:aQ ["thing","m","n","i","j","step","counts"] ["thing","m","n"] (aB qN):=⟨rfl,rfl,rfl,by decide +kernel,rfl,by decide +kernel,by decide +kernel⟩
theorem DX(h:Has K mg "is_way" qN ["thing","m","n"])(Qa:Cal P w K mg base "is_row_of_links" 4 ["thing"] rD)(PB:Cal P w K mg base "steps_from" 2 ["i","j","m","n"] iY)(Ql:Cal P w K mg base "passed" 1 ["step"] pC)(Qp:mg "all" = none)(Pk:mg "isinstance" = none)(Pb:mg "tuple" = none):Cal P w K mg base "is_way" 5 ["thing","m","n"] Aw:=by
 refine h.mk' jh (fun vs H Q E hs=>?_) (fun f cdv A outer s H vs Q E hr hs=>?_)
 ·obtain⟨w,wus,way,m,n,rfl,_⟩:=hs
  rfl
 obtain⟨w,wus,way,m,n,rfl,e,dw,sm,hl,hm,hn,k⟩:=hs
 refine⟨_,(au (cD (PW.pt (wI (j9 (gG (aJ c7 rfl Pk boot_isinstance (aj (pv 0) (aj (iT (v:=.ty "tuple") rfl Pb boot_tuple rfl) ao))))) (m7 (j9 (gG (aJ (jx rfl) rfl Qp boot_all (aj (bD ["thing","m","n","i","j","step","counts"] (aB qN) ["each"] [none] rfl rfl rfl (bQ (pv 0)) rfl (by decide +kernel) (by decide +kernel) (by decide +kernel) (by decide +kernel) (hg:=fun cl C s H ex pn E=>(aD (i:=0) (by decide +kernel:(["each"]:List Str).Nodup) rfl (Or.inl rfl))) (ht:=fun cl C s H ex pn E=>bC) (he:=fun cl C s H ex pn E=>(aG Qa hr (by decide) rfl (aj (pv 0) ao)))) ao)))))))
   (aC (aV fJ))
   bF)
  (au (aR (i:=3) jh.nd rfl (Or.inl rfl) aA)
  (au (aR (i:=4) jh.nd rfl (Or.inl rfl) aA)
  (au (cG PassesOwn.never rfl (bQ (pv 0)) (aD (i:=5) jh.nd rfl (Or.inl rfl))
   (au (cD (aW (qQ hr.units) (pv 5) (aG PB hr (by decide) rfl (aj (pv 3) (aj (pv 4) (aj (pv 1) (aj (pv 2) ao))))) (by with_unfolding_all rfl))
   (aC (aV fJ))
   bF)
  (au (aR (i:=6) jh.nd rfl (Or.inl rfl) (aG Ql hr (by decide) rfl (aj (pv 5) ao)))
  (au (Et (i:=3) jh.nd rfl (Or.inl rfl) (bx bh (pv 6) aA (fun _ _=>rfl)) zW)
  (aC (Et (i:=4) jh.nd rfl (Or.inl rfl) (bx bh (pv 6) aA (fun _ _=>rfl)) zW))))))
  (aC (aV (gb (fG dR (pv 3) (pv 1) (bB _)) (gM (fG dR (pv 4) (pv 2) (bB _)))))))))),?_⟩
 have hll:=dw.len
 rw [List.length_map] at hll
 refine⟨_,rfl,_,_,_,true,rfl,.tup e,dJ K,_,rfl,oZ ?_⟩
 refine⟨_,rfl,w,rfl,⟨_,SqT.of e⟩,fun lc hlc=>?_⟩
 refine bL (J:=Itt K0 w) (l:=lc) way.length (fun i σ' H'=>∃ v:Option V,σ'=[v]/\Same H H'/\H' lc=some (.lst ((List.replicate i true).map V.bl))) ⟨none,rfl,aq hlc _,ak⟩ ?_ ?_
 rotate_left
 ·rintro i σ' H1 hi ⟨v,rfl,s1,e1⟩
  have hil:i < wus.length:=by omega
  refine⟨⟨_,_,SqT.of (s1 _ _ e),aZ hil⟩,?_⟩
  rintro y H2 ⟨rfl,hy⟩
  have ey:y=wus[i]:=Option.some.inj ((hy _ (SqT.of (s1 _ _ e))).symm.trans (aZ hil))
  have dy:Den H wus[i] (stD way[i]):=at_of dw (aZ hil) (by rw [List.getElem?_map,aZ hi];rfl)
  have hqi:=sm _ (List.getElem_mem hi)
  rw [← ey] at dy
  refine gN (iM (eZ ⟨_,rfl,y,way[i],rfl,dy.same s1,by omega,fun q hq=>by have:=hqi.2 q hq;omega,fun H3 s3=>?_⟩))
  refine⟨_,s3 _ _ e1,aK (by rw [List.length_map,List.length_replicate];omega),_,rfl,aU (s1.trans s3) hlc,?_⟩
  rw [ak,List.replicate_succ',List.map_append]
  rfl
 rintro σ' H1 ⟨v,rfl,s1,e1⟩
 refine⟨⟨_,SqT.of (s1 _ _ e),by omega⟩,lc,_,rfl,SqL.of e1,_,rfl,?_⟩
 rw [Cj]
 refine oZ ⟨_,rfl,w,rfl,⟨_,SqT.of (s1 _ _ e)⟩,?_⟩
 clear e1 hlc
 refine gR (K:=K0) (a:=w) (xs:=wus) (fun z σ H2=>∃(v5 v6:Option V)(i j:Nat),σ=[some (.ref w),some (.int (m:Nat)),some (.int (n:Nat)),some (.int (i:Nat)),some (.int (j:Nat)),v5,v6]/\Same H H2/\i<=m/\j<=n/\(lJ m n 0 0 way↔lJ m n i j (way.drop z))) ⟨_,_,0,0,rfl,s1,Nat.zero_le _,Nat.zero_le _,Iff.rfl⟩ ?_ ?_ ?_
 ·rintro z σ H2 _ ⟨_,_,_,_,_,s2,_⟩
  exact SqT.of (s2 _ _ e)
 ·rintro z y σ H2 hz ⟨v5,v6,i,j,rfl,s2,hi,hj,hiff⟩
  have hzl:=(List.getElem?_eq_some_iff.mp hz).1
  have hzw:z < way.length:=by omega
  have dy:Den H y (stD way[z]):=at_of dw hz (by rw [List.getElem?_map,aZ hzw];rfl)
  have hsm:=sm _ (List.getElem_mem hzw)
  rw [List.drop_eq_getElem_cons hzw] at hiff
  generalize way[z]=st at dy hsm hiff
  refine gN ⟨_,rfl,_,rfl,_,rfl,_,rfl,_,rfl,i,j,m,n,rfl,hi,hj,hm,hn,fun q us ss H3 s3 eq dq hp=>?_⟩
  have s23:=s2.trans s3
  have dy3:=dy.same s23
  have hst:∀ s∈ss,jf 3 (stD s)/\Sim (stD s) (stD st):=fun s hs=>by
   obtain⟨_,h2,h3⟩:=cA (hp.mem_iff.mp hs)
   exact⟨lX (by omega) fun l hl=>⟨Nat.le_trans (h3 l hl).la (by decide),Nat.le_trans (h3 l hl).lb (by decide)⟩,zm _ _⟩
  refine⟨q,us,stD st,ss.map stD,3,rfl,.inr (SqT.of eq),dy3,dq,fun e he=>by obtain⟨x,_,rfl⟩:=List.mem_map.mp he;exact⟨_,rfl⟩,⟨_,rfl⟩,lX (by omega) fun l hl=>⟨by have:=hsm.2 l hl;omega,by have:=hsm.2 l hl;omega⟩,fun e he=>by obtain⟨x,hx,rfl⟩:=List.mem_map.mp he;exact hst x hx,by decide,_,rfl,?_⟩
  refine cU (fun c=>?_) (fun c=>?_)
  ·refine k false H3 s23 ⟨(fun z=>nomatch z),fun z=>?_⟩
   have hm:=(hiff.mp z).1
   rw [uF.mpr (hp.mem_iff.mpr hm)] at c
   cases c
  ·have hm:st∈bw i j m n:=by
    refine hp.mem_iff.mp (uF.mp ?_)
    cases h:((ss.map stD).any fun e=>eqD e (stD st)) with
    | true=>rfl
    | false=>rw [h] at c;exact absurd rfl c
   obtain⟨g1,g2,g3⟩:=step_at hm
   refine⟨_,rfl,y,st,rfl,dy3,hsm.1,fun p hp=>by have:=hsm.2 p hp;omega,fun r H4 s4 e4=>gN ?_⟩
   refine⟨_,rfl,_,rfl,ixT (p:=r) rfl rfl (SqT.of e4) (cJ _ _) (⟨ _,_,rfl,rfl,?_⟩)⟩
   refine⟨_,rfl,_,rfl,ixT (p:=r) rfl rfl (SqT.of e4) (aO (xs:=[V.int (sz1 st:Nat),V.int (sz2 st:Nat)]) (j:=1) rfl) (⟨ _,_,rfl,rfl,?_⟩)⟩
   refine⟨_,_,i+sz1 st,j+sz2 st,rfl,s23.trans s4,g1,g2,?_⟩
   rw [hiff]
   exact⟨fun z=>z.2,fun z=>⟨hm,z⟩⟩
 ·rintro σ H2 ⟨v5,v6,i,j,rfl,s2,hi,hj,hiff⟩
  rw [hll,List.drop_length] at hiff
  refine⟨_,rfl,_,rfl,rfl,_,rfl,?_⟩
  have di:∀ {a b:Nat},decide (V.int (a:Nat)=V.int (b:Nat))=decide (a=b):=fun {a b}=>decide_eq_decide.mpr ⟨fun z=>by injection z with z;omega,fun z=>by rw [z]⟩
  rw [di]
  refine cU (fun c=>?_) (fun c=>?_)
  ·refine⟨_,rfl,_,rfl,rfl,?_⟩
   rw [di]
   refine k _ H2 s2 ?_
   rw [hiff,decide_eq_true_eq]
   exact⟨fun z=>⟨of_decide_eq_true c,z⟩,fun z=>z.2⟩
  ·refine k false H2 s2 ⟨(fun z=>nomatch z),fun z=>?_⟩
   exact absurd (decide_eq_true (hiff.mp z).1) c
end
structure eE(H:Hp)(t w g:Addr)(m n:Nat)(c:Int)(way:List Stp)(F:Nat->Nat->Int)(wus gus:List V):Prop where
 e:H t=some (.tup [.int c,.ref w,.ref g])
 ew:H w=some (.tup wus)
 d:cj H wus (way.map stD)
 sm:rH way
 g:iU H g m n F gus
 lw:way.length<=900
theorem eE.same{H H':Hp}{t w g:Addr}{m n:Nat}{c:Int}{way:List Stp}{F:Nat->Nat->Int}{wus gus:List V}(h:eE H t w g m n c way F wus gus)(s:Same H H'):eE H' t w g m n c way F wus gus:=⟨s _ _ h.e,s _ _ h.ew,h.d.same s,h.sm,h.g.same s,h.lw⟩
noncomputable def Holds(m n:Nat)(c:Stp->Int)(F:Nat->Nat->Int):Prop:=∀ i j,i<=m->j<=n->∀ s∈bw i j m n,F (i+sz1 s) (j+sz2 s) - F i j<=c s
structure vP(m n:Nat)(cost:Stp->Int)(c:Int)(way:List Stp)(F:Nat->Nat->Int):Prop where
 thru:lJ m n 0 0 way
 sum:(way.map cost).sum=c
 z:F 0 0=0
 e:F m n=c
 holds:Holds m n cost F
noncomputable def rF:Sp:=fun vs H Q _=>∃(w l1 l2 qp:Addr)(wus:List V)(way:List Stp)(ns:List Int)(xs ys:List Str)(ps:List (Str × Str)),vs=[.ref w,.ref l1,.ref l2,.ref qp]/\H w=some (.tup wus)/\cj H wus (way.map stD)/\(∀ s∈way,s.length<=2/\∀ l∈s,wW xs.length ys.length l)/\way.length<=900/\jF H l1 l2 qp ns xs ys ps/\∀ H',Same H H'->Q (.int (way.map (aY ns xs ys ps)).sum) H'
noncomputable def za:Sp:=fun vs H Q _=>∃(t w g:Addr)(m n:Nat)(c:Int)(way:List Stp)(F:Nat->Nat->Int)(wus gus:List V),vs=[.ref t,.int (m:Nat),.int (n:Nat)]/\eE H t w g m n c way F wus gus/\m<=30/\n<=30/\∀(b:Bool)(H':Hp),Same H H'->(b=true↔lJ m n 0 0 way)->Q (.bl b) H'
noncomputable def Ae:Sp:=fun vs H Q _=>∃(g l1 l2 qp:Addr)(ns:List Int)(xs ys:List Str)(ps:List (Str × Str))(F:Nat->Nat->Int)(gus:List V),vs=[.ref g,.ref l1,.ref l2,.ref qp]/\jF H l1 l2 qp ns xs ys ps/\iU H g xs.length ys.length F gus/\xs.length<=30/\ys.length<=30/\∀(b:Bool)(H':Hp),Same H H'->(b=true↔Holds xs.length ys.length (aY ns xs ys ps) F)->Q (.bl b) H'
noncomputable def rZ:Sp:=fun vs H Q _=>∃(q1 q2 qw qp t w g:Addr)(xs ys:List Str)(us:List V)(ps:List (Str × Str))(ns:List Int)(c:Int)(way:List Stp)(F:Nat->Nat->Int)(wus gus:List V),vs=[.ref q1,.ref q2,.ref qw,.ref qp,.ref t]/\H q1=some (.tup (xs.map V.str))/\H q2=some (.tup (ys.map V.str))/\xs.length<=30/\ys.length<=30/\(∀ x∈xs,x.length<=1000)/\(∀ x∈ys,x.length<=1000)/\H qw=some (.tup us)/\us.length<=1000/\PrT H us ps/\H qp=some (.tup (ns.map V.int))/\ns.length=5/\eE H t w g xs.length ys.length c way F wus gus /\
 ∀(b:Bool)(H':Hp),Same H H'->(b=true↔vP xs.length ys.length (aY ns xs ys ps) c way F)->Q (.bl b) H'
theorem Fb{α:Type}{xs:List α}{k:Nat}{v:α}(h:xs[k]?=some v)(hl:xs.length=k+1):atI xs (-1)=some v:=by
 unfold atI ixN
 rw [if_neg (by omega),if_pos (by omega)]
 show xs[((-1:Int)+xs.length).toNat]?=_
 rw [show ((-1:Int)+xs.length).toNat=k by omega]
 exact h
section
variable {P:Program}{w:World}{K:W.Frag}{mg:Str->Option Value}{base:Heap}
theorem Bx:aQ ["way","left","right","prices"] ["way","left","right","prices"] (aB jq):=⟨rfl,rfl,rfl,by decide +kernel,rfl,by decide +kernel,by decide +kernel⟩
theorem wD(h:Has K mg "way_cost" jq ["way","left","right","prices"])(PN:Cal P w K mg base "step_cost" 4 ["step","left","right","prices"] jX)(Px:mg "sum" = none):Cal P w K mg base "way_cost" 5 ["way","left","right","prices"] rF:=by
 refine h.mk' Bx (fun vs H Q E hs=>?_) (fun f cdv A outer s H vs Q E hr hs=>?_)
 ·obtain⟨w,l1,l2,qp,wus,way,ns,xs,ys,ps,rfl,_⟩:=hs
  rfl
 obtain⟨w,l1,l2,qp,wus,way,ns,xs,ys,ps,rfl,e,dw,hin,hl,hC,k⟩:=hs
 refine⟨_,(aC (aV (aJ (cR rfl) rfl Px boot_sum (aj (bD ["way","left","right","prices"] (aB jq) ["left","right","prices","step"] [some 1,some 2,some 3,none] rfl rfl rfl (bQ (pv 0)) rfl (by decide +kernel) (by decide +kernel) (by decide +kernel) (by decide +kernel) (hg:=fun cl C s H ex pn E=>(aD (i:=3) (by decide +kernel:(["left","right","prices","step"]:List Str).Nodup) rfl (Or.inl rfl))) (ht:=fun cl C s H ex pn E=>bC) (he:=fun cl C s H ex pn E=>(aG PN hr (by decide) rfl (aj (pv 3) (aj (pv 0) (aj (pv 1) (aj (pv 2) ao))))))) ao)))),?_⟩
 have hll:=dw.len
 rw [List.length_map] at hll
 refine⟨_,rfl,w,rfl,⟨_,SqT.of e⟩,fun lc hlc=>?_⟩
 refine bL (J:=Itt K0 w) (l:=lc) way.length (fun i σ' H'=>∃ v3:Option V,σ'=[some (.ref l1),some (.ref l2),some (.ref qp),v3]/\Same H H'/\H' lc=some (.lst (((way.take i).map (aY ns xs ys ps)).map V.int))) ⟨none,rfl,aq hlc _,ak⟩ ?_ ?_
 ·rintro σ' H1 ⟨v3,rfl,s1,e1⟩
  rw [List.take_length] at e1
  exact⟨⟨_,SqT.of (s1 _ _ e),by omega⟩,lc,_,rfl,SqL.of e1,k H1 s1⟩
 ·rintro i σ' H1 hi ⟨v3,rfl,s1,e1⟩
  have hil:i < wus.length:=by omega
  refine⟨⟨_,_,SqT.of (s1 _ _ e),aZ hil⟩,?_⟩
  rintro y H2 ⟨rfl,hy⟩
  have ey:y=wus[i]:=Option.some.inj ((hy _ (SqT.of (s1 _ _ e))).symm.trans (aZ hil))
  have dy:Den H wus[i] (stD way[i]):=at_of dw (aZ hil) (by rw [List.getElem?_map,aZ hi];rfl)
  have hini:=hin _ (List.getElem_mem hi)
  have htk:((way.take (i+1)).map (aY ns xs ys ps)).map V.int=((way.take i).map (aY ns xs ys ps)).map V.int++[.int (aY ns xs ys ps way[i])]:=by rw [take_one (aZ hi),List.map_append,List.map_append];rfl
  rw [htk]
  rw [← ey] at dy
  refine gN (iM (eZ ⟨_,rfl,_,rfl,_,rfl,_,rfl,y,l1,l2,qp,way[i],ns,xs,ys,ps,rfl,dy.same s1,hini.2,hini.1,hC.same s1,fun H3 s3=>?_⟩))
  exact⟨_,s3 _ _ e1,aK (by rw [List.length_map,List.length_map,List.length_take];omega),_,rfl,aU (s1.trans s3) hlc,ak⟩
theorem zO:aQ ["thing","m","n"] ["thing","m","n"] (aB lD):=⟨rfl,rfl,rfl,by decide +kernel,rfl,by decide +kernel,by decide +kernel⟩
theorem wH(h:Has K mg "is_found" lD ["thing","m","n"])(Pn:Cal P w K mg base "is_row_of" 1 ["thing","count"] nU)(QL:Cal P w K mg base "is_grid" 3 ["thing","rows","columns"] vD)(Rb:Cal P w K mg base "is_way" 5 ["thing","m","n"] Aw)(PX:Cal P w K mg base "is_number" 1 ["thing"] Hv):Cal P w K mg base "is_found" 6 ["thing","m","n"] za:=by
 refine h.mk' zO (fun vs H Q E hs=>?_) (fun f cdv A outer s H vs Q E hr hs=>?_)
 ·obtain⟨t,w,g,m,n,c,way,F,wus,gus,rfl,_⟩:=hs
  rfl
 obtain⟨t,w,g,m,n,c,way,F,wus,gus,rfl,hT,hm,hn,k⟩:=hs
 refine⟨_,(au (cD (j9 (gG (aG Pn hr (by decide) rfl (aj (pv 0) (aj aA ao)))))
   (aC (aV fJ))
   bF)
  (aC (aV (gb (aG PX hr (by decide) rfl (aj (bx bh (pv 0) aA (fun _ _=>rfl)) ao)) (gb (aG Rb hr (by decide) rfl (aj (bx bh (pv 0) aA (fun _ _=>rfl)) (aj (pv 1) (aj (pv 2) ao)))) (gM (aG QL hr (by decide) rfl (aj (bx bh (pv 0) aA (fun _ _=>rfl)) (aj (aP bA (pv 1) aA) (aj (aP bA (pv 2) aA) ao)))))))))),?_⟩
 have a0:atI [V.int c,.ref w,.ref g] 0=some (.int c):=cJ _ _
 have a1:atI [V.int c,.ref w,.ref g] 1=some (.ref w):=aO (xs:=[V.int c,.ref w,.ref g]) (j:=1) rfl
 have a2:atI [V.int c,.ref w,.ref g] 2=some (.ref g):=aO (xs:=[V.int c,.ref w,.ref g]) (j:=2) rfl
 refine⟨_,rfl,t,_,3,rfl,hT.e,rfl,_,rfl,oZ ?_⟩
 refine⟨_,rfl,ixT (p:=t) rfl rfl (SqT.of hT.e) (a0) (⟨ _,rfl,_,rfl,eZ ?_⟩)⟩
 refine⟨_,rfl,ixT (p:=t) rfl rfl (SqT.of hT.e) (a1) (⟨ _,rfl,_,rfl,w,wus,way,m,n,rfl,hT.ew,hT.d,hT.sm,hT.lw,by omega,by omega,fun b H1 s1 hb=>⟨_,rfl,?_⟩⟩)⟩
 cases b with
 | false=>exact oZ (k false H1 s1 hb)
 | true =>
  have hT1:=hT.same s1
  exact eZ ⟨_,rfl,ixT (p:=t) rfl rfl (SqT.of hT1.e) (a2) (⟨ _,rfl,_,_,rfl,rfl,_,rfl,_,_,rfl,rfl,g,m,n,F,gus,rfl,hT1.g,by omega,by omega,fun H2 s2=>k true H2 (s1.trans s2) hb⟩)⟩
theorem bR:aQ ["grid","left","right","prices","i","row","j","number","step","cost","end"] ["grid","left","right","prices"] (aB dZ):=⟨rfl,rfl,rfl,by decide +kernel,rfl,by decide +kernel,by decide +kernel⟩
theorem jw(h:Has K mg "no_step_is_short" dZ ["grid","left","right","prices"])(Qh:Cal P w K mg base "priced_steps" 5 ["i","j","left","right","prices"] ud)(Pz:mg "enumerate" = none):Cal P w K mg base "no_step_is_short" 6 ["grid","left","right","prices"] Ae:=by
 refine h.mk' bR (fun vs H Q E hs=>?_) (fun f cdv A outer s H vs Q E hr hs=>?_)
 ·obtain⟨g,l1,l2,qp,ns,xs,ys,ps,F,gus,rfl,_⟩:=hs
  rfl
 obtain⟨g,l1,l2,qp,ns,xs,ys,ps,F,gus,rfl,hC,hG,hm,hn,k⟩:=hs
 refine⟨_,(au (cG PassesOwn.never rfl (lY rfl Pz (aj (pv 0) ao)) (bH (n:=2) rfl (aH (aD (i:=4) bR.nd rfl (Or.inl rfl)) (aH (aD (i:=5) bR.nd rfl (Or.inl rfl)) bI)))
   (aC (cG PassesOwn.never rfl (lY rfl Pz (aj (pv 5) ao)) (bH (n:=2) rfl (aH (aD (i:=6) bR.nd rfl (Or.inl rfl)) (aH (aD (i:=7) bR.nd rfl (Or.inl rfl)) bI)))
   (aC (cG PassesOwn.never rfl (bY (aG Qh hr (by decide) rfl (aj (pv 4) (aj (pv 6) (aj (pv 1) (aj (pv 2) (aj (pv 3) ao))))))) (bH (n:=3) rfl (aH (aD (i:=8) bR.nd rfl (Or.inl rfl)) (aH (aD (i:=9) bR.nd rfl (Or.inl rfl)) (aH (aD (i:=10) bR.nd rfl (Or.inl rfl)) bI))))
   (aC (cD (aW HJ (aP fB (bx bh (bx bh (pv 0) (bx bh (pv 10) aA (fun _ _=>rfl)) (fun _ _=>rfl)) (bx bh (pv 10) aA (fun _ _=>rfl)) (fun _ _=>rfl)) (pv 7)) (pv 9) (bB _))
   (aC (aV fJ))
   bF)))))))
  (aC (aV fJ))),?_⟩
 have hgl:=hG.l
 refine⟨_,rfl,g,rfl,⟨_,SqT.of hG.e⟩,?_⟩
 refine qy (K:=K0) (a:=g) (xs:=gus) (fun x σ H1=>∃(v4 v5 v6 v7 v8 v9 v10:Option V),σ=[some (.ref g),some (.ref l1),some (.ref l2),some (.ref qp),v4,v5,v6,v7,v8,v9,v10]/\Same H H1/\∀ i j,i < x->i<=xs.length->j<=ys.length->∀ s∈bw i j xs.length ys.length,F (i+sz1 s) (j+sz2 s) - F i j<=aY ns xs ys ps s) ⟨_,_,_,_,_,_,_,rfl,Same.refl _,fun i j hi=>by omega⟩ ?_ ?_ ?_
 ·rintro x σ H1 _ ⟨_,_,_,_,_,_,_,_,s1,_⟩
  exact SqT.of (s1 _ _ hG.e)
 ·rintro x u t0 σ H1 hx ⟨v4,v5,v6,v7,v8,v9,v10,rfl,s1,hok⟩ ht0
  have hxl:=(List.getElem?_eq_some_iff.mp hx).1
  have s1':=s1.trans (aq ht0 (.tup [.int (x:Nat),u]))
  obtain⟨a,rfl,ha⟩:=hG.r x u hx
  refine wU fun E1 hE1=>⟨t0,_,rfl,SqT.of ak,rfl,_,_,rfl,_,_,rfl,rfl,?_⟩
  generalize upd H1 t0 (.tup [.int (x:Nat),.ref a])=H2 at s1' ⊢
  refine⟨_,rfl,a,rfl,⟨_,SqT.of (s1' _ _ ha)⟩,?_⟩
  refine qy (K:=K0) (a:=a) (xs:=((List.range (ys.length+1)).map (F x)).map V.int) (fun y σ H3=>∃(v6 v7 v8 v9 v10:Option V),σ=[some (.ref g),some (.ref l1),some (.ref l2),some (.ref qp),some (.int (x:Nat)),some (.ref a),v6,v7,v8,v9,v10]/\Same H H3/\∀ j,j < y->j<=ys.length->∀ s∈bw x j xs.length ys.length,F (x+sz1 s) (j+sz2 s) - F x j<=aY ns xs ys ps s) ⟨_,_,_,_,_,rfl,s1',fun j hj=>by omega⟩ ?_ ?_ ?_
  ·rintro y σ H3 _ ⟨_,_,_,_,_,_,s3,_⟩
   exact SqT.of (s3 _ _ ha)
  ·rintro y u t1 σ H3 hy ⟨v6,v7,v8,v9,v10,rfl,s3,hok2⟩ ht1
   have hyl:=(List.getElem?_eq_some_iff.mp hy).1
   rw [List.length_map,List.length_map,List.length_range] at hyl
   rw [qU (by omega)] at hy
   have eu:u=.int (F x y):=(Option.some.inj hy).symm
   subst eu
   have s3':=s3.trans (aq ht1 (.tup [.int (y:Nat),.int (F x y)]))
   refine wU fun E2 hE2=>⟨t1,_,rfl,SqT.of ak,rfl,_,_,rfl,_,_,rfl,rfl,?_⟩
   generalize upd H3 t1 (.tup [.int (y:Nat),.int (F x y)])=H4 at s3' ⊢
   refine⟨_,rfl,_,rfl,_,rfl,_,rfl,_,rfl,x,y,l1,l2,qp,ns,xs,ys,ps,rfl,hC.same s3',by omega,by omega,by omega,by omega,fun l us ss H5 s5 hl5 e5 d5 hp=>?_⟩
   have s05:=s3'.trans s5
   have hul:=d5.len
   rw [List.length_map] at hul
   refine⟨l,rfl,⟨_,SqL.of e5⟩,?_⟩
   refine iI (K:=K0) (a:=l) (xs:=us) (fun z σ H6=>∃(v8 v9 v10:Option V),σ=[some (.ref g),some (.ref l1),some (.ref l2),some (.ref qp),some (.int (x:Nat)),some (.ref a),some (.int (y:Nat)),some (.int (F x y)),v8,v9,v10]/\Same H5 H6/\∀ s∈ss.take z,F (x+sz1 s) (y+sz2 s) - F x y<=aY ns xs ys ps s) ⟨_,_,_,rfl,Same.refl _,fun s hs=>by cases hs⟩ ?_ ?_ ?_
   ·rintro z σ H6 _ ⟨_,_,_,_,s6,_⟩
    exact SqL.of (s6 _ _ e5)
   ·rintro z u σ H6 hz ⟨v8,v9,v10,rfl,s6,hok3⟩
    have hzl:=(List.getElem?_eq_some_iff.mp hz).1
    have hzs:z < ss.length:=by omega
    have dy:Den H6 u (psD (aY ns xs ys ps) x y ss[z]):=(at_of d5 hz (by rw [List.getElem?_map,aZ hzs];rfl)).same s6
    have hst:=hp.mem_iff.mp (List.getElem_mem hzs)
    have htk:=take_one (aZ hzs)
    rw [htk]
    clear htk
    generalize ss[z]=st at dy hst ⊢
    obtain⟨t,te,xv,rfl,ht,dx,hte⟩:=Lr dy
    obtain⟨g1,g2,g3⟩:=step_at hst
    have s06:=s05.trans s6
    obtain⟨ra,row,q1,q2,_,q3⟩:=(hG.same s06).get g1 g2
    refine wU fun E3 hE3=>⟨t,_,rfl,SqT.of ht,rfl,_,_,rfl,_,_,rfl,_,_,rfl,rfl,?_⟩
    refine⟨_,rfl,_,rfl,ixT (p:=te) rfl rfl (SqT.of hte) (cJ _ _) (ixT (p:=g) rfl rfl (SqT.of (s06 _ _ hG.e)) (aO q1) (⟨ _,rfl,ixT (p:=te) rfl rfl (SqT.of hte) (aO (xs:=[V.int ((x+sz1 st:Nat):Int),V.int ((y+sz2 st:Nat):Int)]) (j:=1) rfl) (ixT (p:=ra) rfl rfl (SqT.of q2) (aO q3) (⟨ _,rfl,_,_,rfl,rfl,_,rfl,_,_,rfl,rfl,_,rfl,?_⟩))⟩))⟩
    refine cU (fun c=>?_) (fun c=>?_)
    ·have c:=of_decide_eq_true c
     refine hE3.r _ _ <| hE2.r _ _ <| hE1.r _ _ <| k false H6 s06 ⟨(fun z=>nomatch z),fun z=>?_⟩
     have:=z x y (by omega) (by omega) st hst
     omega
    ·refine hE3.n _ _ ⟨_,_,_,rfl,s6,fun s hs=>?_⟩
     rcases List.mem_append.mp hs with hs | hs
     ·exact hok3 s hs
     ·rw [List.mem_singleton.mp hs]
      exact Int.not_lt.mp fun z=>c (decide_eq_true z)
   ·rintro σ H6 ⟨v8,v9,v10,rfl,s6,hok3⟩
    rw [hul,List.take_length] at hok3
    refine hE2.n _ _ ⟨_,_,_,_,_,rfl,s05.trans s6,fun j hj hjn s hs=>?_⟩
    by_cases e:j=y
    ·subst e
     exact hok3 s (hp.mem_iff.mpr hs)
    ·exact hok2 j (by omega) hjn s hs
  ·rintro σ H3 ⟨v6,v7,v8,v9,v10,rfl,s3,hok2⟩
   refine hE1.n _ _ ⟨_,_,_,_,_,_,_,rfl,s3,fun i j hi him hjn s hs=>?_⟩
   by_cases e:i=x
   ·subst e
    exact hok2 j (by rw [List.length_map,List.length_map,List.length_range];omega) hjn s hs
   ·exact hok i j (by omega) him hjn s hs
 ·rintro σ H1 ⟨v4,v5,v6,v7,v8,v9,v10,rfl,s1,hok⟩
  exact k true H1 s1 ⟨fun _ i j hi hj s hs=>hok i j (by omega) hi hj s hs,fun _=>rfl⟩
theorem eF:aQ ["ones","others","words","prices","told","left","right","cost","grid"] ["ones","others","words","prices","told"] (aB gw):=⟨rfl,rfl,rfl,by decide +kernel,rfl,by decide +kernel,by decide +kernel⟩
theorem n8(h:Has K mg "shows_found" gw ["ones","others","words","prices","told"])(Qy:Cal P w K mg base "is_found" 6 ["thing","m","n"] za)(Qm:Cal P w K mg base "measured" 6 ["texts","words","side"] nH)(Qz:Cal P w K mg base "way_cost" 5 ["way","left","right","prices"] rF)(PL:Cal P w K mg base "no_step_is_short" 6 ["grid","left","right","prices"] Ae)(Ph:mg "len" = none):Cal P w K mg base "shows_found" 7 ["ones","others","words","prices","told"] rZ:=by
 refine h.mk' eF (fun vs H Q E hs=>?_) (fun f cdv A outer s H vs Q E hr hs=>?_)
 ·obtain⟨q1,q2,qw,qp,t,w,g,xs,ys,us,ps,ns,c,way,F,wus,gus,rfl,_⟩:=hs
  rfl
 obtain⟨q1,q2,qw,qp,t,w,g,xs,ys,us,ps,ns,c,way,F,wus,gus,rfl,h1,h2,hx,hy,hx2,hy2,hw,hu,hP,hqp,hns,hT,k⟩:=hs
 refine⟨_,(au (cD (j9 (gG (aG Qy hr (by decide) rfl (aj (pv 4) (aj (aJ aN rfl Ph PySem.boot_len (aj (pv 0) ao)) (aj (aJ aN rfl Ph PySem.boot_len (aj (pv 1) ao)) ao))))))
   (aC (aV fJ))
   bF)
  (au (aR (i:=5) eF.nd rfl (Or.inl rfl) (aG Qm hr (by decide) rfl (aj (pv 0) (aj (pv 2) (aj aA ao)))))
  (au (aR (i:=6) eF.nd rfl (Or.inl rfl) (aG Qm hr (by decide) rfl (aj (pv 1) (aj (pv 2) (aj aA ao)))))
  (au (aR (i:=7) eF.nd rfl (Or.inl rfl) (bx bh (pv 4) aA (fun _ _=>rfl)))
  (au (aR (i:=8) eF.nd rfl (Or.inl rfl) (bx bh (pv 4) aA (fun _ _=>rfl)))
  (au (cD (aW yK (aG Qz hr (by decide) rfl (aj (bx bh (pv 4) aA (fun _ _=>rfl)) (aj (pv 5) (aj (pv 6) (aj (pv 3) ao))))) (pv 7) (bB _))
   (aC (aV fJ))
   bF)
  (aC (aV (gb (fG dR (bx bh (bx bh (pv 8) aA (fun _ _=>rfl)) aA (fun _ _=>rfl)) aA (bB _)) (gb (fG dR (bx bh (bx bh (pv 8) (jy fL aA) (fun _ _=>rfl)) (jy fL aA) (fun _ _=>rfl)) (pv 7) (bB _)) (gM (aG PL hr (by decide) rfl (aj (pv 8) (aj (pv 5) (aj (pv 6) (aj (pv 3) ao)))))))))))))))),?_⟩
 have a0:atI [V.int c,.ref w,.ref g] 0=some (.int c):=cJ _ _
 have a1:atI [V.int c,.ref w,.ref g] 1=some (.ref w):=aO (xs:=[V.int c,.ref w,.ref g]) (j:=1) rfl
 have a2:atI [V.int c,.ref w,.ref g] 2=some (.ref g):=aO (xs:=[V.int c,.ref w,.ref g]) (j:=2) rfl
 have hpl:ps.length<=1000:=by rw [← hP.1];exact hu
 have di:∀ {a b:Int},decide (V.int a=V.int b)=decide (a=b):=fun {a b}=>decide_eq_decide.mpr ⟨fun z=>by injection z,fun z=>by rw [z]⟩
 refine⟨_,rfl,_,rfl,q1,_,rfl,.inr (SqT.of h1),_,rfl,q2,_,rfl,.inr (SqT.of h2),t,w,g,xs.length,ys.length,c,way,F,wus,gus,by rw [List.length_map,List.length_map];rfl,hT,hx,hy,fun b H1 s1 hb=>⟨_,rfl,?_⟩⟩
 cases b with
 | false=>exact eZ (k false H1 s1 ⟨(fun z=>nomatch z),fun z=>hb.mpr z.thru⟩)
 | true =>
  have hth:=hb.mp rfl
  have hsm:=dW hth (Nat.zero_le _) (Nat.zero_le _)
  refine oZ ⟨_,rfl,_,rfl,q1,qw,0,xs,us,ps,rfl,by decide,s1 _ _ h1,by omega,hx2,s1 _ _ hw,hu,hP.same s1,fun l1 H2 s2 m1=>?_⟩
  have s02:=s1.trans s2
  refine gN ⟨_,rfl,_,rfl,q2,qw,1,ys,us,ps,rfl,by decide,s02 _ _ h2,by omega,hy2,s02 _ _ hw,hu,hP.same s02,fun l2 H3 s3 m2=>?_⟩
  have s03:=s02.trans s3
  have hT3:=hT.same s03
  have hC:jF H3 l1 l2 qp ns xs ys ps:=⟨m1.same s3,m2,s03 _ _ hqp,hns,hx2,hy2,hpl⟩
  refine gN ⟨_,rfl,ixT (p:=t) rfl rfl (SqT.of hT3.e) (a0) (gN ⟨_,rfl,ixT (p:=t) rfl rfl (SqT.of hT3.e) (a2) (gN ?_)⟩)⟩
  refine⟨_,rfl,ixT (p:=t) rfl rfl (SqT.of hT3.e) (a1) (⟨ _,rfl,_,rfl,_,rfl,w,l1,l2,qp,wus,way,ns,xs,ys,ps,rfl,hT3.ew,hT3.d,fun s hs=>(hsm.2 s hs).2,hT3.lw,hC,fun H4 s4=>?_⟩)⟩
  have s04:=s03.trans s4
  have hT4:=hT3.same s4
  refine⟨_,rfl,rfl,_,rfl,?_⟩
  rw [di]
  refine cU (fun cc=>?_) (fun cc=>?_)
  ·refine k false H4 s04 ⟨(fun z=>nomatch z),fun z=>?_⟩
   rw [decide_eq_true z.sum] at cc
   cases cc
  ·have hsum:(way.map (aY ns xs ys ps)).sum=c:=by
    by_cases z:(way.map (aY ns xs ys ps)).sum=c
    ·exact z
    ·rw [decide_eq_false z] at cc
     exact absurd rfl cc
   obtain⟨ra,row,u1,u2,u3,u4⟩:=hT4.g.get (i:=0) (j:=0) (Nat.zero_le _) (Nat.zero_le _)
   obtain⟨rb,rol,w1,w2,w3,w4⟩:=hT4.g.get (i:=xs.length) (j:=ys.length) (Nat.le_refl _) (Nat.le_refl _)
   refine⟨_,rfl,ixT (p:=g) rfl rfl (SqT.of hT4.g.e) (aO (j:=0) u1) (ixT (p:=ra) rfl rfl (SqT.of u2) (aO (j:=0) u4) (⟨ rfl,_,rfl,?_⟩))⟩
   rw [di]
   refine cU (fun c1=>?_) (fun c1=>?_)
   ·refine⟨_,rfl,_,rfl,ixT (p:=g) rfl rfl (SqT.of hT4.g.e) (Fb w1 hT4.g.l) (⟨ _,rfl,ixT (p:=rb) rfl rfl (SqT.of w2) (Fb w4 w3) (⟨ _,rfl,rfl,_,rfl,?_⟩)⟩)⟩
    rw [di]
    refine cU (fun c2=>?_) (fun c2=>?_)
    ·exact⟨_,rfl,_,rfl,_,rfl,_,rfl,g,l1,l2,qp,ns,xs,ys,ps,F,gus,rfl,hC.same s4,hT4.g,hx,hy,fun b H5 s5 hb5=>k b H5 (s04.trans s5) ⟨fun z=>⟨hth,hsum,of_decide_eq_true c1,of_decide_eq_true c2,hb5.mp z⟩,fun z=>hb5.mpr z.holds⟩⟩
    ·exact k false H4 s04 ⟨(fun z=>nomatch z),fun z=>absurd (decide_eq_true z.e) c2⟩
   ·exact k false H4 s04 ⟨(fun z=>nomatch z),fun z=>absurd (decide_eq_true z.z) c1⟩
end
structure Asc(n:Nat)(x:Str):Prop where
 l:x.length<=n
 c:∀ c∈x.cps.toList,c < 128
theorem oK(x:Str):x=⟨x.cps.toList.toArray⟩:=by cases x;simp
theorem wA(x:Str):x.cps.toList.length=x.length:=by simp [Str.length]
theorem Asc.mono{n m:Nat}{x:Str}(h:Asc n x)(k:n<=m):Asc m x:=⟨Nat.le_trans h.l k,h.c⟩
theorem Asc.app{n m:Nat}{x y:Str}(h:Asc n x)(k:Asc m y):Asc (n+m) (x++y):=by
 constructor
 ·have e:(x++y).length=x.length+y.length:=by
   show (x.cps++y.cps).size=_
   exact Array.size_append
  have:=h.l
  have:=k.l
  omega
 ·intro c hc
  have hc':c∈(x.cps++y.cps).toList:=hc
  rw [Array.toList_append,List.mem_append] at hc'
  exact hc'.elim (h.c c) (k.c c)
theorem Asc.slice{n:Nat}{x:Str}(h:Asc n x)(lo hi:Option Int):Asc n (Txt.slice x lo hi):=by
 refine⟨Nat.le_trans (Txt.slice_le x lo hi) h.l,fun c hc=>?_⟩
 unfold Txt.slice at hc
 split at hc
 ·exact h.c c hc
 ·simp only [List.toList_toArray,List.mem_filterMap] at hc
  obtain⟨i,_,e⟩:=hc
  refine h.c c ?_
  have:x.cps.toList[i]?=some c:=by simpa using e
  exact List.mem_of_getElem? this
theorem Asc.up{n:Nat}{x:Str}(h:Asc n x):Asc n ⟨(x.cps.toList.map up1).toArray⟩:=by
 constructor
 ·show ((x.cps.toList.map up1).toArray).size<=n
  rw [List.size_toArray,List.length_map,wA]
  exact h.l
 ·intro c hc
  have hc':c∈x.cps.toList.map up1:=by simpa using hc
  obtain⟨d,hd,rfl⟩:=List.mem_map.mp hc'
  exact Jy (h.c d hd)
theorem Asc.ones{cs:List Nat}{n:Nat}{y:Str}(hy:y=⟨#[]⟩)(hl:cs.length<=n)(h:∀ c∈cs,c < 128):Asc n (Str.join y (cs.map fun c=>(⟨#[c]⟩:Str))):=by
 subst hy
 rw [join_ones]
 exact⟨by show cs.toArray.size<=n;simpa using hl,fun c hc=>h c (by simpa using hc)⟩
theorem jj{L:List Str}{r:Int}(h0:0<=r)(h1:r < (L.length:Nat)):∃ x,x∈L/\atI (L.map V.str) r=some (.str x):=by
 obtain⟨v,hv,hm⟩:=Bg (xs:=L.map V.str) h0 (by rw [List.length_map];exact h1)
 obtain⟨x,hx,rfl⟩:=List.mem_map.mp hm
 exact⟨x,hx,hv⟩
theorem oX{L:List Int}{r:Int}(h0:0<=r)(h1:r < (L.length:Nat)):∃ x,x∈L/\atI (L.map V.int) r=some (.int x):=by
 obtain⟨v,hv,hm⟩:=Bg (xs:=L.map V.int) h0 (by rw [List.length_map];exact h1)
 obtain⟨x,hx,rfl⟩:=List.mem_map.mp hm
 exact⟨x,hx,hv⟩
noncomputable def yL(cs:List Str)(n:Nat):Nat:=(cs.filter fun y=>decide (n<=y.length)).length
theorem Gz(cs:List Str)(n:Nat):yL cs (n+1)<=yL cs n:=by
 induction cs with
 | nil=>exact Nat.le_refl _
 | cons y cs ih =>
  unfold yL at *
  by_cases h:n+1<=y.length
  ·rw [List.filter_cons_of_pos (by simpa using h),List.filter_cons_of_pos (by simpa using (show n<=y.length by omega))]
   simpa using ih
  ·rw [List.filter_cons_of_neg (by simpa using h)]
   by_cases h2:n<=y.length
   ·rw [List.filter_cons_of_pos (by simpa using h2),List.length_cons]
    omega
   ·rw [List.filter_cons_of_neg (by simpa using h2)]
    exact ih
theorem GK{cs:List Str}{x:Str}(hx:x∈cs):yL cs (x.length+1) < yL cs x.length:=by
 induction cs with
 | nil=>cases hx
 | cons y cs ih =>
  have hle:=Gz cs x.length
  unfold yL at *
  rcases List.mem_cons.mp hx with rfl | hx
  ·rw [List.filter_cons_of_neg (by simp),List.filter_cons_of_pos (by simp),List.length_cons]
   omega
  ·have ih:=ih hx
   by_cases h:x.length+1<=y.length
   ·rw [List.filter_cons_of_pos (by simpa using h),List.filter_cons_of_pos (by simpa using (show x.length<=y.length by omega))]
    simpa using ih
   ·rw [List.filter_cons_of_neg (by simpa using h)]
    by_cases h2:x.length<=y.length
    ·rw [List.filter_cons_of_pos (by simpa using h2),List.length_cons]
     omega
    ·rw [List.filter_cons_of_neg (by simpa using h2)]
     exact ih
noncomputable abbrev SG:Str:="abcdefghijklmnopqrstuvwxyz0123456789"
theorem Jh:(Str.cps SG).toList.length=36:=by decide +kernel
theorem Kp:∀ c∈(Str.cps SG).toList,c < 128:=by decide +kernel
theorem Cy:Str.length SG<=1000:=by decide +kernel
structure Dj(H:Hp)(l:Addr)(cs:List Str):Prop where
 e:H l=some (.lst (cs.map V.str))
 n:cs.length=9
 a:∀ x∈cs,Asc 17 x
theorem Dj.old{b l:Addr}{H H':Hp}{cs:List Str}(h:Dj H l cs)(o:cY b H H')(hn:l≠b):Dj H' l cs:=⟨o _ _ h.e hn,h.n,h.a⟩
noncomputable def Fo:Sp:=fun vs H Q _=>∃ b:Addr,vs=[.ref b]/\bM b H/\∀(l:Addr)(cs:List Str)(H':Hp),bM b H'->cY b H H'->l≠b->Dj H' l cs->Q (.ref l) H'
noncomputable def Fq:Sp:=fun vs H Q _=>∃(b l:Addr)(cs:List Str),vs=[.ref b,.ref l]/\bM b H/\l≠b/\Dj H l cs/\∀(x:Str)(H':Hp),bM b H'->cY b H H'->Asc 1000 x->Q (.str x) H'
noncomputable def z9:Sp:=fun vs H Q _=>∃(b l:Addr)(cs:List Str)(m:Nat),vs=[.ref b,.ref l,.int (m:Nat)]/\bM b H/\l≠b/\Dj H l cs/\m<=7/\∀(q:Addr)(xs:List Str)(H':Hp),bM b H'->cY b H H'->H' q=some (.tup (xs.map V.str))->xs.length=m->(∀ x∈xs,Asc 1000 x)->Q (.ref q) H'
noncomputable def zf:Sp:=fun vs H Q _=>∃(b l1 l2:Addr)(c1 c2:List Str),vs=[.ref b,.ref l1,.ref l2]/\bM b H/\l1≠b/\l2≠b/\Dj H l1 c1/\Dj H l2 c2/\∀(q:Addr)(us:List V)(ps:List (Str × Str))(H':Hp),bM b H'->cY b H H'->H' q=some (.tup us)->us.length<=100->PrT H' us ps->Q (.ref q) H'
noncomputable def uJ:Sp:=fun vs H Q _=>∃ b:Addr,vs=[.ref b]/\bM b H/\∀(q:Addr)(ns:List Int)(H':Hp),bM b H'->cY b H H'->H' q=some (.tup (ns.map V.int))->ns.length=5->Q (.ref q) H'
noncomputable def listI(H:Hp)(b l:Addr)(k:Nat)(σ:L2.St)(H1:Hp):Prop:=∃(v3:Option V)(cs:List Str),σ=[some (.ref b),some (.str SG),some (.ref l),v3]/\k+cs.length=9/\bM b H1/\cY b H H1/\H1 l=some (.lst (cs.map V.str))/\∀ x∈cs,Asc 17 x
theorem qJ(cs:List Str):(cs.map V.str).all oO=true:=by
 rw [List.all_eq_true]
 intro v hv
 obtain⟨x,_,rfl⟩:=List.mem_map.mp hv
 rfl
theorem Em{b l:Addr}{H:Hp}{o:HO}(h:bM b H)(hn:l≠b):bM b (upd H l o):=by
 obtain⟨ns,s,e,r⟩:=h
 exact⟨ns,s,(aL hn.symm).trans e,r⟩
section
variable {P:Program}{w:World}{K:W.Frag}{mg:Str->Option Value}{base:Heap}
theorem rC:aQ ["_law_pot","_law_signs","_law_cores_here","_law_core"] ["_law_pot"] (aB yq):=⟨rfl,rfl,rfl,by decide +kernel,rfl,by decide +kernel,by decide +kernel⟩
theorem Jv(h:Has K mg "_law_list" yq ["_law_pot"])(Pj:Cal P w K mg base "_law_next" 1 ["_law_pot","_law_many"] iu)(Ph:mg "len" = none)(Pg:mg "range" = none):Cal P w K mg base "_law_list" 2 ["_law_pot"] Fo:=by
 refine h.mk' rC (fun vs H Q E hs=>?_) (fun f cdv A outer s H vs Q E hr hs=>?_)
 ·obtain⟨b,rfl,_⟩:=hs
  rfl
 obtain⟨b,rfl,hp,k⟩:=hs
 refine⟨_,(au (aR (i:=1) rC.nd rfl (Or.inr rfl) cB)
  (au (aR (i:=2) rC.nd rfl (Or.inl rfl) (cQ ao))
  (au (jo PassesOwn.never (aW Cu (aJ aN rfl Ph PySem.boot_len (aj (pv 2) ao)) aA (bB _))
   (au (aR (i:=3) rC.nd rfl (Or.inl rfl) (cZ PySem.F.plainAttrs_str PySem.F.slot_str_join PySem.F.type_str_join xZ cB (aj (bD ["_law_pot","_law_signs","_law_cores_here","_law_core"] (aB yq) ["_law_pot","_law_signs","_law_k"] [some 0,some 1,none] rfl rfl rfl (cC rfl Pg (aj (aP bA aA (aG Pj hr (by decide) rfl (aj (pv 0) (aj aA ao)))) ao)) rfl (by decide +kernel) (by decide +kernel) (by decide +kernel) (by decide +kernel) (hg:=fun cl C s H ex pn E=>(aD (i:=2) (by decide +kernel:(["_law_pot","_law_signs","_law_k"]:List Str).Nodup) rfl (Or.inl rfl))) (ht:=fun cl C s H ex pn E=>bC) (he:=fun cl C s H ex pn E=>(bx Kh (pv 1) (aG Pj hr (by decide) rfl (aj (pv 0) (aj aA ao))) (fun _ _=>rfl)))) ao)))
  (au (jo PassesOwn.never (aW jW (pv 3) (pv 2) (by with_unfolding_all rfl))
   (aC (aR (i:=3) rC.nd rfl (Or.inl rfl) (aP fj (pv 3) cB))))
  (aC (cI (cZ PySem.F.plainAttrs_list PySem.F.slot_list_append PySem.F.type_list_append bN (pv 2) (aj (pv 3) ao)))))))
  (aC (aV (pv 2)))))),?_⟩
 refine gN ⟨smn 0,fun l hl=>?_⟩
 have nlb:l≠b:=hp.ne hl
 refine gN ⟨listI H b l,⟨9,_,[],rfl,rfl,hp.same (aq hl _),.of (aq hl _),ak,(fun x hx=>nomatch hx)⟩,?_⟩
 rintro kk σ H1 ⟨v3,cs,rfl,hk,p1,o1,e1,a1⟩
 refine⟨_,rfl,l,_,rfl,.inl (SqL.of e1),_,_,rfl,rfl,_,rfl,?_⟩
 refine cU (fun z=>?_) (fun z=>?_)
 ·have hlt:cs.length < 9:=by
   have:=of_decide_eq_true z
   rw [List.length_map] at this
   omega
  refine⟨fun σ' H'=>∃ m',m' < kk/\listI H b l m' σ' H',fun _ _ q=>q,?_⟩
  refine⟨rfl,_,rfl,b,8,rfl,p1,by decide,by decide,fun r H2 p2 o2 r0 r1=>⟨_,_,rfl,rfl,_,rfl,by omega,by omega,fun lc hlc=>?_⟩⟩
  have ncb:lc≠b:=p2.ne hlc
  have el2:=o2 _ _ e1 nlb
  have ncl:lc≠l:=(aF el2 hlc).symm
  refine bL (J:=Itr 0 (1+r).toNat) (l:=lc) (1+r).toNat (fun i σ' H'=>∃(ds:List Nat)(v:Option V),ds.length=i/\σ'=[some (.ref b),some (.str SG),v]/\H' lc=some (.lst (ds.map fun c=>V.str ⟨#[c]⟩))/\bM b H'/\cY b H H'/\H' l=some (.lst (cs.map V.str))/\∀ c∈ds,c < 128) ⟨[],none,rfl,rfl,ak,p2.same (aq hlc _),(o1.trans o2).trans (.of (aq hlc _)),(aq hlc _) _ _ el2,(fun c hc=>nomatch hc)⟩ ?_ ?_
  ·rintro σ' H3 ⟨ds,v,hds,rfl,hl3,p3,o3,el3,as3⟩
   refine⟨Nat.le_refl _,_,lc,ds.map (fun c=>(⟨#[c]⟩:Str)),rfl,rfl,SqL.of (by rw [List.map_map];exact hl3),pN (by decide +kernel) ds (by omega),?_⟩
   have ha:Asc 8 (Str.join "" (ds.map fun c=>(⟨#[c]⟩:Str))):=Asc.ones (by decide +kernel) (by omega) as3
   generalize Str.join "" (ds.map fun c=>(⟨#[c]⟩:Str))=x at ha
   have hns:yL cs x.length<=cs.length:=List.length_filter_le _ _
   refine gN ⟨fun m σ' H'=>∃ y:Str,σ'=[some (.ref b),some (.str SG),some (.ref l),some (.str y)]/\H'=H3/\m=yL cs y.length/\y.length+m<=17/\∀ c∈y.cps.toList,c < 128,⟨yL cs x.length,x,rfl,rfl,rfl,by have:=ha.l;omega,ha.c⟩,?_⟩
   rintro m σ' H4 ⟨y,rfl,rfl,hm,hym,hyc⟩
   refine⟨_,rfl,_,rfl,l,_,rfl,.inl (SqL.of el3),rfl,qJ cs,_,rfl,?_⟩
   rw [show (if false=true then !inV (V.str y) (cs.map V.str) else inV (V.str y) (cs.map V.str))=inV (V.str y) (cs.map V.str) from rfl,tH]
   refine cU (fun z2=>?_) (fun z2=>?_)
   ·have hyin:=of_decide_eq_true z2
    have hlt2:=GK hyin
    have eq1:(y++("q" : Str)).length=y.length+1:=by
     show (y.cps++Str.cps "q").size=y.cps.size+1
     rw [Array.size_append]
     rfl
    refine⟨fun σ' H'=>∃ m',m' < m/\∃ y:Str,σ'=[some (.ref b),some (.str SG),some (.ref l),some (.str y)]/\H'=H4/\m'=yL cs y.length/\y.length+m'<=17/\∀ c∈y.cps.toList,c < 128,fun _ _ q=>q,?_⟩
    refine⟨_,rfl,_,_,rfl,rfl,small (by show y.length+1<=1000;omega),?_⟩
    refine⟨yL cs (y.length+1),by omega,y++("q" : Str),rfl,rfl,by rw [eq1],by rw [eq1];omega,fun c hc=>?_⟩
    have hc':c∈(y.cps++Str.cps "q").toList:=hc
    rw [Array.toList_append,List.mem_append] at hc'
    rcases hc' with h | h
    ·exact hyc c h
    ·exact (by decide +kernel:∀ c∈(Str.cps "q").toList,c < 128) c h
   ·refine⟨_,rfl,.inl ⟨rfl,_,SqL.of el3⟩,_,rfl,l,_,_,rfl,rfl,el3,aK (by rw [List.length_map];omega),?_⟩
    refine⟨kk - 1,by omega,_,cs++[y],rfl,by rw [List.length_append,List.length_singleton];omega,Em p3 nlb,fun c o z3 h=>?_,?_,fun w hw=>?_⟩
    ·rw [aL (aF z3 hl)]
     exact o3 c o z3 h
    ·rw [ak,List.map_append]
     rfl
    ·rcases List.mem_append.mp hw with hw | hw
     ·exact a1 w hw
     ·rw [List.mem_singleton.mp hw]
      exact⟨by omega,hyc⟩
  ·rintro i σ' H3 hi ⟨ds,v,hds,rfl,hl3,p3,o3,el3,as3⟩
   refine⟨hi,?_⟩
   rintro x H4 ⟨rfl,rfl⟩
   refine gN (iM (eZ ?_))
   refine⟨_,rfl,_,rfl,b,36,rfl,p3,by decide,by decide,fun r5 H5 p5 o5 r50 r51=>?_⟩
   obtain⟨c,hc,hcm⟩:=Bg (xs:=(Str.cps SG).toList) r50 (by rw [Jh];exact r51)
   have hlcH:H lc=none:=(o1.trans o2).none p2 hlc
   refine⟨_,r5,c,rfl,rfl,small Cy,hc,ds.map (fun c=>V.str ⟨#[c]⟩),o5 _ _ hl3 ncb,aK (by rw [List.length_map];omega),ds++[c],_,by rw [List.length_append,hds];rfl,rfl,?_,Em p5 ncb,fun c' o z h=>?_,(aL ncl.symm).trans (o5 _ _ el3 nlb),fun e he=>?_⟩
   ·rw [ak,List.map_append]
    rfl
   ·rw [aL (aF z hlcH)]
    exact o5 _ _ (o3 c' o z h) h
   ·rcases List.mem_append.mp he with he | he
    ·exact as3 e he
    ·rw [List.mem_singleton.mp he]
     exact Kp c hcm
 ·have h9:cs.length=9:=by
   have:¬ ((cs.map V.str).length:Int) < 9:=fun q=>z (decide_eq_true q)
   rw [List.length_map] at this
   omega
  exact⟨_,rfl,k l cs H1 p1 o1 nlb ⟨e1,h9,a1⟩⟩
theorem kh:aQ ["_law_pot","_law_cores_here","_law_text_here","_law_k","_law_word","_law_way"] ["_law_pot","_law_cores_here"] (aB Di):=⟨rfl,rfl,rfl,by decide +kernel,rfl,by decide +kernel,by decide +kernel⟩
theorem Iu(h:Has K mg "_law_text" Di ["_law_pot","_law_cores_here"])(Pj:Cal P w K mg base "_law_next" 1 ["_law_pot","_law_many"] iu)(Pg:mg "range" = none):Cal P w K mg base "_law_text" 2 ["_law_pot","_law_cores_here"] Fq:=by
 refine h.mk' kh (fun vs H Q E hs=>?_) (fun f cdv A outer s H vs Q E hr hs=>?_)
 ·obtain⟨b,l,cs,rfl,_⟩:=hs
  rfl
 obtain⟨b,l,cs,rfl,hp,nlb,h9,k⟩:=hs
 refine⟨_,(au (aR (i:=2) kh.nd rfl (Or.inl rfl) (bx aX (cQ (aj cB (aj cB (aj cB (aj cB ao))))) (aG Pj hr (by decide) rfl (aj (pv 0) (aj aA ao))) (fun _ _=>rfl)))
  (au (cG PassesOwn.never rfl (cC rfl Pg (aj (aG Pj hr (by decide) rfl (aj (pv 0) (aj (bx aX (cQ (aj aA (aj aA (aj aA (aj aA (aj aA (aj aA (aj aA (aj aA ao))))))))) (aG Pj hr (by decide) rfl (aj (pv 0) (aj aA ao))) (fun _ _=>rfl)) ao))) ao)) (aD (i:=3) kh.nd rfl (Or.inl rfl))
   (au (aR (i:=4) kh.nd rfl (Or.inl rfl) (bx aX (pv 1) (aG Pj hr (by decide) rfl (aj (pv 0) (aj aA ao))) (fun _ _=>rfl)))
  (au (aR (i:=5) kh.nd rfl (Or.inl rfl) (aG Pj hr (by decide) rfl (aj (pv 0) (aj aA ao))))
  (au (cD (aW dR (pv 5) aA (bB _))
   (aC (aR (i:=4) kh.nd rfl (Or.inl rfl) (pJ PySem.F.plainAttrs_str PySem.F.slot_str_upper PySem.F.type_str_upper u0 (pv 4))))
   bF)
  (au (cD (aW dR (pv 5) aA (bB _))
   (aC (aR (i:=4) kh.nd rfl (Or.inl rfl) (aP fj (pJ PySem.F.plainAttrs_str PySem.F.slot_str_upper PySem.F.type_str_upper u0 (cH Ew (pv 4) cW (cX aA))) (cH Ew (pv 4) (cX aA) cW))))
   bF)
  (aC (aR (i:=2) kh.nd rfl (Or.inl rfl) (aP fj (aP fj (pv 2) (pv 4)) (bx aX (cQ (aj cB (aj cB (aj cB (aj cB (aj cB (aj cB (aj cB (aj cB ao))))))))) (aG Pj hr (by decide) rfl (aj (pv 0) (aj aA ao))) (fun _ _=>rfl))))))))))
  (aC (aV (pv 2))))),?_⟩
 refine⟨smn 4,fun l1 hl1=>?_⟩
 have n1b:l1≠b:=hp.ne hl1
 have s1:=aq hl1 (.lst (([""," ","(","\n"]:List Str).map V.str))
 have e1:(upd H l1 (.lst (([""," ","(","\n"]:List Str).map V.str))) l1=some (.lst (([""," ","(","\n"]:List Str).map V.str)):=ak
 have p1:=hp.same s1
 refine⟨_,rfl,b,4,rfl,p1,by decide,by decide,fun r2 H2 p2 o2 r20 r21=>?_⟩
 obtain⟨x0,hx0,hat0⟩:=jj (L:=[""," ","(","\n"]) r20 r21
 have ax0:Asc 1 x0:=(by
  have:∀ x∈([""," ","(","\n"]:List Str),x.length<=1/\∀ c∈x.cps.toList,c < 128:=by decide +kernel
  exact⟨(this x0 hx0).1,(this x0 hx0).2⟩)
 refine (ixL (p:=l1) rfl rfl (SqL.of (o2 _ _ e1 n1b)) (hat0) (?_))
 have o02:cY b H H2:=(cY.of s1).trans o2
 refine gN ⟨_,rfl,smn 8,fun l3 hl3=>?_⟩
 have n3b:l3≠b:=p2.ne hl3
 have s3:=aq hl3 (.lst (([4,5,5,5,5,5,9,21]:List Int).map V.int))
 have e3:(upd H2 l3 (.lst (([4,5,5,5,5,5,9,21]:List Int).map V.int))) l3=some (.lst (([4,5,5,5,5,5,9,21]:List Int).map V.int)):=ak
 refine⟨_,rfl,b,8,rfl,p2.same s3,by decide,by decide,fun r4 H4 p4 o4 r40 r41=>?_⟩
 obtain⟨m,hm,hatm⟩:=oX (L:=[4,5,5,5,5,5,9,21]) r40 r41
 have hmb:0 < m/\m<=21:=(by decide:∀ m∈([4,5,5,5,5,5,9,21]:List Int),0 < m/\m<=21) m hm
 refine (ixL (p:=l3) rfl rfl (SqL.of (o4 _ _ e3 n3b)) (hatm) (⟨ b,m,rfl,p4,by omega,by omega,fun r5 H5 p5 o5 r50 r51=>⟨_,rfl,by omega,by omega,?_⟩⟩))
 have o05:cY b H H5:=((o02.trans (.of s3)).trans o4).trans o5
 refine dj (lo:=0) (n:=r5.toNat) (fun i σ H6=>∃(v3 v4 v5:Option V)(x:Str),σ=[some (.ref b),some (.ref l),some (.str x),v3,v4,v5]/\bM b H6/\cY b H H6/\Asc (1+36 * i) x) ⟨_,_,_,x0,rfl,p5,o05,ax0⟩ ?_ ?_
 ·rintro i σ H6 hi ⟨v3,v4,v5,x,rfl,p6,o6,ax⟩
  have hi20:i < 21:=by omega
  have N6:=h9.old o6 nlb
  refine gN ⟨_,rfl,_,rfl,b,9,rfl,p6,by decide,by decide,fun r7 H7 p7 o7 r70 r71=>?_⟩
  have N7:=N6.old o7 nlb
  obtain⟨wd,hwd,hatw⟩:=jj (L:=cs) r70 (by rw [h9.n];exact r71)
  have aw:=h9.a wd hwd
  refine (ixL (p:=l) rfl rfl (SqL.of N7.e) (hatw) (?_))
  refine gN ⟨_,rfl,b,4,rfl,p7,by decide,by decide,fun r8 H8 p8 o8 r80 r81=>?_⟩
  have o08:=(o6.trans o7).trans o8
  refine gN ⟨_,rfl,rfl,_,rfl,cU (fun _=>⟨_,rfl,rfl,wd.cps.toList,congrArg V.str (oK wd),rfl,aw.c,by rw [wA];have:=aw.l;omega,gN ⟨_,rfl,rfl,_,rfl,cU (fun _=>?tt) (fun _=>?tf)⟩⟩) (fun _=>⟨_,rfl,rfl,_,rfl,cU (fun _=>?ft) (fun _=>?ff)⟩)⟩
  case' tt =>
   have ay:=aw.up
   refine⟨_,rfl,_,rfl,_,rfl,small (by have:=ay.l;omega),rfl,_,congrArg V.str (oK _),rfl,(ay.slice none (some 1)).c,by rw [wA];have:=(ay.slice none (some 1)).l;omega,_,rfl,_,rfl,_,rfl,small (by have:=ay.l;omega),_,_,rfl,rfl,small (by have:=(ay.slice none (some 1)).up.l;have:=(ay.slice (some 1) none).l;omega),?_⟩
   have az:=(ay.slice none (some 1)).up.app (ay.slice (some 1) none)
   refine gN ?_
  case' ft =>
   have ay:=aw
   refine⟨_,rfl,_,rfl,_,rfl,small (by have:=ay.l;omega),rfl,_,congrArg V.str (oK _),rfl,(ay.slice none (some 1)).c,by rw [wA];have:=(ay.slice none (some 1)).l;omega,_,rfl,_,rfl,_,rfl,small (by have:=ay.l;omega),_,_,rfl,rfl,small (by have:=(ay.slice none (some 1)).up.l;have:=(ay.slice (some 1) none).l;omega),?_⟩
   have az:=(ay.slice none (some 1)).up.app (ay.slice (some 1) none)
   refine gN ?_
  case' tf=>have az:=aw.up.mono (m:=34) (by omega)
  case' ff=>have az:=aw.mono (m:=34) (by omega)
  all_goals
   have lx:=ax.l
   have ly:=az.l
   have axy:=ax.app az
   refine⟨_,rfl,_,rfl,x,_,rfl,rfl,small (by omega),smn 8,fun l9 hl9=>?_⟩
   have n9b:l9≠b:=p8.ne hl9
   have s9:=aq hl9 (.lst (([" ",", ","-","\n",". "," ","_",""]:List Str).map V.str))
   have e9:(upd H8 l9 (.lst (([" ",", ","-","\n",". "," ","_",""]:List Str).map V.str))) l9=some (.lst (([" ",", ","-","\n",". "," ","_",""]:List Str).map V.str)):=ak
   refine⟨_,rfl,b,8,rfl,p8.same s9,by decide,by decide,fun ra Ha pa oa ra0 ra1=>?_⟩
   obtain⟨se,hse,hats⟩:=jj (L:=[" ",", ","-","\n",". "," ","_",""]) ra0 ra1
   have as:Asc 2 se:=(by
    have:∀ x∈([" ",", ","-","\n",". "," ","_",""]:List Str),x.length<=2/\∀ c∈x.cps.toList,c < 128:=by decide +kernel
    exact⟨(this se hse).1,(this se hse).2⟩)
   have l3:=axy.l
   have l4:=as.l
   refine (ixL (p:=l9) rfl rfl (SqL.of (oa _ _ e9 n9b)) (hats) (⟨ _,_,rfl,rfl,small (by omega),?_⟩))
   exact⟨_,_,_,_,rfl,pa,(o08.trans (.of s9)).trans oa,(axy.app as).mono (by omega)⟩
 ·rintro σ H6 ⟨v3,v4,v5,x,rfl,p6,o6,ax⟩
  exact⟨_,rfl,k x H6 p6 o6 (ax.mono (by omega))⟩
end
theorem PrT.keepT{H H':Hp}{us:List V}{ps:List (Str × Str)}(h:PrT H us ps)(e:∀(b:Addr)(vs:List V),H b=some (.tup vs)->H' b=some (.tup vs)):PrT H' us ps:=⟨h.1,fun i u p a b=>by
 obtain⟨q,e1,e2⟩:=h.2 i u p a b
 exact⟨q,e1,e _ _ e2⟩⟩
theorem PrT.snoc{H:Hp}{us:List V}{ps:List (Str × Str)}{t:Addr}{p:Str × Str}(h:PrT H us ps)(ht:H t=some (.tup [.str p.1,.str p.2])):PrT H (us++[.ref t]) (ps++[p]):=by
 refine⟨by rw [List.length_append,List.length_append,h.1];rfl,fun i u q hu hq=>?_⟩
 by_cases hi:i < us.length
 ·rw [List.getElem?_append_left hi] at hu
  rw [List.getElem?_append_left (by rw [← h.1];exact hi)] at hq
  exact h.2 i u q hu hq
 ·have hi2:i=us.length:=by
   have:=(List.getElem?_eq_some_iff.mp hu).1
   rw [List.length_append,List.length_singleton] at this
   omega
  subst hi2
  rw [List.getElem?_append_right (Nat.le_refl _),Nat.sub_self] at hu
  rw [h.1,List.getElem?_append_right (Nat.le_refl _),Nat.sub_self] at hq
  have e1:u=.ref t:=(Option.some.inj hu).symm
  have e2:q=p:=(Option.some.inj hq).symm
  subst e2
  exact⟨t,e1,ht⟩
theorem dh{H:Hp}{l:Addr}{us ws:List V}(e:H l=some (.lst us)):∀(b:Addr)(vs:List V),H b=some (.tup vs)->(upd H l (.lst ws)) b=some (.tup vs):=fun b vs z=>by
 rw [aL]
 ·exact z
 ·intro q
  rw [q,e] at z
  cases z
section
variable {P:Program}{w:World}{K:W.Frag}{mg:Str->Option Value}{base:Heap}
theorem G5:aQ ["_law_pot","_law_cores_here","_law_many"] ["_law_pot","_law_cores_here","_law_many"] (aB rz):=⟨rfl,rfl,rfl,by decide +kernel,rfl,by decide +kernel,by decide +kernel⟩
theorem Gn(h:Has K mg "_law_texts" rz ["_law_pot","_law_cores_here","_law_many"])(RT:Cal P w K mg base "_law_text" 2 ["_law_pot","_law_cores_here"] Fq)(Pb:mg "tuple" = none)(Pg:mg "range" = none):Cal P w K mg base "_law_texts" 3 ["_law_pot","_law_cores_here","_law_many"] z9:=by
 refine h.mk' G5 (fun vs H Q E hs=>?_) (fun f cdv A outer s H vs Q E hr hs=>?_)
 ·obtain⟨b,l,cs,m,rfl,_⟩:=hs
  rfl
 obtain⟨b,l,cs,m,rfl,hp,nlb,h9,hm,k⟩:=hs
 refine⟨_,(aC (aV (bV bJ rfl Pb boot_tuple (aj (bD ["_law_pot","_law_cores_here","_law_many"] (aB rz) ["_law_pot","_law_cores_here","_law_k"] [some 0,some 1,none] rfl rfl rfl (cC rfl Pg (aj (pv 2) ao)) rfl (by decide +kernel) (by decide +kernel) (by decide +kernel) (by decide +kernel) (hg:=fun cl C s H ex pn E=>(aD (i:=2) (by decide +kernel:(["_law_pot","_law_cores_here","_law_k"]:List Str).Nodup) rfl (Or.inl rfl))) (ht:=fun cl C s H ex pn E=>bC) (he:=fun cl C s H ex pn E=>(aG RT hr (by decide) rfl (aj (pv 0) (aj (pv 1) ao))))) ao)))),?_⟩
 refine⟨_,rfl,_,rfl,by omega,by omega,fun lc hlc=>?_⟩
 have ncb:lc≠b:=hp.ne hlc
 refine bL (J:=Itr 0 m) (l:=lc) m (fun i σ' H'=>∃(v:Option V)(xs:List Str),σ'=[some (.ref b),some (.ref l),v]/\bM b H'/\cY b H H'/\H' lc=some (.lst (xs.map V.str))/\xs.length=i/\∀ x∈xs,Asc 1000 x) ⟨none,[],rfl,hp.same (aq hlc _),.of (aq hlc _),ak,rfl,(fun x hx=>nomatch hx)⟩ ?_ ?_
 ·rintro σ' H1 ⟨v,xs,rfl,p1,o1,e1,hn,ha⟩
  exact⟨Nat.le_refl _,lc,_,rfl,.inl ⟨SqL.of e1,fun r hr=>k r xs _ (p1.same (aq hr _)) (o1.trans (.of (aq hr _))) ak hn ha⟩⟩
 ·rintro i σ' H1 hi ⟨v,xs,rfl,p1,o1,e1,hn,ha⟩
  refine⟨hi,?_⟩
  rintro x H2 ⟨rfl,rfl⟩
  refine gN (iM (eZ ⟨_,rfl,_,rfl,b,l,cs,rfl,p1,nlb,h9.old o1 nlb,fun y H3 p3 o3 ay=>?_⟩))
  refine⟨_,o3 _ _ e1 ncb,aK (by rw [List.length_map];omega),_,xs++[y],rfl,Em p3 ncb,fun c o z h=>?_,?_,by rw [List.length_append,hn];rfl,fun z hz=>?_⟩
  ·rw [aL (aF z hlc)]
   exact o3 _ _ (o1 c o z h) h
  ·rw [ak,List.map_append]
   rfl
  ·rcases List.mem_append.mp hz with hz | hz
   ·exact ha z hz
   ·rw [List.mem_singleton.mp hz]
    exact ay
theorem pq:aQ ["_law_pot","_law_lefts","_law_rights","_law_known_here","_law_k","_law_pair"] ["_law_pot","_law_lefts","_law_rights"] (aB uZ):=⟨rfl,rfl,rfl,by decide +kernel,rfl,by decide +kernel,by decide +kernel⟩
theorem GX(h:Has K mg "_law_known" uZ ["_law_pot","_law_lefts","_law_rights"])(Pj:Cal P w K mg base "_law_next" 1 ["_law_pot","_law_many"] iu)(Pg:mg "range" = none)(Pb:mg "tuple" = none):Cal P w K mg base "_law_known" 2 ["_law_pot","_law_lefts","_law_rights"] zf:=by
 refine h.mk' pq (fun vs H Q E hs=>?_) (fun f cdv A outer s H vs Q E hr hs=>?_)
 ·obtain⟨b,l1,l2,c1,c2,rfl,_⟩:=hs
  rfl
 obtain⟨b,l1,l2,c1,c2,rfl,hp,n1b,n2b,h1,h2,k⟩:=hs
 refine⟨_,(au (aR (i:=3) pq.nd rfl (Or.inl rfl) (cQ ao))
  (au (cG PassesOwn.never rfl (cC rfl Pg (aj (aG Pj hr (by decide) rfl (aj (pv 0) (aj (bx aX (cQ (aj aA (aj aA (aj aA ao)))) (aG Pj hr (by decide) rfl (aj (pv 0) (aj aA ao))) (fun _ _=>rfl)) ao))) ao)) (aD (i:=4) pq.nd rfl (Or.inl rfl))
   (au (aR (i:=5) pq.nd rfl (Or.inl rfl) (aM (aj (bx aX (pv 1) (aG Pj hr (by decide) rfl (aj (pv 0) (aj aA ao))) (fun _ _=>rfl)) (aj (bx aX (pv 2) (aG Pj hr (by decide) rfl (aj (pv 0) (aj aA ao))) (fun _ _=>rfl)) ao))))
  (aC (cD (aW (Al (vN hr)) (pv 5) (pv 3) (by with_unfolding_all rfl))
   (aC (cI (cZ PySem.F.plainAttrs_list PySem.F.slot_list_append PySem.F.type_list_append bN (pv 3) (aj (pv 5) ao))))
   bF))))
  (aC (aV (bV bJ rfl Pb boot_tuple (aj (pv 3) ao)))))),?_⟩
 refine⟨smn 0,fun lk hlk=>?_⟩
 have nkb:lk≠b:=hp.ne hlk
 have s0:=aq hlk (.lst [])
 have e0:(upd H lk (.lst [])) lk=some (.lst []):=ak
 have p0:=hp.same s0
 generalize upd H lk (.lst [])=H0 at s0 e0 p0
 refine gN ⟨_,rfl,smn 3,fun l3 hl3=>?_⟩
 have n3b:l3≠b:=p0.ne hl3
 have s3:=aq hl3 (.lst (([3,5,13]:List Int).map V.int))
 have e3:(upd H0 l3 (.lst (([3,5,13]:List Int).map V.int))) l3=some (.lst (([3,5,13]:List Int).map V.int)):=ak
 refine⟨_,rfl,b,3,rfl,p0.same s3,by decide,by decide,fun r4 H4 p4 o4 r40 r41=>?_⟩
 obtain⟨m,hm,hatm⟩:=oX (L:=[3,5,13]) r40 r41
 have hmb:0 < m/\m<=13:=(by decide:∀ m∈([3,5,13]:List Int),0 < m/\m<=13) m hm
 refine (ixL (p:=l3) rfl rfl (SqL.of (o4 _ _ e3 n3b)) (hatm) (⟨ b,m,rfl,p4,by omega,by omega,fun r5 H5 p5 o5 r50 r51=>⟨_,rfl,by omega,by omega,?_⟩⟩))
 have o05:cY b H H5:=(((cY.of s0).trans (.of s3)).trans o4).trans o5
 have e5:H5 lk=some (.lst []):=o5 _ _ (o4 _ _ (s3 _ _ e0) nkb) nkb
 refine dj (lo:=0) (n:=r5.toNat) (fun i σ H6=>∃(v4 v5:Option V)(us:List V)(ps:List (Str × Str)),σ=[some (.ref b),some (.ref l1),some (.ref l2),some (.ref lk),v4,v5]/\bM b H6/\cY b H H6/\H6 lk=some (.lst us)/\PrT H6 us ps/\us.length<=i) ⟨_,_,[],[],rfl,p5,o05,e5,⟨rfl,fun i u p h=>by simp at h⟩,Nat.le_refl _⟩ ?_ ?_
 ·rintro i σ H6 hi ⟨v4,v5,us,ps,rfl,p6,o6,e6,P6,hul⟩
  refine gN ⟨_,rfl,_,rfl,b,9,rfl,p6,by decide,by decide,fun r7 H7 p7 o7 r70 r71=>?_⟩
  obtain⟨x,hx,hatx⟩:=jj (L:=c1) r70 (by rw [h1.n];exact r71)
  have N1:=(h1.old o6 n1b).old o7 n1b
  refine (ixL (p:=l1) rfl rfl (SqL.of N1.e) (hatx) (⟨ _,rfl,_,rfl,b,9,rfl,p7,by decide,by decide,fun r8 H8 p8 o8 r80 r81=>?_⟩))
  obtain⟨y,hy,haty⟩:=jj (L:=c2) r80 (by rw [h2.n];exact r81)
  have N2:=((h2.old o6 n2b).old o7 n2b).old o8 n2b
  refine (ixL (p:=l2) rfl rfl (SqL.of N2.e) (haty) (⟨ smn 2,fun tp htp=>?_⟩))
  have s9:=aq htp (.tup [.str x,.str y])
  have e9:(upd H8 tp (.tup [.str x,.str y])) tp=some (.tup [.str x,.str y]):=ak
  have ek:=s9 _ _ (o8 _ _ (o7 _ _ e6 nkb) nkb)
  have P9:=((P6.keepT (o7.tup p6)).keepT (o8.tup p7)).same s9
  have p9:=p8.same s9
  have o9:cY b H _:=((o6.trans o7).trans o8).trans (.of s9)
  generalize upd H8 tp (.tup [.str x,.str y])=H9 at s9 e9 ek P9 p9 o9
  refine gN ⟨_,rfl,_,rfl,tp,lk,us,ps,(x,y),rfl,rfl,ek,e9,P9.1,P9.2,_,rfl,?_⟩
  refine cU (fun _=>?_) (fun _=>?_)
  ·refine⟨_,rfl,.inl ⟨rfl,_,SqL.of ek⟩,_,rfl,lk,_,_,rfl,rfl,ek,aK (by omega),?_⟩
   refine⟨_,_,us++[.ref tp],ps++[(x,y)],rfl,Em p9 nkb,fun c o z h=>?_,ak,(P9.keepT (dh ek)).snoc (dh ek _ _ e9),by rw [List.length_append,List.length_singleton];omega⟩
   rw [aL (aF z hlk)]
   exact o9 c o z h
  ·exact⟨_,_,us,ps,rfl,p9,o9,ek,P9,by omega⟩
 ·rintro σ H6 ⟨v4,v5,us,ps,rfl,p6,o6,e6,P6,hul⟩
  exact⟨_,rfl,lk,_,rfl,.inl ⟨SqL.of e6,fun r hr=>k r us ps _ (p6.same (aq hr _)) (o6.trans (.of (aq hr _))) ak (by omega) (P6.same (aq hr _))⟩⟩
theorem Dw:aQ ["_law_pot"] ["_law_pot"] (aB mF):=⟨rfl,rfl,rfl,by decide +kernel,rfl,by decide +kernel,by decide +kernel⟩
theorem Dn(h:Has K mg "_law_prices" mF ["_law_pot"])(Pj:Cal P w K mg base "_law_next" 1 ["_law_pot","_law_many"] iu)(Pb:mg "tuple" = none)(Pg:mg "range" = none):Cal P w K mg base "_law_prices" 2 ["_law_pot"] uJ:=by
 refine h.mk' Dw (fun vs H Q E hs=>?_) (fun f cdv A outer s H vs Q E hr hs=>?_)
 ·obtain⟨b,rfl,_⟩:=hs
  rfl
 obtain⟨b,rfl,hp,k⟩:=hs
 refine⟨_,(aC (aV (bV bJ rfl Pb boot_tuple (aj (bD ["_law_pot"] (aB mF) ["_law_pot","_law_k"] [some 0,none] rfl rfl rfl (cC rfl Pg (aj aA ao)) rfl (by decide +kernel) (by decide +kernel) (by decide +kernel) (by decide +kernel) (hg:=fun cl C s H ex pn E=>(aD (i:=1) (by decide +kernel:(["_law_pot","_law_k"]:List Str).Nodup) rfl (Or.inl rfl))) (ht:=fun cl C s H ex pn E=>bC) (he:=fun cl C s H ex pn E=>(aG Pj hr (by decide) rfl (aj (pv 0) (aj (bx (aX) (cQ (aj aA (aj aA (aj aA (aj aA (aj aA (aj aA ao))))))) (aG Pj hr (by decide) rfl (aj (pv 0) (aj aA ao))) (fun _ _=>rfl)) ao))))) ao)))),?_⟩
 refine⟨_,rfl,by omega,by omega,fun lc hlc=>?_⟩
 have ncb:lc≠b:=hp.ne hlc
 refine bL (J:=Itr 0 5) (l:=lc) 5 (fun i σ' H'=>∃(v:Option V)(ns:List Int),σ'=[some (.ref b),v]/\bM b H'/\cY b H H'/\H' lc=some (.lst (ns.map V.int))/\ns.length=i) ⟨none,[],rfl,hp.same (aq hlc _),.of (aq hlc _),ak,rfl⟩ ?_ ?_
 ·rintro σ' H1 ⟨v,ns,rfl,p1,o1,e1,hn⟩
  exact⟨Nat.le_refl _,lc,_,rfl,.inl ⟨SqL.of e1,fun r hr=>k r ns _ (p1.same (aq hr _)) (o1.trans (.of (aq hr _))) ak hn⟩⟩
 ·rintro i σ' H1 hi ⟨v,ns,rfl,p1,o1,e1,hn⟩
  refine⟨hi,?_⟩
  rintro x H2 ⟨rfl,rfl⟩
  refine gN (iM (eZ ⟨_,rfl,smn 6,fun l3 hl3=>?_⟩))
  have n3b:l3≠b:=p1.ne hl3
  have s3:=aq hl3 (.lst (([1,2,4,12,40,1000001]:List Int).map V.int))
  have e3:(upd H2 l3 (.lst (([1,2,4,12,40,1000001]:List Int).map V.int))) l3=some (.lst (([1,2,4,12,40,1000001]:List Int).map V.int)):=ak
  refine⟨_,rfl,b,6,rfl,p1.same s3,by decide,by decide,fun r4 H4 p4 o4 r40 r41=>?_⟩
  obtain⟨m,hm,hatm⟩:=oX (L:=[1,2,4,12,40,1000001]) r40 r41
  have hmb:0 < m/\m<=1000001:=(by decide:∀ m∈([1,2,4,12,40,1000001]:List Int),0 < m/\m<=1000001) m hm
  refine (ixL (p:=l3) rfl rfl (SqL.of (o4 _ _ e3 n3b)) (hatm) (⟨ b,m,rfl,p4,by omega,by omega,fun r5 H5 p5 o5 r50 r51=>?_⟩))
  refine⟨_,o5 _ _ (o4 _ _ (s3 _ _ e1) ncb) ncb,aK (by rw [List.length_map];omega),_,ns++[r5],rfl,Em p5 ncb,fun c o z h=>?_,?_,by rw [List.length_append,hn];rfl⟩
  ·rw [aL (aF z hlc)]
   exact o5 _ _ (o4 _ _ (s3 _ _ (o1 c o z h)) h) h
  ·rw [ak,List.map_append]
   rfl
end
open M01 in
theorem Aj:∀ d:Nat,d < 128->isW (lo1 d)=isW d/\(!(Builtin.Str.occurrences SG ⟨#[lo1 d]⟩ 0 (Str.length SG) 1).isEmpty)=isW d:=by decide +kernel
theorem zE:M01.isW 32=false/\(!(Builtin.Str.occurrences SG ⟨#[32]⟩ 0 (Str.length SG) 1).isEmpty)=false:=by decide +kernel
theorem Mv:∀ c:Nat,c < 128->(!(!(Builtin.Str.occurrences (" \n" : Str) ⟨#[c]⟩ 0 (Str.length (" \n" : Str)) 1).isEmpty))=!decide (c=32\/c=10):=by decide +kernel
noncomputable abbrev mkS(r:List Nat):Str:=⟨r.toArray⟩
theorem Dh(t:List Nat)(c:Nat):mkS t++(⟨#[c]⟩:Str)=mkS (t++[c]):=by
 show Str.mk (t.toArray ++ #[c])=_
 simp
theorem zJ{t:List Nat}:V.str (mkS t)=V.str ""↔t=[]:=by
 constructor
 ·intro h
  injection h with h
  have:(mkS t).cps=(Str.cps ""):=congrArg Str.cps h
  have e:(Str.cps "") = #[]:=by decide +kernel
  rw [e] at this
  simpa using this
 ·intro h
  subst h
  have:mkS []=("" : Str):=by decide +kernel
  rw [this]
open M01 in
theorem Hl{st:S}{c:Nat}(h:c < 128):stp (st.1.map (List.map lo1),st.2.map lo1) (lo1 c)=((stp st c).1.map (List.map lo1),(stp st c).2.map lo1):=by
 unfold stp
 rw [(Aj c h).1]
 by_cases hw:isW c=true
 ·rw [if_pos hw,if_pos hw]
  simp
 ·rw [if_neg hw,if_neg hw]
  by_cases he:st.2=[]
  ·rw [if_pos he,if_pos (by rw [he];rfl)]
  ·rw [if_neg he,if_neg (by simpa using he)]
   simp
open M01 in
theorem yZ:∀(t:List Nat)(st:S),(∀ c∈t,c < 128)->(t.map lo1).foldl stp (st.1.map (List.map lo1),st.2.map lo1)=((t.foldl stp st).1.map (List.map lo1),(t.foldl stp st).2.map lo1)
 | [],st,_=>rfl
 | c :: t,st,h=>by
  rw [List.map_cons,List.foldl_cons,List.foldl_cons,Hl (h c List.mem_cons_self)]
  exact yZ t (stp st c) fun d hd=>h d (List.mem_cons_of_mem _ hd)
open M01 in
theorem wK{x:Str}(h:∀ c∈x.cps.toList,c < 128):((scn (x.cps.toList.map lo1++[32])).1.map mkS)=bG [x]:=by
 have e:=yZ x.cps.toList ([],[]) h
 have e2:scn (x.cps.toList.map lo1)=((scn x.cps.toList).1.map (List.map lo1),(scn x.cps.toList).2.map lo1):=e
 rw [vf,e2]
 unfold bG
 rw [List.flatMap_singleton]
 unfold wds fn stp
 rw [if_neg (by rw [zE.1];decide)]
 generalize scn x.cps.toList=st
 by_cases he:st.2=[]
 ·rw [if_pos (show st.2.map lo1=[] by rw [he];rfl),if_pos he]
  rw [List.map_map]
  rfl
 ·rw [if_neg (show ¬ st.2.map lo1=[] by simpa using he),if_neg he]
  simp only [List.map_append,List.map_map,List.map_cons,List.map_nil]
  rfl
open M01 in
theorem xG:∀(t:List Nat)(st:S),(t.foldl stp st).1.length<=st.1.length+t.length/\(t.foldl stp st).2.length<=st.2.length+t.length
 | [],st=>⟨Nat.le_refl _,Nat.le_refl _⟩
 | c :: t,st=>by
  have ih:=xG t (stp st c)
  have h:(stp st c).1.length<=st.1.length+1/\(stp st c).2.length<=st.2.length+1:=by
   unfold stp
   split
   ·simp
   ·split
    ·exact⟨Nat.le_succ _,Nat.le_succ _⟩
    ·simp
  rw [List.foldl_cons,List.length_cons]
  omega
open M01 in
theorem Jl(t:List Nat):(scn t).1.length<=t.length/\(scn t).2.length<=t.length:=by
 obtain⟨h1,h2⟩:=xG t ([],[])
 simp only [List.length_nil,Nat.zero_add] at h1 h2
 exact⟨h1,h2⟩
structure tX(H:Hp)(k:Addr)(l:Addr)(xs:List Str):Prop where
 nk:l≠k
 ex:∃ us:List V,H l=some (.lst us)/\us.length=xs.length/\∀(i:Nat)(u:V)(x:Str),us[i]?=some u->xs[i]?=some x->∃ t lc:Addr,u=.ref t/\H t=some (.tup [.int (siz x),.ref lc])/\H lc=some (.lst ((bG [x]).map V.str))/\lc≠k
theorem tX.same{H H':Hp}{k l:Addr}{xs:List Str}(h:tX H k l xs)(s:Same H H'):tX H' k l xs:=by
 obtain⟨us,e,hl,f⟩:=h.ex
 refine⟨h.nk,us,s _ _ e,hl,fun i u x hu hx=>?_⟩
 obtain⟨t,lp,e1,e2,e3,e4⟩:=f i u x hu hx
 exact⟨t,lp,e1,s _ _ e2,s _ _ e3,e4⟩
theorem tX.upd{H:Hp}{k l:Addr}{xs:List Str}{ws vs:List V}(h:tX H k l xs)(hk:H k=some (.lst vs)):tX (L2.upd H k (.lst ws)) k l xs:=by
 obtain⟨us,e,hl,f⟩:=h.ex
 refine⟨h.nk,us,(aL h.nk).trans e,hl,fun i u x hu hx=>?_⟩
 obtain⟨t,lp,e1,e2,e3,e4⟩:=f i u x hu hx
 refine⟨t,lp,e1,(aL fun z=>?_).trans e2,(aL e4).trans e3,e4⟩
 rw [z,hk] at e2
 cases e2
noncomputable def uf:Sp:=fun vs H Q _=>∃ x:Str,vs=[.str x]/\Asc 1000 x/\∀(l:Addr)(H':Hp),H l=none->Same H H'->H' l=some (.lst ((bG [x]).map V.str))->Q (.ref l) H'
noncomputable def rY:Sp:=fun vs H Q _=>∃(q1 q2:Addr)(xs ys:List Str),vs=[.ref q1,.ref q2]/\H q1=some (.tup (xs.map V.str))/\H q2=some (.tup (ys.map V.str))/\xs.length<=7/\ys.length<=7/\(∀ x∈xs,Asc 1000 x)/\(∀ x∈ys,Asc 1000 x)/\∀(l a b:Addr)(H':Hp),Same H H'->H' l=some (.lst [.ref a,.ref b])->tX H' l a xs->tX H' l b ys->Q (.ref l) H'
section
open M01
variable {P:Program}{w:World}{K:W.Frag}{mg:Str->Option Value}{base:Heap}
theorem jZ:aQ ["_law_text_here","_law_cores_here","_law_core","_law_sign"] ["_law_text_here"] (aB uV):=⟨rfl,rfl,rfl,by decide +kernel,rfl,by decide +kernel,by decide +kernel⟩
theorem Du(h:Has K mg "_law_cores" uV ["_law_text_here"])  : Cal P w K mg base "_law_cores" 1 ["_law_text_here"] uf:=by
 refine h.mk' jZ (fun vs H Q E hs=>?_) (fun f cdv A outer s H vs Q E hr hs=>?_)
 ·obtain⟨x,rfl,_⟩:=hs
  rfl
 obtain⟨x,rfl,ax,k⟩:=hs
 refine⟨_,(au (aR (i:=1) jZ.nd rfl (Or.inl rfl) (cQ ao))
  (au (aR (i:=2) jZ.nd rfl (Or.inl rfl) cB)
  (au (cG PassesOwn.never rfl (zj (aP fj (pJ PySem.F.plainAttrs_str PySem.F.slot_str_lower PySem.F.type_str_lower vp (pv 0)) cB)) (aD (i:=3) jZ.nd rfl (Or.inl rfl))
   (aC (cD (aW Bf (pv 3) cB (by with_unfolding_all rfl))
   (aC (aR (i:=2) jZ.nd rfl (Or.inl rfl) (aP fj (pv 2) (pv 3))))
   (aC (cD (aW yK (pv 2) cB (bB _))
   (au (cI (cZ PySem.F.plainAttrs_list PySem.F.slot_list_append PySem.F.type_list_append bN (pv 1) (aj (pv 2) ao)))
  (aC (aR (i:=2) jZ.nd rfl (Or.inl rfl) cB)))
   bF)))))
  (aC (aV (pv 1)))))),?_⟩
 refine⟨smn 0,fun l hl=>?_⟩
 have lx:=ax.l
 have exl:=wA x
 have e32:Str.cps " " = #[32]:=by decide +kernel
 have ey:(mkS (x.cps.toList.map lo1)++(" " : Str)).cps.toList=x.cps.toList.map lo1++[32]:=by
  show ((x.cps.toList.map lo1).toArray++Str.cps " ").toList=_
  rw [e32]
  simp
 have e0:("" : Str)=mkS []:=by decide +kernel
 have hcw:=wK ax.c
 have hlen:(x.cps.toList.map lo1++[32]).length<=1001:=by
  rw [List.length_append,List.length_map,exl,List.length_singleton]
  omega
 have hoc:∀ c∈x.cps.toList.map lo1++[32],(!(Builtin.Str.occurrences SG ⟨#[c]⟩ 0 (Str.length SG) 1).isEmpty)=isW c:=fun c hc=>by
  rcases List.mem_append.mp hc with hc | hc
  ·obtain⟨d,hd,rfl⟩:=List.mem_map.mp hc
   have:=Aj d (ax.c d hd)
   rw [this.2,this.1]
  ·rw [List.mem_singleton.mp hc,zE.2,zE.1]
 generalize x.cps.toList.map lo1++[32]=tl at ey hcw hlen hoc
 have hysz:(mkS (x.cps.toList.map lo1)++(" " : Str)).cps.size=tl.length:=by rw [← ey,Array.length_toList]
 refine gN (gN ⟨_,rfl,rfl,x.cps.toList,congrArg V.str (oK x),rfl,ax.c,by omega,_,_,rfl,rfl,Nat.le_trans (m:=1000000) ?_ cu,_,rfl,?_⟩)
 ·show ((x.cps.toList.map lo1).toArray).size+(Str.cps " ").size<=1000000
  rw [e32,List.size_toArray,List.length_map,exl]
  show x.length+1<=_
  omega
 refine Ge (x:=mkS (x.cps.toList.map lo1)++(" " : Str)) (fun i σ H2=>∃ v3:Option V,σ=[some (.str x),some (.ref l),some (.str (mkS (scn (tl.take i)).2)),v3]/\Same H H2/\H2 l=some (.lst (((scn (tl.take i)).1.map mkS).map V.str))) ⟨none,congrArg (fun z=>[some (V.str x),some (V.ref l),some (V.str z),none]) e0,aq hl _,ak⟩ ?_ ?_
 ·rintro i c σ H2 hc ⟨v3,rfl,s2,e2⟩
  have hc':tl[i]?=some c:=by rw [← ey];simpa using hc
  have hsn:scn (tl.take (i+1))=stp (scn (tl.take i)) c:=by rw [take_one hc',vf]
  have hb:=Jl (tl.take i)
  rw [List.length_take] at hb
  have hi:=(List.getElem?_eq_some_iff.mp hc').1
  refine gN ⟨_,rfl,_,_,rfl,rfl,_,rfl,?_⟩
  rw [hoc c (List.mem_of_getElem? hc')]
  rw [hsn]
  generalize scn (tl.take i)=st at e2 hb
  unfold stp
  refine cU (fun hw=>?_) (fun hw=>?_)
  ·rw [if_pos hw]
   refine⟨_,rfl,_,rfl,_,_,rfl,rfl,Nat.le_trans (show (mkS st.2).length+1<=1000000 by show st.2.toArray.size+1<=_;rw [List.size_toArray];omega) cu,?_⟩
   exact⟨_,congrArg (fun z=>[some (V.str x),some (V.ref l),some (V.str z),some (V.str ⟨#[c]⟩)]) (Dh st.2 c),s2,e2⟩
  ·rw [if_neg hw]
   refine⟨_,rfl,rfl,_,rfl,?_⟩
   by_cases he:st.2=[]
   ·rw [decide_eq_true (zJ.mpr he)]
    refine oZ ⟨some (.str ⟨#[c]⟩),?_,s2,?_⟩
    ·rw [if_pos he]
     rfl
    ·rw [if_pos he]
     exact e2
   ·rw [decide_eq_false (fun z=>he (zJ.mp z)),if_neg he]
    refine eZ ⟨_,rfl,.inl ⟨rfl,_,SqL.of e2⟩,_,rfl,l,_,_,rfl,rfl,e2,Nat.lt_of_lt_of_le (show _ < 1000000 by rw [List.length_map,List.length_map];omega) cu,?_⟩
    refine⟨_,congrArg (fun z=>[some (V.str x),some (V.ref l),some (V.str z),some (V.str ⟨#[c]⟩)]) e0,aU s2 hl,?_⟩
    rw [ak]
    simp
 ·rintro σ H2 ⟨v3,rfl,s2,e2⟩
  rw [hysz,List.take_length,hcw] at e2
  exact⟨_,rfl,k l H2 hl s2 e2⟩
end
section
open M01
variable {P:Program}{w:World}{K:W.Frag}{mg:Str->Option Value}{base:Heap}
theorem sJ:aQ ["_law_ones","_law_others","_law_sides_here","_law_row"] ["_law_ones","_law_others"] (aB qx):=⟨rfl,rfl,rfl,by decide +kernel,rfl,by decide +kernel,by decide +kernel⟩
theorem HX(h:Has K mg "_law_sides" qx ["_law_ones","_law_others"])(Rc:Cal P w K mg base "_law_cores" 1 ["_law_text_here"] uf)(Ph:mg "len" = none):Cal P w K mg base "_law_sides" 2 ["_law_ones","_law_others"] rY:=by
 refine h.mk' sJ (fun vs H Q E hs=>?_) (fun f cdv A outer s H vs Q E hr hs=>?_)
 ·obtain⟨q1,q2,xs,ys,rfl,_⟩:=hs
  rfl
 obtain⟨q1,q2,xs,ys,rfl,hq1,hq2,hx,hy,ax,ay,k⟩:=hs
 refine⟨_,(au (aR (i:=2) sJ.nd rfl (Or.inl rfl) (cQ ao))
  (au (cG PassesOwn.never rfl (bQ (aM (aj (pv 0) (aj (pv 1) ao)))) (aD (i:=3) sJ.nd rfl (Or.inl rfl))
   (aC (cI (cZ PySem.F.plainAttrs_list PySem.F.slot_list_append PySem.F.type_list_append bN (pv 2) (aj (bD ["_law_ones","_law_others","_law_sides_here","_law_row"] (aB qx) ["_law_text_here"] [none] rfl rfl rfl (bQ (pv 3)) rfl (by decide +kernel) (by decide +kernel) (by decide +kernel) (by decide +kernel) (hg:=fun cl C s H ex pn E=>(aD (i:=0) (by decide +kernel:(["_law_text_here"]:List Str).Nodup) rfl (Or.inl rfl))) (ht:=fun cl C s H ex pn E=>bC) (he:=fun cl C s H ex pn E=>(aM (aj (aJ (dH (K:=K) rfl) rfl Ph PySem.boot_len (aj (bD ["_law_text_here"] _ ["_law_sign"] [none] rfl rfl rfl (zj (pv 0)) rfl (by decide +kernel) (by decide +kernel) (Ka (by decide +kernel)) (by decide +kernel) (hg:=fun cl C s H ex pn E=>(aD (i:=0) (by decide +kernel:(["_law_sign"]:List Str).Nodup) rfl (Or.inl rfl))) (ht:=fun cl C s H ex pn E=>(jG (aW pR (pv 0) cB (by with_unfolding_all rfl)))) (he:=fun cl C s H ex pn E=>(pv 0))) ao)) (aj (aG Rc hr (by decide) rfl (aj (pv 0) ao)) ao))))) ao)))))
  (aC (aV (pv 2))))),?_⟩
 refine⟨smn 0,fun ls hls=>?_⟩
 refine gN ⟨_,rfl,_,rfl,smn 2,fun tp htp=>?_⟩
 have s0:=(aq hls (.lst [])).trans (aq htp (.tup [.ref q1,.ref q2]))
 have e0:(upd (upd H ls (.lst [])) tp (.tup [.ref q1,.ref q2])) ls=some (.lst []):=aq htp _ _ _ ak
 have et:(upd (upd H ls (.lst [])) tp (.tup [.ref q1,.ref q2])) tp=some (.tup [.ref q1,.ref q2]):=ak
 generalize upd (upd H ls (.lst [])) tp (.tup [.ref q1,.ref q2])=H0 at s0 e0 et
 refine⟨tp,rfl,⟨_,SqT.of et⟩,?_⟩
 refine gR (K:=K0) (a:=tp) (xs:=[.ref q1,.ref q2]) (fun i σ H1=>∃(v3:Option V)(as:List Addr),σ=[some (.ref q1),some (.ref q2),some (.ref ls),v3]/\Same H H1/\H1 tp=some (.tup [.ref q1,.ref q2])/\H1 ls=some (.lst (as.map V.ref))/\as.length=i/\∀(j:Nat)(a:Addr)(zs:List Str),as[j]?=some a->[xs,ys][j]?=some zs->tX H1 ls a zs) ⟨_,[],rfl,s0,et,e0,rfl,fun j a zs h=>by simp at h⟩ ?_ ?_ ?_
 ·rintro i σ H1 _ ⟨_,_,_,_,ee,_⟩
  exact SqT.of ee
 ·rintro i y σ H1 hi ⟨v3,as,rfl,s1,et1,e1,hn,hsd⟩
  have hrow:∃(q:Addr)(zs:List Str),y=.ref q/\[xs,ys][i]?=some zs/\H q=some (.tup (zs.map V.str))/\zs.length<=7/\(∀ x∈zs,Asc 1000 x):=by
   match i,hi with
   | 0,hi=>exact⟨q1,xs,(Option.some.inj hi).symm,rfl,hq1,hx,ax⟩
   | 1,hi=>exact⟨q2,ys,(Option.some.inj hi).symm,rfl,hq2,hy,ay⟩
  have hi2:i < 2:=(List.getElem?_eq_some_iff.mp hi).1
  obtain⟨q,zs,rfl,hz,hq,hzl,az⟩:=hrow
  have hq':=s1 _ _ hq
  refine gN ⟨_,rfl,.inl ⟨rfl,_,SqL.of e1⟩,_,rfl,q,rfl,⟨_,SqT.of hq'⟩,fun lr hlr=>?_⟩
  have nrl:lr≠ls:=(aF e1 hlr).symm
  refine bL (J:=Itt K0 q) (l:=lr) zs.length (fun i σ' H'=>∃(v:Option V)(ms:List V),σ'=[v]/\Same H1 H'/\H' lr=some (.lst ms)/\ms.length=i/\∀(j:Nat)(u:V)(x:Str),ms[j]?=some u->zs[j]?=some x->∃ t lc:Addr,u=.ref t/\H' t=some (.tup [.int (siz x),.ref lc])/\H' lc=some (.lst ((bG [x]).map V.str))/\lc≠lr/\lc≠ls) ⟨none,[],rfl,aq hlr _,ak,rfl,fun j u x h=>by simp at h⟩ ?_ ?_
  ·rintro σ' H2 ⟨v,ms,rfl,s2,e2,hm,hu⟩
   refine⟨⟨_,SqT.of (s2 _ _ hq'),by rw [List.length_map];exact Nat.le_refl _⟩,?_⟩
   have el:=s2 _ _ e1
   have new:tX H2 ls lr zs:=⟨nrl,ms,e2,hm,fun j u x h1 h2=>by
    obtain⟨t,lc,a,b,c,d,e⟩:=hu j u x h1 h2
    exact⟨t,lc,a,b,c,e⟩⟩
   refine⟨ls,_,_,rfl,rfl,el,aK (by rw [List.length_map];omega),_,as++[lr],rfl,?_,?_,?_,by rw [List.length_append,hn];rfl,fun j a zs' h1 h2=>?_⟩
   ·intro c o z
    rw [aL (aF z hls)]
    exact s2 _ _ (s1 _ _ z)
   ·exact dh el _ _ (s2 _ _ et1)
   ·rw [ak,List.map_append]
    rfl
   ·by_cases hj:j < as.length
    ·rw [List.getElem?_append_left hj] at h1
     exact ((hsd j a zs' h1 h2).same s2).upd el
    ·have hj2:j=as.length:=by
      have:=(List.getElem?_eq_some_iff.mp h1).1
      rw [List.length_append,List.length_singleton] at this
      omega
     subst hj2
     rw [List.getElem?_append_right (Nat.le_refl _),Nat.sub_self] at h1
     have ea:a=lr:=(Option.some.inj h1).symm
     rw [hn,hz] at h2
     have ez:zs'=zs:=(Option.some.inj h2).symm
     subst ea
     subst ez
     exact new.upd el
  ·rintro j σ' H2 hj ⟨v,ms,rfl,s2,e2,hm,hu⟩
   have hat:=Fw hj
   refine⟨⟨_,_,SqT.of (s2 _ _ hq'),hat⟩,?_⟩
   rintro y H3 ⟨rfl,hy⟩
   have ey:y=.str zs[j]:=Option.some.inj ((hy _ (SqT.of (s2 _ _ hq'))).symm.trans hat)
   subst ey
   have axj:=az zs[j] (List.getElem_mem hj)
   have hzj:=aZ hj
   generalize zs[j]=x at axj hzj
   have exl:=wA x
   have lx:=axj.l
   refine gN (iM (eZ ⟨_,rfl,x,rfl,fun l5 hl5=>?_⟩))
   refine bL (J:=Its x) (l:=l5) x.cps.size (fun i σ' H'=>∃(v:Option V)(ws:List V),σ'=[v]/\Same H3 H'/\H' l5=some (.lst ws)/\ws.length<=i/\((ws.length:Nat):Int)=sz (x.cps.toList.take i)) ⟨none,[],rfl,aq hl5 _,ak,Nat.le_refl _,rfl⟩ ?_ ?_
   ·rintro σ' H5 ⟨v,ws,rfl,s5,e5,hw5,hws⟩
    have ews:((ws.length:Nat):Int)=siz x:=by
     rw [hws,show x.cps.size=x.cps.toList.length by rw [Array.length_toList],List.take_length]
     rfl
    refine⟨Nat.le_refl _,l5,_,rfl,.inl (SqL.of e5),?_⟩
    rw [ews]
    refine⟨_,rfl,x,rfl,axj,fun lc H6 hfree s6 e6=>⟨smn 2,fun t ht=>?_⟩⟩
    have s7:=aq ht (.tup [.int (siz x),.ref lc])
    have e7:(upd H6 t (.tup [.int (siz x),.ref lc])) t=some (.tup [.int (siz x),.ref lc]):=ak
    have s37:=(s5.trans s6).trans s7
    have elc:=s7 _ _ e6
    have er:=s37 _ _ e2
    have nlr:lc≠lr:=(aF (s5 _ _ e2) hfree).symm
    have nls:lc≠ls:=(aF (s5 _ _ (s2 _ _ e1)) hfree).symm
    generalize upd H6 t (.tup [.int (siz x),.ref lc])=H7 at s7 e7 s37 elc er
    refine⟨ms,er,aK (by omega),_,ms++[.ref t],rfl,aU (s2.trans s37) hlr,ak,by rw [List.length_append,hm];rfl,fun j' u x' h1 h2=>?_⟩
    have keep:∀(c:Addr)(o:HO),H7 c=some o->c≠lr->(upd H7 lr (.lst (ms++[V.ref t]))) c=some o:=fun c o z h=>by rw [aL h];exact z
    by_cases hj':j' < ms.length
    ·rw [List.getElem?_append_left hj'] at h1
     obtain⟨t',lc',a,b,c,d,e⟩:=hu j' u x' h1 h2
     refine⟨t',lc',a,keep _ _ (s37 _ _ b) (fun z=>?_),keep _ _ (s37 _ _ c) d,d,e⟩
     rw [z,e2] at b
     cases b
    ·have hj2:j'=ms.length:=by
      have:=(List.getElem?_eq_some_iff.mp h1).1
      rw [List.length_append,List.length_singleton] at this
      omega
     subst hj2
     rw [List.getElem?_append_right (Nat.le_refl _),Nat.sub_self] at h1
     have eu:u=.ref t:=(Option.some.inj h1).symm
     rw [hm,hzj] at h2
     have exx:x'=x:=(Option.some.inj h2).symm
     subst exx
     refine⟨t,lc,eu,keep _ _ e7 (fun z=>?_),keep _ _ elc nlr,nlr,nls⟩
     rw [z,er] at e7
     cases e7
   ·rintro i' σ' H5 hi' ⟨v,ws,rfl,s5,e5,hw5,hws⟩
    refine⟨hi',?_⟩
    rintro y H6 ⟨rfl,c,hc,rfl⟩
    have hc':x.cps.toList[i']?=some c:=by simpa using hc
    have hi3:=(List.getElem?_eq_some_iff.mp hc').1
    have htk:x.cps.toList.take (i' + 1)=x.cps.toList.take i'++[c]:=take_one hc'
    have hsn:=yU (x.cps.toList.take i') c
    refine gN ⟨_,rfl,_,_,rfl,rfl,_,rfl,?_⟩
    rw [Mv c (axj.c c (List.mem_of_getElem? hc')),htk,hsn]
    by_cases h32:c=32\/c=10
    ·rw [decide_eq_true h32,if_pos h32,Int.add_zero]
     exact oZ ⟨_,ws,rfl,s5,e5,by omega,hws⟩
    ·rw [decide_eq_false h32,if_neg h32]
     refine eZ ⟨_,rfl,ws,e5,Nat.lt_of_lt_of_le (show _ < 1000000 by omega) cu,_,ws++[_],rfl,aU s5 hl5,ak,by rw [List.length_append,List.length_singleton];omega,?_⟩
     rw [List.length_append,List.length_singleton]
     omega
 ·rintro σ H1 ⟨v3,as,rfl,s1,et1,e1,hn,hsd⟩
  match as,hn with
  | [a,b],_=>exact⟨_,rfl,k ls a b H1 s1 e1 (hsd 0 a xs rfl rfl) (hsd 1 b ys rfl rfl)⟩
end
noncomputable def SdE(H:Hp)(us:List V)(xs:List Str):Prop:=us.length=xs.length/\∀(i:Nat)(u:V)(x:Str),us[i]?=some u->xs[i]?=some x->∃ t lc:Addr,u=.ref t/\H t=some (.tup [.int (siz x),.ref lc])/\H lc=some (.lst ((bG [x]).map V.str))
theorem SdE.same{H H':Hp}{us:List V}{xs:List Str}(h:SdE H us xs)(s:Same H H'):SdE H' us xs:=⟨h.1,fun i u x a b=>by
 obtain⟨t,lc,e1,e2,e3⟩:=h.2 i u x a b
 exact⟨t,lc,e1,s _ _ e2,s _ _ e3⟩⟩
theorem rA{c:Str}{xs:List Str}:(xs.map fun x=>decide (c∈bG [x])).any id=decide (c∈bG xs):=by
 rw [Bool.eq_iff_iff,List.any_map,List.any_eq_true,decide_eq_true_eq,mj]
 simp
theorem uR{K:PySem.W.Frag}{l lb:Addr}{c:Str}{us:List V}{xs:List Str}{H:Hp}{R:Hp->Prop}(e:H l=some (.lst us))(hE:SdE H us xs)(hx:xs.length<=3)(hlb:H lb=none)
  (hfin:∀ H',Same H H'->H' lb=some (.lst ((xs.map fun x=>decide (c∈bG [x])).map V.bl))->R H') :
  ∃ W:Nat->Nat->L2.St->Hp->Prop,(∃ m,W 0 m [some (.str c),none,none] (upd H lb (.lst [])))/\∀ i m σ H,W i m σ H ->
   ((Itl K l).stop i H/\R H)\/((Itl K l).go i H/\∃ N:L2.St->Hp->Prop,(∀ σ' H',N σ' H'->∃ m',m' < m/\W (i+1) m' σ' H') /\
    ∀ x H',(Itl K l).yld i H x H'->rT K 2 (dG (cP 1) (dG (cP 2) tG)) x σ H' fun σ2 H2=>Ij σ2 H2 fun b H3=>if b=true then tOp (rIn K false) (vM 0) (vM 2) σ2 H3 fun v H4=>∃ ys,H4 lb=some (.lst ys)/\ys.length < sizeLine/\N σ2 (upd H4 lb (.lst (ys++[v]))) else N σ2 H3):=by
 refine bL (J:=Itl K l) (l:=lb) us.length (fun i σ' H'=>∃ v1 v2:Option V,σ'=[some (.str c),v1,v2]/\Same H H'/\H' lb=some (.lst (((xs.take i).map fun x=>decide (c∈bG [x])).map V.bl))) ⟨none,none,rfl,aq hlb _,ak⟩ ?_ ?_
 ·rintro σ' H1 ⟨v1,v2,rfl,s1,e1⟩
  rw [hE.1,List.take_length] at e1
  exact⟨⟨_,SqL.of (s1 _ _ e),Nat.le_refl _⟩,hfin H1 s1 e1⟩
 ·rintro i σ' H1 hi ⟨v1,v2,rfl,s1,e1⟩
  have hix:i < xs.length:=by have:=hE.1;omega
  refine⟨⟨_,_,SqL.of (s1 _ _ e),aZ hi⟩,?_⟩
  rintro y H2 ⟨rfl,hy⟩
  have ey:y=us[i]:=Option.some.inj ((hy _ (SqL.of (s1 _ _ e))).symm.trans (aZ hi))
  obtain⟨t,lc,eu,ht,hlc⟩:=hE.2 i us[i] xs[i] (aZ hi) (aZ hix)
  rw [eu] at ey
  subst ey
  refine⟨t,_,rfl,SqT.of (s1 _ _ ht),rfl,_,_,rfl,_,_,rfl,rfl,iM (eZ ?_)⟩
  refine⟨_,rfl,_,rfl,lc,_,rfl,.inl (SqL.of (s1 _ _ hlc)),rfl,qJ _,_,e1,aK (by rw [List.length_map,List.length_map,List.length_take];omega),_,_,rfl,aU s1 hlb,?_⟩
  rw [ak,take_one (aZ hix),List.map_append,List.map_append]
  rw [show (if false=true then !inV (V.str c) ((bG [xs[i]]).map V.str) else inV (V.str c) ((bG [xs[i]]).map V.str))=inV (V.str c) ((bG [xs[i]]).map V.str) from rfl,tH]
  rfl
theorem vm{K:PySem.W.Frag}{l lb:Addr}{us:List V}{xs:List Str}{H:Hp}{R:Hp->Prop}(e:H l=some (.lst us))(hE:SdE H us xs)(hx:xs.length<=3)(hlb:H lb=none)
  (hfin:∀ H',Same H H'->H' lb=some (.lst ((xs.map siz).map V.int))->R H') :
  ∃ W:Nat->Nat->L2.St->Hp->Prop,(∃ m,W 0 m [none,none] (upd H lb (.lst [])))/\∀ i m σ H,W i m σ H ->
   ((Itl K l).stop i H/\R H)\/((Itl K l).go i H/\∃ N:L2.St->Hp->Prop,(∀ σ' H',N σ' H'->∃ m',m' < m/\W (i+1) m' σ' H') /\
    ∀ x H',(Itl K l).yld i H x H'->rT K 2 (dG (cP 0) (dG (cP 1) tG)) x σ H' fun σ2 H2=>Ij σ2 H2 fun b H3=>if b=true then vM 0 σ2 H3 fun v H4=>∃ ys,H4 lb=some (.lst ys)/\ys.length < sizeLine/\N σ2 (upd H4 lb (.lst (ys++[v]))) else N σ2 H3):=by
 refine bL (J:=Itl K l) (l:=lb) us.length (fun i σ' H'=>∃ v1 v2:Option V,σ'=[v1,v2]/\Same H H'/\H' lb=some (.lst (((xs.take i).map siz).map V.int))) ⟨none,none,rfl,aq hlb _,ak⟩ ?_ ?_
 ·rintro σ' H1 ⟨v1,v2,rfl,s1,e1⟩
  rw [hE.1,List.take_length] at e1
  exact⟨⟨_,SqL.of (s1 _ _ e),Nat.le_refl _⟩,hfin H1 s1 e1⟩
 ·rintro i σ' H1 hi ⟨v1,v2,rfl,s1,e1⟩
  have hix:i < xs.length:=by have:=hE.1;omega
  refine⟨⟨_,_,SqL.of (s1 _ _ e),aZ hi⟩,?_⟩
  rintro y H2 ⟨rfl,hy⟩
  have ey:y=us[i]:=Option.some.inj ((hy _ (SqL.of (s1 _ _ e))).symm.trans (aZ hi))
  obtain⟨t,lc,eu,ht,hlc⟩:=hE.2 i us[i] xs[i] (aZ hi) (aZ hix)
  rw [eu] at ey
  subst ey
  refine⟨t,_,rfl,SqT.of (s1 _ _ ht),rfl,_,_,rfl,_,_,rfl,rfl,iM (eZ ?_)⟩
  refine⟨_,rfl,_,e1,aK (by rw [List.length_map,List.length_map,List.length_take];omega),_,_,rfl,aU s1 hlb,?_⟩
  rw [ak,take_one (aZ hix),List.map_append,List.map_append]
  rfl
theorem SdE.pick{H:Hp}{us:List V}{xs:List Str}{is:List Nat}(h:SdE H us xs)(hi:∀ k∈is,k < xs.length):SdE H (is.map fun k=>us.getD k .non) (Mine.pick xs is):=by
 have hl:=h.1
 refine⟨by unfold Mine.pick;rw [List.length_map,List.length_map],fun i u x hu hx=>?_⟩
 unfold Mine.pick at hx
 rw [List.getElem?_map] at hu hx
 cases hq:is[i]? with
 | none=>rw [hq] at hu;cases hu
 | some k =>
  rw [hq] at hu hx
  have hkx:=hi k (List.mem_of_getElem? hq)
  have eu:us.getD k .non=u:=Option.some.inj hu
  have ex:xs.getD k Str.empty=x:=Option.some.inj hx
  refine h.2 k u x ?_ ?_
  ·rw [← eu,List.getD_eq_getElem?_getD,List.getElem?_eq_getElem (by omega)]
   rfl
  ·rw [← ex,List.getD_eq_getElem?_getD,List.getElem?_eq_getElem hkx]
   rfl
theorem uU{K:PySem.W.Frag}{l a q lb:Addr}{us vs:List V}{is:List Nat}{n:Int}{H:Hp}{R:Hp->Prop}(el:H l=some (.lst vs))(hat:atI vs n=some (.ref a))(ea:H a=some (.lst us))(eq:H q=some (.tup (is.map fun k=>V.int (k:Nat))))(hi:∀ k∈is,k < us.length)(hx:is.length<=3)(hlb:H lb=none)
  (hfin:∀ H',Same H H'->H' lb=some (.lst (is.map fun k=>us.getD k .non))->R H') :
  ∃ W:Nat->Nat->L2.St->Hp->Prop,(∃ m,W 0 m [some (.ref l),none] (upd H lb (.lst [])))/\∀ i m σ H,W i m σ H ->
   ((Itt K q).stop i H/\R H)\/((Itt K q).go i H/\∃ N:L2.St->Hp->Prop,(∀ σ' H',N σ' H'->∃ m',m' < m/\W (i+1) m' σ' H') /\
    ∀ x H',(Itt K q).yld i H x H'->cP 1 x σ H' fun σ2 H2=>Ij σ2 H2 fun b H3=>if b=true then tOp (Kg K) (tOp (Kg K) (vM 0) (tC (.int n))) (vM 1) σ2 H3 fun v H4=>∃ ys,H4 lb=some (.lst ys)/\ys.length < sizeLine/\N σ2 (upd H4 lb (.lst (ys++[v]))) else N σ2 H3):=by
 refine bL (J:=Itt K q) (l:=lb) is.length (fun i σ' H'=>∃ v1:Option V,σ'=[some (.ref l),v1]/\Same H H'/\H' lb=some (.lst ((is.take i).map fun k=>us.getD k .non))) ⟨none,rfl,aq hlb _,ak⟩ ?_ ?_
 ·rintro σ' H1 ⟨v1,rfl,s1,e1⟩
  rw [List.take_length] at e1
  exact⟨⟨_,SqT.of (s1 _ _ eq),by rw [List.length_map];exact Nat.le_refl _⟩,hfin H1 s1 e1⟩
 ·rintro i σ' H1 hii ⟨v1,rfl,s1,e1⟩
  have hr:(is.map fun k=>V.int (k:Nat))[i]?=some (.int (is[i]:Nat)):=by rw [List.getElem?_map,List.getElem?_eq_getElem hii];rfl
  refine⟨⟨_,_,SqT.of (s1 _ _ eq),hr⟩,?_⟩
  rintro y H2 ⟨rfl,hy⟩
  have ey:y=.int (is[i]:Nat):=Option.some.inj ((hy _ (SqT.of (s1 _ _ eq))).symm.trans hr)
  subst ey
  have hik:=hi _ (List.getElem_mem hii)
  have hu:us[is[i]]?=some (us.getD is[i] .non):=by rw [List.getD_eq_getElem?_getD,List.getElem?_eq_getElem hik];rfl
  refine gN (iM (eZ ⟨_,rfl,l,_,_,_,rfl,rfl,SqL.of (s1 _ _ el),hat,_,rfl,a,_,_,_,rfl,rfl,SqL.of (s1 _ _ ea),aO hu,_,e1,aK (by rw [List.length_map,List.length_take];omega),_,rfl,aU s1 hlb,?_⟩))
  rw [ak,take_one (aZ hii),List.map_append]
  rfl
structure gk(H:Hp)(l a b qw qp:Addr)(xs ys:List Str)(us:List V)(ps:List (Str × Str))(ns:List Int):Prop where
 el:H l=some (.lst [.ref a,.ref b])
 sa:tX H l a xs
 sb:tX H l b ys
 tx:∀ x∈xs,x.length<=1000
 ty:∀ x∈ys,x.length<=1000
 qw:H qw=some (.tup us)
 ul:us.length<=1000
 P:PrT H us ps
 qp:H qp=some (.tup (ns.map V.int))
 n5:ns.length=5
theorem gk.same{H H':Hp}{l a b qw qp:Addr}{xs ys:List Str}{us:List V}{ps:List (Str × Str)}{ns:List Int}(h:gk H l a b qw qp xs ys us ps ns)(s:Same H H'):gk H' l a b qw qp xs ys us ps ns:=⟨s _ _ h.el,h.sa.same s,h.sb.same s,h.tx,h.ty,s _ _ h.qw,h.ul,h.P.same s,s _ _ h.qp,h.n5⟩
noncomputable def FP:Sp:=fun vs H Q _=>∃(l a b qw qp:Addr)(v:V)(q:Lk)(xs ys:List Str)(us:List V)(ps:List (Str × Str))(ns:List Int),vs=[.ref l,v,.ref qw,.ref qp]/\gk H l a b qw qp xs ys us ps ns/\Den H v (lkD q)/\wW xs.length ys.length q/\∀ H',Same H H'->Q (.int (iK ns xs ys ps q)) H'
section
open M01
variable {P:Program}{w:World}{K:W.Frag}{mg:Str->Option Value}{base:Heap}
theorem ji:aQ ["_law_sides_here","_law_link_here","_law_known_here","_law_prices_here","_law_ones","_law_others","_law_many","_law_one","_law_other","_law_left_here","_law_unlike"] ["_law_sides_here","_law_link_here","_law_known_here","_law_prices_here"] (aB mQ):=⟨rfl,rfl,rfl,by decide +kernel,rfl,by decide +kernel,by decide +kernel⟩
theorem Kc(h:Has K mg "_law_link" mQ ["_law_sides_here","_law_link_here","_law_known_here","_law_prices_here"])(Ph:mg "len" = none)(R6:mg "any" = none)(Qw:mg "abs" = none)(Px:mg "sum" = none)(Rn:mg "max" = none):Cal P w K mg base "_law_link" 1 ["_law_sides_here","_law_link_here","_law_known_here","_law_prices_here"] FP:=by
 refine h.mk' ji (fun vs H Q E hs=>?_) (fun f cdv A outer s H vs Q E hr hs=>?_)
 ·obtain⟨l,a,b,qw,qp,v,q,xs,ys,us,ps,ns,rfl,_⟩:=hs
  rfl
 obtain⟨l,a,b,qw,qp,v,q,xs,ys,us,ps,ns,rfl,⟨el,sa,sb,hx2,hy2,hw,hu,hP,hqp,hns⟩,hv,hq,k⟩:=hs
 refine⟨_,(au (iW (ix:=4) ji.nd rfl rfl ["_law_sides_here","_law_link_here","_law_known_here","_law_prices_here","_law_ones","_law_others","_law_many","_law_one","_law_other","_law_left_here","_law_unlike"] (aB mQ) ["_law_sides_here","_law_place"] [some 0,none] rfl rfl rfl (bQ (bx bh (pv 1) aA (fun _ _=>rfl))) rfl (by decide +kernel) (by decide +kernel) (by decide +kernel) (by decide +kernel) (hg:=fun cl C s H ex pn E=>(aD (i:=1) (by decide +kernel:(["_law_sides_here","_law_place"]:List Str).Nodup) rfl (Or.inl rfl))) (ht:=fun cl C s H ex pn E=>bC) (he:=fun cl C s H ex pn E=>(bx (aX) (bx (aX) (pv 0) aA (fun _ _=>rfl)) (pv 1) (fun _ _=>rfl))))
  (au (iW (ix:=5) ji.nd rfl rfl ["_law_sides_here","_law_link_here","_law_known_here","_law_prices_here","_law_ones","_law_others","_law_many","_law_one","_law_other","_law_left_here","_law_unlike"] (aB mQ) ["_law_sides_here","_law_place"] [some 0,none] rfl rfl rfl (bQ (bx bh (pv 1) aA (fun _ _=>rfl))) rfl (by decide +kernel) (by decide +kernel) (by decide +kernel) (by decide +kernel) (hg:=fun cl C s H ex pn E=>(aD (i:=1) (by decide +kernel:(["_law_sides_here","_law_place"]:List Str).Nodup) rfl (Or.inl rfl))) (ht:=fun cl C s H ex pn E=>bC) (he:=fun cl C s H ex pn E=>(bx (aX) (bx (aX) (pv 0) aA (fun _ _=>rfl)) (pv 1) (fun _ _=>rfl))))
  (au (cD (PW.pt (wI (aW dR (aJ aN rfl Ph PySem.boot_len (aj (pv 4) ao)) aA (bB _)) (m7 (aW dR (aJ aN rfl Ph PySem.boot_len (aj (pv 5) ao)) aA (bB _)))))
   (aC (aV (bx bh (pv 3) aA (fun _ _=>rfl))))
   bF)
  (au (aR (i:=6) ji.nd rfl (Or.inl rfl) aA)
  (au (cG PassesOwn.never rfl (bQ (pv 2)) (bH (n:=2) rfl (aH (aD (i:=7) ji.nd rfl (Or.inr rfl)) (aH (aD (i:=8) ji.nd rfl (Or.inr rfl)) bI)))
   (au (aR (i:=9) ji.nd rfl (Or.inl rfl) (aJ (qm rfl) rfl R6 boot_any (aj (bD ["_law_sides_here","_law_link_here","_law_known_here","_law_prices_here","_law_ones","_law_others","_law_many","_law_one","_law_other","_law_left_here","_law_unlike"] (aB mQ) ["_law_one","_law_size","_law_cores_here"] [some 7,none,none] rfl rfl rfl (bY (pv 4)) rfl (by decide +kernel) (by decide +kernel) (by decide +kernel) (by decide +kernel) (g:=rT K0 2 (dG (cP 1) (dG (cP 2) tG))) (hg:=fun cl C s H ex pn E=>bH (n:=2) rfl (aH (aD (i:=1) (by decide +kernel:(["_law_one","_law_size","_law_cores_here"]:List Str).Nodup) rfl (Or.inl rfl) (Or.inr rfl)) (aH (aD (i:=2) (by decide +kernel:(["_law_one","_law_size","_law_cores_here"]:List Str).Nodup) rfl (Or.inl rfl) (Or.inr rfl)) bI))) (ht:=fun cl C s H ex pn E=>bC) (he:=fun cl C s H ex pn E=>(fG (jW) (pv 0) (pv 2) (by with_unfolding_all rfl)))) ao)))
  (aC (cD (PW.pt (iz (gG (pv 9)) (fV (gG (aJ (qm rfl) rfl R6 boot_any (aj (bD ["_law_sides_here","_law_link_here","_law_known_here","_law_prices_here","_law_ones","_law_others","_law_many","_law_one","_law_other","_law_left_here","_law_unlike"] (aB mQ) ["_law_other","_law_size","_law_cores_here"] [some 8,none,none] rfl rfl rfl (bY (pv 5)) rfl (by decide +kernel) (by decide +kernel) (by decide +kernel) (by decide +kernel) (g:=rT K0 2 (dG (cP 1) (dG (cP 2) tG))) (hg:=fun cl C s H ex pn E=>bH (n:=2) rfl (aH (aD (i:=1) (by decide +kernel:(["_law_other","_law_size","_law_cores_here"]:List Str).Nodup) rfl (Or.inl rfl) (Or.inr rfl)) (aH (aD (i:=2) (by decide +kernel:(["_law_other","_law_size","_law_cores_here"]:List Str).Nodup) rfl (Or.inl rfl) (Or.inr rfl)) bI))) (ht:=fun cl C s H ex pn E=>bC) (he:=fun cl C s H ex pn E=>(fG (jW) (pv 0) (pv 2) (by with_unfolding_all rfl)))) ao))))))
   (aC (aR (i:=6) ji.nd rfl (Or.inl rfl) (aP bA (pv 6) aA)))
   bF))))
  (au (aR (i:=10) ji.nd rfl (Or.inl rfl) (aJ lG rfl Qw boot_abs (aj (aP fB (aJ (cR rfl) rfl Px boot_sum (aj (bD ["_law_sides_here","_law_link_here","_law_known_here","_law_prices_here","_law_ones","_law_others","_law_many","_law_one","_law_other","_law_left_here","_law_unlike"] (aB mQ) ["_law_size","_law_cores_here"] [none,none] rfl rfl rfl (bY (pv 4)) rfl (by decide +kernel) (by decide +kernel) (by decide +kernel) (by decide +kernel) (g:=rT K0 2 (dG (cP 0) (dG (cP 1) tG))) (hg:=fun cl C s H ex pn E=>bH (n:=2) rfl (aH (aD (i:=0) (by decide +kernel:(["_law_size","_law_cores_here"]:List Str).Nodup) rfl (Or.inl rfl) (Or.inr rfl)) (aH (aD (i:=1) (by decide +kernel:(["_law_size","_law_cores_here"]:List Str).Nodup) rfl (Or.inl rfl) (Or.inr rfl)) bI))) (ht:=fun cl C s H ex pn E=>bC) (he:=fun cl C s H ex pn E=>(pv 0))) ao)) (aJ (cR rfl) rfl Px boot_sum (aj (bD ["_law_sides_here","_law_link_here","_law_known_here","_law_prices_here","_law_ones","_law_others","_law_many","_law_one","_law_other","_law_left_here","_law_unlike"] (aB mQ) ["_law_size","_law_cores_here"] [none,none] rfl rfl rfl (bY (pv 5)) rfl (by decide +kernel) (by decide +kernel) (by decide +kernel) (by decide +kernel) (g:=rT K0 2 (dG (cP 0) (dG (cP 1) tG))) (hg:=fun cl C s H ex pn E=>bH (n:=2) rfl (aH (aD (i:=0) (by decide +kernel:(["_law_size","_law_cores_here"]:List Str).Nodup) rfl (Or.inl rfl) (Or.inr rfl)) (aH (aD (i:=1) (by decide +kernel:(["_law_size","_law_cores_here"]:List Str).Nodup) rfl (Or.inl rfl) (Or.inr rfl)) bI))) (ht:=fun cl C s H ex pn E=>bC) (he:=fun cl C s H ex pn E=>(pv 0))) ao))) ao)))
  (aC (aV (aP fB (aP bA (aP iy (bx bh (pv 3) aA (fun _ _=>rfl)) (aP fB (aJ (qg rfl) rfl Rn boot_max (aj (aJ aN rfl Ph PySem.boot_len (aj (pv 4) ao)) (aj (aJ aN rfl Ph PySem.boot_len (aj (pv 5) ao)) ao))) aA)) (aP iy (bx bh (pv 3) aA (fun _ _=>rfl)) (pv 10))) (aP iy (bx bh (pv 3) aA (fun _ _=>rfl)) (pv 6))))))))))),?_⟩
 obtain⟨lk,t0,t1,rfl,ek,e0,e1⟩:=jg hv
 obtain⟨ua,ea,la,fa⟩:=sa.ex
 obtain⟨ub,eb,lb,fb⟩:=sb.ex
 have EA:SdE H ua xs:=⟨la,fun i u x h1 h2=>by obtain⟨t,lc,p,q,r,_⟩:=fa i u x h1 h2;exact⟨t,lc,p,q,r⟩⟩
 have EB:SdE H ub ys:=⟨lb,fun i u x h1 h2=>by obtain⟨t,lc,p,q,r,_⟩:=fb i u x h1 h2;exact⟨t,lc,p,q,r⟩⟩
 clear fa fb
 have hia:=hq.a
 have hib:=hq.b
 have hqa:=hq.la
 have hqb:=hq.lb
 have EA:=EA.pick hia
 have EB:=EB.pick hib
 have hx2':=kZ hia hx2
 have hy2':=kZ hib hy2
 have lpa:(Mine.pick xs q.1).length=q.1.length:=List.length_map _
 have lpb:(Mine.pick ys q.2).length=q.2.length:=List.length_map _
 have kk:∀ H',Same H H'->q.1≠[]->q.2≠[]->Q (.int (costOf ns (Mine.pick xs q.1) (Mine.pick ys q.2) ps)) H':=fun H' s h1 h2=>by
  have:=k H' s
  unfold iK at this
  rw [if_neg (by intro z;rcases z with z | z;exact h1 z;exact h2 z)] at this
  exact this
 have k0:∀ H',Same H H'->(q.1=[]\/q.2=[])->Q (.int (ns.getD 0 0)) H':=fun H' s h=>by
  have:=k H' s
  unfold iK at this
  rw [if_pos h] at this
  exact this
 have at0:atI (ns.map V.int) 0=some (.int (ns.getD 0 0)):=aO (j:=0) (int_at (by omega))
 rw [← la] at hia
 rw [← lb] at hib
 have eua:(q.1.map fun k=>ua.getD k .non).length=(Mine.pick xs q.1).length:=by rw [List.length_map,lpa]
 have eub:(q.2.map fun k=>ub.getD k .non).length=(Mine.pick ys q.2).length:=by rw [List.length_map,lpb]
 clear la lb
 rw [← lpa] at hqa
 rw [← lpb] at hqb
 have ha0:(Mine.pick xs q.1).length=0->q.1=[]:=fun z=>List.eq_nil_of_length_eq_zero (by omega)
 have hb0:(Mine.pick ys q.2).length=0->q.2=[]:=fun z=>List.eq_nil_of_length_eq_zero (by omega)
 have hc0:0 < (Mine.pick xs q.1).length->q.1≠[]:=fun z h=>by rw [lpa,h] at z;exact Nat.lt_irrefl 0 z
 have hd0:0 < (Mine.pick ys q.2).length->q.2≠[]:=fun z h=>by rw [lpb,h] at z;exact Nat.lt_irrefl 0 z
 clear lpa lpb k
 have kt0:atI [V.ref t0,V.ref t1] 0=some (.ref t0):=cJ _ _
 have kt1:atI [V.ref t0,V.ref t1] 1=some (.ref t1):=aO (xs:=[V.ref t0,V.ref t1]) (j:=1) rfl
 have ka:atI [V.ref a,V.ref b] 0=some (.ref a):=cJ _ _
 have kb:atI [V.ref a,V.ref b] 1=some (.ref b):=aO (xs:=[V.ref a,V.ref b]) (j:=1) rfl
 refine⟨_,rfl,ixT (p:=lk) rfl rfl (SqT.of ek) (kt0) (⟨ t0,rfl,⟨_,SqT.of e0⟩,fun l4 hl4=>?_⟩)⟩
 refine uU el ka ea e0 hia hq.la hl4 fun H4 s4 e4=>?_
 refine gN ⟨_,rfl,ixT (p:=lk) rfl rfl (SqT.of (s4 _ _ ek)) (kt1) (⟨ t1,rfl,⟨_,SqT.of (s4 _ _ e1)⟩,fun l5 hl5=>?_⟩)⟩
 refine uU (s4 _ _ el) kb (s4 _ _ eb) (s4 _ _ e1) hib hq.lb hl5 fun H5 s5 e5=>?_
 have s05:=s4.trans s5
 replace e4:=s5 _ _ e4
 clear e0 e1 ek kt0 kt1 ka kb ea eb
 generalize (q.1.map fun k=>ua.getD k .non)=ua' at EA e4 eua
 generalize (q.2.map fun k=>ub.getD k .non)=ub' at EB e5 eub
 generalize Mine.pick xs q.1=xs' at EA hx2' eua hqa ha0 hc0 kk
 generalize Mine.pick ys q.2=ys' at EB hy2' eub hqb hb0 hd0 kk
 have b1:=pX hx2'
 have b2:=pX hy2'
 have n0:∀ {n:Nat},decide (V.int ((n:Nat):Int)=V.int 0)=decide (n=0):=fun {n}=>decide_eq_decide.mpr ⟨fun z=>by
  injection z with z
  omega,fun z=>by rw [z];rfl⟩
 refine gN ⟨_,rfl,l4,_,rfl,.inl (SqL.of e4),rfl,_,rfl,?_⟩
 rw [n0]
 refine cU (fun c1=>?_) (fun c1=>?_)
 ·have c1:=of_decide_eq_true c1
  exact⟨_,rfl,ixT (p:=qp) rfl rfl (SqT.of (s05 _ _ hqp)) (at0) (k0 H5 s05 (.inl (ha0 (by omega))))⟩
 have hx:1<=xs'.length/\xs'.length<=3:=⟨by
  rcases Nat.eq_zero_or_pos xs'.length with z | z
  ·exact absurd (decide_eq_true (by omega)) c1
  ·exact z,hqa⟩
 refine⟨_,rfl,l5,_,rfl,.inl (SqL.of e5),rfl,_,rfl,?_⟩
 rw [n0]
 refine cU (fun c2=>?_) (fun c2=>?_)
 ·have c2:=of_decide_eq_true c2
  exact⟨_,rfl,ixT (p:=qp) rfl rfl (SqT.of (s05 _ _ hqp)) (at0) (k0 H5 s05 (.inr (hb0 (by omega))))⟩
 have hy:1<=ys'.length/\ys'.length<=3:=⟨by
  rcases Nat.eq_zero_or_pos ys'.length with z | z
  ·exact absurd (decide_eq_true (by omega)) c2
  ·exact z,hqb⟩
 refine gN ⟨_,rfl,qw,rfl,⟨_,SqT.of (s05 _ _ hw)⟩,?_⟩
 clear c1 c2 k0 ha0 hb0
 have k:=fun H' s=>kk H' s (hc0 hx.1) (hd0 hy.1)
 clear kk hc0 hd0
 have PE5:=hP.same s05
 refine gR (K:=K0) (a:=qw) (xs:=us) (fun i σ H6=>∃ v7 v8 v9 v10:Option V,σ=[some (.ref l),some (.ref lk),some (.ref qw),some (.ref qp),some (.ref l4),some (.ref l5),some (.int (wV (bG xs') (bG ys') (ps.take i):Nat)),v7,v8,v9,v10]/\Same H5 H6) ⟨_,_,_,_,rfl,Same.refl _⟩ ?_ ?_ ?_
 ·rintro i σ H6 _ ⟨_,_,_,_,_,s6⟩
  exact SqT.of (s6 _ _ (s05 _ _ hw))
 ·rintro i y σ H6 hi ⟨v7,v8,v9,v10,rfl,s6⟩
  have hil:=(List.getElem?_eq_some_iff.mp hi).1
  have hip:i < ps.length:=by rw [← hP.1];exact hil
  obtain⟨t,rfl,ht⟩:=(PE5.same s6).2 i y ps[i] hi (aZ hip)
  have hsn:=Ax (as:=bG xs') (bs:=bG ys') hip
  generalize ps[i]=pp at ht hsn
  have s06:=s05.trans s6
  refine⟨t,_,rfl,SqT.of ht,rfl,_,_,rfl,_,_,rfl,rfl,?_⟩
  refine⟨_,rfl,l4,rfl,⟨_,SqL.of (s6 _ _ e4)⟩,fun l7 hl7=>?_⟩
  refine uR (s6 _ _ e4) (EA.same s06) hx.2 hl7 fun H7 s7 e7=>?_
  refine⟨l7,_,rfl,SqL.of e7,?_⟩
  rw [rA]
  refine gN ⟨_,rfl,_,rfl,?_⟩
  refine cU (fun c1=>?_) (fun c1=>?_)
  ·refine⟨_,rfl,l5,rfl,⟨_,SqL.of (s7 _ _ (s6 _ _ e5))⟩,fun l8 hl8=>?_⟩
   refine uR (s7 _ _ (s6 _ _ e5)) (EB.same (s06.trans s7)) hy.2 hl8 fun H8 s8 e8=>?_
   refine⟨l8,_,rfl,SqL.of e8,_,rfl,?_⟩
   rw [rA]
   refine cU (fun c2=>?_) (fun c2=>?_)
   ·have hB:vG (bG xs') (bG ys') pp=true:=by
     unfold vG
     rw [c1,c2]
     rfl
    rw [if_pos hB] at hsn
    refine⟨_,rfl,_,_,rfl,rfl,?_⟩
    refine⟨some (.str pp.1),some (.str pp.2),some (.bl (decide (pp.1∈bG xs'))),v10,?_,(s6.trans s7).trans s8⟩
    rw [hsn]
    rfl
   ·have hB:¬ vG (bG xs') (bG ys') pp=true:=fun z=>c2 (Bool.and_eq_true_iff.mp z).2
    rw [if_neg hB,Nat.add_zero] at hsn
    refine⟨some (.str pp.1),some (.str pp.2),some (.bl (decide (pp.1∈bG xs'))),v10,?_,(s6.trans s7).trans s8⟩
    rw [hsn]
    rfl
  ·have hB:¬ vG (bG xs') (bG ys') pp=true:=fun z=>c1 (Bool.and_eq_true_iff.mp z).1
   rw [if_neg hB,Nat.add_zero] at hsn
   refine oZ ⟨some (.str pp.1),some (.str pp.2),some (.bl (decide (pp.1∈bG xs'))),v10,?_,s6.trans s7⟩
   rw [hsn]
   rfl
 ·rintro σ H6 ⟨v7,v8,v9,v10,rfl,s6⟩
  rw [hP.1,List.take_length]
  have s06:=s05.trans s6
  refine⟨_,rfl,l4,rfl,⟨_,SqL.of (s6 _ _ e4)⟩,fun l7 hl7=>?_⟩
  refine vm (s6 _ _ e4) (EA.same s06) hx.2 hl7 fun H7 s7 e7=>?_
  refine⟨l7,_,rfl,SqL.of e7,_,rfl,l5,rfl,⟨_,SqL.of (s7 _ _ (s6 _ _ e5))⟩,fun l8 hl8=>?_⟩
  refine vm (s7 _ _ (s6 _ _ e5)) (EB.same (s06.trans s7)) hy.2 hl8 fun H8 s8 e8=>?_
  refine⟨l8,_,rfl,SqL.of e8,_,_,rfl,rfl,_,rfl,?_⟩
  have s08:=(s06.trans s7).trans s8
  have q8:=s08 _ _ hqp
  have e48:=s8 _ _ (s7 _ _ (s6 _ _ e4))
  have e58:=s8 _ _ (s7 _ _ (s6 _ _ e5))
  have at1:atI (ns.map V.int) 1=some (.int (ns.getD 1 0)):=aO (j:=1) (int_at (by omega))
  have at3:atI (ns.map V.int) 3=some (.int (ns.getD 3 0)):=aO (j:=3) (int_at (by omega))
  have at4:atI (ns.map V.int) 4=some (.int (ns.getD 4 0)):=aO (j:=4) (int_at (by omega))
  have bm:-(2 ^ 64) < Ho (ua'.length:Nat) (ub'.length:Nat) - 1/\Ho (ua'.length:Nat) (ub'.length:Nat) - 1 < 2 ^ 64:=by
   unfold Ho
   split <;> omega
  have bd:-(2 ^ 64) < GP ((xs'.map siz).sum - (ys'.map siz).sum)/\GP ((xs'.map siz).sum - (ys'.map siz).sum) < 2 ^ 64:=by
   unfold GP
   split <;> omega
  have hLb:wV (bG xs') (bG ys') ps<=1000:=by
   unfold wV
   have:=List.length_filter_le (vG (bG xs') (bG ys')) ps
   have:=hP.1
   omega
  refine gN ⟨_,rfl,ixT (p:=qp) rfl rfl (SqT.of q8) (at1) (⟨ _,rfl,l4,_,rfl,.inl (SqL.of e48),_,rfl,l5,_,rfl,.inl (SqL.of e58),_,_,rfl,_,_,rfl,rfl,_,_,rfl,rfl,.inr bm,_,rfl,ixT (p:=qp) rfl rfl (SqT.of q8) (at3) (⟨ _,rfl,_,_,rfl,rfl,.inr bd,_,_,rfl,rfl,_,rfl,ixT (p:=qp) rfl rfl (SqT.of q8) (at4) (⟨ _,rfl,_,_,rfl,rfl,.inr ⟨by omega,by omega⟩,_,_,rfl,rfl,?_⟩)⟩)⟩)⟩
  have:=k H8 s08
  unfold costOf Gj at this
  rw [← eua,← eub] at this
  exact this
end
theorem bZ{H:Hp}{us:List V}{v:V}{ss:List Stp}{s:Stp}(h:cj H us (ss.map stD))(hv:Den H v (stD s)):cj H (us++[v]) ((ss++[s]).map stD):=by
 rw [List.map_append]
 exact h.snoc hv
theorem bK{H:Hp}{p:Addr}{is:List Nat}(e:H p=some (.tup (is.map fun k=>V.int (k:Nat)))):Den H (.ref p) (nD is):=⟨p,_,rfl,e,uW H is⟩
noncomputable def prs:List (Nat × Nat):=[(0,0),(0,1),(0,2),(0,3),(1,0),(1,1),(1,2),(1,3),(2,0),(2,1),(2,2),(2,3),(3,0),(3,1),(3,2),(3,3)]
theorem Iz:∀ a < 4,∀ b < 4,prs[4 * a+b]?=some (a,b):=by decide
noncomputable def BJ(i j m n:Nat)(p:Nat × Nat):Bool:=decide (i+p.1<=m/\j+p.2<=n) && decide (p.1+p.2=1\/min p.1 p.2=1)
theorem Ib(i j m n:Nat):prs.filter (BJ i j m n)=shapes.filter fun s=>decide (i+s.1<=m/\j+s.2<=n):=by
 have e:shapes=prs.filter fun p=>decide (p.1+p.2=1\/min p.1 p.2=1):=by decide
 rw [e,List.filter_filter]
 rfl
theorem Cw{i j m n a b:Nat}(ha:a < 4)(hb:b < 4):((prs.take (4 * a+(b+1))).filter (BJ i j m n)).map (one i j)=((prs.take (4 * a+b)).filter (BJ i j m n)).map (one i j)++if BJ i j m n (a,b)=true then [one i j (a,b)] else []:=by
 rw [show 4 * a+(b+1)=4 * a+b+1 by omega,List.take_add_one,Iz a ha b hb,List.filter_append,List.map_append]
 congr 1
 show List.map (one i j) (List.filter (BJ i j m n) [(a,b)])=_
 split
 ·rename_i h
  rw [List.filter_cons_of_pos h]
  rfl
 ·rename_i h
  rw [List.filter_cons_of_neg h]
  rfl
noncomputable def jY:Sp:=fun vs H Q _=>∃(i j m n:Nat),vs=[.int (i:Nat),.int (j:Nat),.int (m:Nat),.int (n:Nat)]/\i<=m/\j<=n/\m<=1000/\n<=1000 /\
 ∀(l:Addr)(us:List V)(H':Hp),Same H H'->H l=none->H' l=some (.lst us)->cj H' us ((bw i j m n).map stD)->Q (.ref l) H'
noncomputable def Es:Sp:=fun vs H Q _=>∃(v:V)(s:Stp)(i j:Int),vs=[v,.int i,.int j]/\Den H v (stD s)/\s.length<=2/\∀(p:Addr)(H':Hp),Same H H'->H' p=some (.tup [.int (i+(sz1 s:Nat)),.int (j+(sz2 s:Nat))])->Q (.ref p) H'
noncomputable def qF:Sp:=fun vs H Q _=>∃(l a b qw qp:Addr)(v:V)(st:Stp)(xs ys:List Str)(us:List V)(ps:List (Str × Str))(ns:List Int),vs=[.ref l,v,.ref qw,.ref qp]/\gk H l a b qw qp xs ys us ps ns/\Den H v (stD st)/\(∀ q∈st,wW xs.length ys.length q)/\1<=st.length/\st.length<=2/\∀ H',Same H H'->Q (.int (aY ns xs ys ps st)) H'
section
variable {P:Program}{w:World}{K:W.Frag}{mg:Str->Option Value}{base:Heap}
theorem Fe:aQ ["_law_sides_here","_law_step_here","_law_known_here","_law_prices_here","_law_cost"] ["_law_sides_here","_law_step_here","_law_known_here","_law_prices_here"] (aB Ah):=⟨rfl,rfl,rfl,by decide +kernel,rfl,by decide +kernel,by decide +kernel⟩
theorem Jo(h:Has K mg "_law_step" Ah ["_law_sides_here","_law_step_here","_law_known_here","_law_prices_here"])(RV:Cal P w K mg base "_law_link" 1 ["_law_sides_here","_law_link_here","_law_known_here","_law_prices_here"] FP)(Px:mg "sum" = none)(Ph:mg "len" = none):Cal P w K mg base "_law_step" 2 ["_law_sides_here","_law_step_here","_law_known_here","_law_prices_here"] qF:=by
 refine h.mk' Fe (fun vs H Q E hs=>?_) (fun f cdv A outer s H vs Q E hr hs=>?_)
 ·obtain⟨l,a,b,qw,qp,v,st,xs,ys,us,ps,ns,rfl,_⟩:=hs
  rfl
 obtain⟨l,a,b,qw,qp,v,st,xs,ys,us,ps,ns,rfl,hL,hv,hin,hl1,hl2,k⟩:=hs
 refine⟨_,(au (aR (i:=4) Fe.nd rfl (Or.inl rfl) (aJ (cR rfl) rfl Px boot_sum (aj (bD ["_law_sides_here","_law_step_here","_law_known_here","_law_prices_here","_law_cost"] (aB Ah) ["_law_sides_here","_law_known_here","_law_prices_here","_law_link_here"] [some 0,some 2,some 3,none] rfl rfl rfl (bQ (pv 1)) rfl (by decide +kernel) (by decide +kernel) (by decide +kernel) (by decide +kernel) (hg:=fun cl C s H ex pn E=>(aD (i:=3) (by decide +kernel:(["_law_sides_here","_law_known_here","_law_prices_here","_law_link_here"]:List Str).Nodup) rfl (Or.inl rfl))) (ht:=fun cl C s H ex pn E=>bC) (he:=fun cl C s H ex pn E=>(aG RV hr (by decide) rfl (aj (pv 0) (aj (pv 3) (aj (pv 1) (aj (pv 2) ao))))))) ao)))
  (aC (aV (aP bA (pv 4) (aP iy (bx bh (pv 3) aA (fun _ _=>rfl)) (aP fB (aJ aN rfl Ph PySem.boot_len (aj (pv 1) ao)) aA)))))),?_⟩
 obtain⟨q,ls,rfl,hq,dl⟩:=bO hv
 have hll:=dl.len
 rw [List.length_map] at hll
 refine⟨_,rfl,q,rfl,⟨_,SqT.of hq⟩,fun lc hlc=>?_⟩
 refine bL (J:=Itt K0 q) (l:=lc) st.length (fun i σ' H'=>∃ v3:Option V,σ'=[some (.ref l),some (.ref qw),some (.ref qp),v3]/\Same H H'/\H' lc=some (.lst (((st.take i).map (iK ns xs ys ps)).map V.int))) ⟨none,rfl,aq hlc _,ak⟩ ?_ ?_
 ·rintro σ' H1 ⟨v3,rfl,s1,e1⟩
  rw [List.take_length] at e1
  refine⟨⟨_,SqT.of (s1 _ _ hq),by omega⟩,lc,_,rfl,SqL.of e1,gN ?_⟩
  have hk:=k H1 s1
  unfold aY at hk
  have e2:ns.getD 2 0 * ((ls.length:Int) - 1)=if st.length=2 then ns.getD 2 0 else 0:=by
   rw [hll]
   split
   ·rename_i h
    rw [h]
    omega
   ·rw [show st.length=1 by omega]
    show ns.getD 2 0 * 0=0
    exact Int.mul_zero _
  rw [← e2] at hk
  exact⟨_,rfl,_,rfl,ixT (p:=qp) rfl rfl (SqT.of (s1 _ _ hL.qp)) (aO (j:=2) (int_at (by have:=hL.n5;omega))) (⟨ _,rfl,q,_,rfl,.inr (SqT.of (s1 _ _ hq)),_,_,rfl,rfl,_,_,rfl,rfl,.inr ⟨by omega,by omega⟩,_,_,rfl,rfl,hk⟩)⟩
 ·rintro i σ' H1 hi ⟨v3,rfl,s1,e1⟩
  have hil:i < ls.length:=by omega
  refine⟨⟨_,_,SqT.of (s1 _ _ hq),List.getElem?_eq_getElem hil⟩,?_⟩
  rintro y H2 ⟨rfl,hy⟩
  have ey:y=ls[i]:=Option.some.inj ((hy _ (SqT.of (s1 _ _ hq))).symm.trans (List.getElem?_eq_getElem hil))
  have dy:Den H ls[i] (lkD st[i]):=at_of dl (List.getElem?_eq_getElem hil) (by rw [List.getElem?_map,List.getElem?_eq_getElem hi];rfl)
  have hini:=hin _ (List.getElem_mem hi)
  have htk:((st.take (i+1)).map (iK ns xs ys ps)).map V.int=((st.take i).map (iK ns xs ys ps)).map V.int++[.int (iK ns xs ys ps st[i])]:=by rw [List.take_add_one,List.getElem?_eq_getElem hi,List.map_append,List.map_append];rfl
  rw [htk]
  rw [← ey] at dy
  generalize st[i]=lk at dy hini ⊢
  refine gN (iM (eZ ⟨_,rfl,_,rfl,_,rfl,_,rfl,l,a,b,qw,qp,y,lk,xs,ys,us,ps,ns,rfl,hL.same s1,dy.same s1,hini,fun H3 s3=>?_⟩))
  have s13:=s1.trans s3
  refine⟨_,s3 _ _ e1,aK (by rw [List.length_map,List.length_map,List.length_take];omega),_,rfl,fun x u z=>?_,ak⟩
  rw [aL (aF z hlc)]
  exact s13 _ _ z
theorem oh:aQ ["_law_i","_law_j","_law_m","_law_n","_law_steps_here","_law_a","_law_b"] ["_law_i","_law_j","_law_m","_law_n"] (aB uq):=⟨rfl,rfl,rfl,by decide +kernel,rfl,by decide +kernel,by decide +kernel⟩
theorem Gq(h:Has K mg "_law_steps" uq ["_law_i","_law_j","_law_m","_law_n"])(Pg:mg "range" = none)(Rp:mg "min" = none)(Pb:mg "tuple" = none):Cal P w K mg base "_law_steps" 1 ["_law_i","_law_j","_law_m","_law_n"] jY:=by
 refine h.mk' oh (fun vs H Q E hs=>?_) (fun f cdv A outer s H vs Q E hr hs=>?_)
 ·obtain⟨i,j,m,n,rfl,_⟩:=hs
  rfl
 obtain⟨i,j,m,n,rfl,him,hjn,hm,hn,k⟩:=hs
 refine⟨_,(au (aR (i:=4) oh.nd rfl (Or.inl rfl) (cQ ao))
  (au (cG PassesOwn.never rfl (cC rfl Pg (aj aA ao)) (aD (i:=5) oh.nd rfl (Or.inl rfl))
   (aC (cG PassesOwn.never rfl (cC rfl Pg (aj aA ao)) (aD (i:=6) oh.nd rfl (Or.inl rfl))
   (aC (cD (PW.pt (iz (aW jK (aP bA (pv 0) (pv 5)) (pv 2) (bB _)) (iz (aW jK (aP bA (pv 1) (pv 6)) (pv 3) (bB _)) (fV (PW.pt (wI (aW dR (aP bA (pv 5) (pv 6)) aA (bB _)) (m7 (aW dR (aJ (xK rfl) rfl Rp boot_min (aj (pv 5) (aj (pv 6) ao))) aA (bB _)))))))))
   (aC (cI (cZ PySem.F.plainAttrs_list PySem.F.slot_list_append PySem.F.type_list_append bN (pv 4) (aj (aM (aj (aM (aj (jO rfl rfl Pb rfl Pg (aj (pv 0) (aj (aP bA (pv 0) (pv 5)) ao))) (aj (jO rfl rfl Pb rfl Pg (aj (pv 1) (aj (aP bA (pv 1) (pv 6)) ao))) ao))) ao)) ao))))
   bF)))))
  (au (cD (PW.pt (iz (aW jK (aP bA (pv 0) aA) (pv 2) (bB _)) (fV (aW jK (aP bA (pv 1) aA) (pv 3) (bB _)))))
   (aC (cI (cZ PySem.F.plainAttrs_list PySem.F.slot_list_append PySem.F.type_list_append bN (pv 4) (aj (aM (aj (aM (aj (aM (aj (pv 0) ao)) (aj (aM (aj (aP bA (pv 1) aA) ao)) ao))) (aj (aM (aj (aM (aj (aP bA (pv 0) aA) ao)) (aj (aM (aj (pv 1) ao)) ao))) ao))) ao))))
   bF)
  (aC (aV (pv 4)))))),?_⟩
 refine⟨smn 0,fun l hl=>?_⟩
 refine gN ⟨4,rfl,by omega,by omega,?_⟩
 refine dj (lo:=0) (n:=4) (fun a σ H1=>∃(v5 v6:Option V)(us:List V),σ=[some (.int (i:Nat)),some (.int (j:Nat)),some (.int (m:Nat)),some (.int (n:Nat)),some (.ref l),v5,v6]/\Same H H1/\H1 l=some (.lst us)/\us.length<=4 * a/\cj H1 us ((((prs.take (4 * a)).filter (BJ i j m n)).map (one i j)).map stD)) ⟨_,_,[],rfl,aq hl _,ak,Nat.zero_le _,trivial⟩ ?_ ?_
 ·rintro a σ H1 ha ⟨v5,v6,us,rfl,s1,e1,l1,d1⟩
  refine gN ⟨4,rfl,by omega,by omega,?_⟩
  refine dj (lo:=0) (n:=4) (fun b σ H2=>∃(v6:Option V)(us:List V),σ=[some (.int (i:Nat)),some (.int (j:Nat)),some (.int (m:Nat)),some (.int (n:Nat)),some (.ref l),some (.int (0+(a:Nat))),v6]/\Same H H2/\H2 l=some (.lst us)/\us.length<=4 * a+b/\cj H2 us ((((prs.take (4 * a+b)).filter (BJ i j m n)).map (one i j)).map stD)) ⟨_,us,rfl,s1,e1,l1,d1⟩ ?_ ?_
  ·rintro b σ H2 hb ⟨v6,us,rfl,s2,e2,l2,d2⟩
   have hnx:=Cw (i:=i) (j:=j) (m:=m) (n:=n) ha hb
   have hno:¬ (i+a<=m/\j+b<=n/\(a+b=1\/min a b=1))->∃(w6:Option V)(us':List V),[some (.int (i:Nat)),some (.int (j:Nat)),some (.int (m:Nat)),some (.int (n:Nat)),some (.ref l),some (.int (0+(a:Nat))),some (.int (0+(b:Nat)))]=[some (.int (i:Nat)),some (.int (j:Nat)),some (.int (m:Nat)),some (.int (n:Nat)),some (.ref l),some (.int (0+(a:Nat))),w6]/\Same H H2/\H2 l=some (.lst us')/\us'.length<=4 * a+(b+1)/\cj H2 us' ((((prs.take (4 * a+(b+1))).filter (BJ i j m n)).map (one i j)).map stD):=fun z=>by
    have hf:¬ BJ i j m n (a,b)=true:=fun q=>by
     have q:=Bool.and_eq_true_iff.mp q
     have q1:=of_decide_eq_true q.1
     exact z ⟨q1.1,q1.2,of_decide_eq_true q.2⟩
    rw [if_neg hf,List.append_nil] at hnx
    rw [hnx]
    exact⟨_,us,rfl,s2,e2,by omega,d2⟩
   refine gN ⟨_,rfl,_,rfl,_,_,rfl,rfl,_,rfl,_,_,rfl,rfl,_,rfl,?_⟩
   refine cU (fun z1=>?_) (fun z1=>oZ (hno fun q=>z1 (decide_eq_true (by have:=q.1;omega))))
   have w1:=of_decide_eq_true z1
   refine⟨_,rfl,_,rfl,_,_,rfl,rfl,_,rfl,_,_,rfl,rfl,_,rfl,?_⟩
   refine cU (fun z2=>?_) (fun z2=>oZ (hno fun q=>z2 (decide_eq_true (by have:=q.2.1;omega))))
   have w2:=of_decide_eq_true z2
   refine⟨_,rfl,_,rfl,_,_,rfl,rfl,rfl,_,rfl,?_⟩
   refine (fun (hb':(a+b=1\/min a b=1)->_)=>cU (fun z3=>eZ (hb' (.inl (by have:=of_decide_eq_true z3;injection this with this;omega)))) (fun z3=>⟨_,rfl,_,rfl,_,_,rfl,rfl,_,rfl,cU (fun z4=>hb' (.inr (by
    have:=of_decide_eq_true z4
    injection this with this
    split at this <;> omega))) (fun z4=>hno fun q=>by
    rcases q.2.2 with q | q
    ·exact z3 (decide_eq_true (by show V.int ((0+(a:Int))+(0+(b:Int)))=V.int 1;rw [show (0+(a:Int))+(0+(b:Int))=1 by omega]))
    ·refine z4 (decide_eq_true ?_)
     show V.int (if (0+(b:Int)) < 0+(a:Int) then 0+(b:Int) else 0+(a:Int))=V.int 1
     rw [show (if (0+(b:Int)) < 0+(a:Int) then 0+(b:Int) else 0+(a:Int))=1 by split <;> omega])⟩)) ?_
   intro hc
   refine⟨_,rfl,.inl ⟨rfl,_,SqL.of e2⟩,_,rfl,_,rfl,_,rfl,_,_,rfl,rfl,_,_,rfl,⟨by omega,by omega,by omega,by omega⟩,by omega,fun p hp=>?_⟩
   rw [iH i a _ (by omega)]
   refine⟨_,rfl,_,rfl,_,rfl,_,_,rfl,rfl,_,_,rfl,⟨by omega,by omega,by omega,by omega⟩,by omega,fun q hq=>?_⟩
   rw [iH j b _ (by omega)]
   refine⟨smn 2,fun c hc'=>⟨smn 1,fun f hf=>?_⟩⟩
   have t1:=aq hp (.tup ((List.range' i a).map fun k=>V.int (k:Nat)))
   have t2:=aq hq (.tup ((List.range' j b).map fun k=>V.int (k:Nat)))
   have t3:=aq hc' (.tup [.ref p,.ref q])
   have t4:=aq hf (.tup [.ref c])
   have dn:=bK (H:=upd H2 p (.tup ((List.range' i a).map fun k=>V.int (k:Nat)))) (p:=p) (is:=List.range' i a) ak
   generalize upd H2 p (.tup ((List.range' i a).map fun k=>V.int (k:Nat)))=Ha at t1 t2 t3 t4 dn
   have dn2:=bK (H:=upd Ha q (.tup ((List.range' j b).map fun k=>V.int (k:Nat)))) (p:=q) (is:=List.range' j b) ak
   generalize upd Ha q (.tup ((List.range' j b).map fun k=>V.int (k:Nat)))=Hb at t2 t3 t4 dn2
   have dn3:Den (upd Hb c (.tup [.ref p,.ref q])) (.ref c) (lkD (List.range' i a,List.range' j b)):=⟨c,_,rfl,ak,dn.same (t2.trans t3),dn2.same t3,trivial⟩
   generalize upd Hb c (.tup [.ref p,.ref q])=Hc at t3 t4 dn3
   have dn4:Den (upd Hc f (.tup [.ref c])) (.ref f) (stD (one i j (a,b))):=⟨f,_,rfl,ak,dn3.same t4,trivial⟩
   generalize upd Hc f (.tup [.ref c])=Hd at t4 dn4
   have t:=((t1.trans t2).trans t3).trans t4
   have e5:=t _ _ e2
   have hf:BJ i j m n (a,b)=true:=Bool.and_eq_true_iff.mpr ⟨decide_eq_true ⟨by show i+a<=m;omega,by show j+b<=n;omega⟩,decide_eq_true hc⟩
   rw [if_pos hf] at hnx
   rw [hnx]
   exact⟨l,_,_,rfl,rfl,e5,aK (by omega),_,us++[.ref f],rfl,aU (s2.trans t) hl,ak,by rw [List.length_append,List.length_singleton];omega,bZ ((d2.same t).keepT (dh e5)) (dn4.keepT (dh e5))⟩
  ·rintro σ H2 ⟨v6,us,rfl,s2,e2,l2,d2⟩
   exact⟨_,_,us,rfl,s2,e2,by omega,d2⟩
 ·rintro σ H1 ⟨v5,v6,us,rfl,s1,e1,l1,d1⟩
  rw [show prs.take (4 * 4)=prs from rfl,Ib] at d1
  have k0:¬ (i+2<=m/\j+2<=n)->Q (.ref l) H1:=fun z=>k l us H1 s1 hl e1 (by unfold bw;rw [if_neg z,List.append_nil];exact d1)
  refine⟨_,rfl,_,_,rfl,rfl,_,rfl,_,_,rfl,rfl,_,rfl,?_⟩
  refine cU (fun z1=>?_) (fun z1=>oZ ⟨_,rfl,k0 fun q=>z1 (decide_eq_true (by have:=q.1;omega))⟩)
  have w1:=of_decide_eq_true z1
  refine⟨_,rfl,_,_,rfl,rfl,_,rfl,_,_,rfl,rfl,_,rfl,?_⟩
  refine cU (fun z2=>?_) (fun z2=>⟨_,rfl,k0 fun q=>z2 (decide_eq_true (by have:=q.2;omega))⟩)
  have w2:=of_decide_eq_true z2
  refine⟨_,rfl,.inl ⟨rfl,_,SqL.of e1⟩,_,rfl,smn 1,fun p1 hp1=>⟨_,rfl,_,_,rfl,rfl,smn 1,fun p2 hp2=>⟨smn 2,fun p3 hp3=>⟨_,rfl,_,_,rfl,rfl,smn 1,fun p4 hp4=>⟨_,rfl,smn 1,fun p5 hp5=>⟨smn 2,fun p6 hp6=>⟨smn 2,fun f hf=>?_⟩⟩⟩⟩⟩⟩⟩
  have t1:=aq hp1 (.tup [.int (i:Nat)])
  have t2:=aq hp2 (.tup [.int ((j:Nat)+1)])
  have t3:=aq hp3 (.tup [.ref p1,.ref p2])
  have t4:=aq hp4 (.tup [.int ((i:Nat)+1)])
  have t5:=aq hp5 (.tup [.int (j:Nat)])
  have t6:=aq hp6 (.tup [.ref p4,.ref p5])
  have t7:=aq hf (.tup [.ref p3,.ref p6])
  have q1:=bK (H:=upd H1 p1 (.tup [.int (i:Nat)])) (p:=p1) (is:=[i]) ak
  generalize upd H1 p1 (.tup [.int (i:Nat)])=Ha at t1 t2 t3 t4 t5 t6 t7 q1
  have q2:=bK (H:=upd Ha p2 (.tup [.int ((j:Nat)+1)])) (p:=p2) (is:=[j+1]) ak
  generalize upd Ha p2 (.tup [.int ((j:Nat)+1)])=Hb at t2 t3 t4 t5 t6 t7 q2
  have q3:Den (upd Hb p3 (.tup [.ref p1,.ref p2])) (.ref p3) (lkD ([i],[j+1])):=⟨p3,_,rfl,ak,q1.same (t2.trans t3),q2.same t3,trivial⟩
  generalize upd Hb p3 (.tup [.ref p1,.ref p2])=Hc at t3 t4 t5 t6 t7 q3
  have q4:=bK (H:=upd Hc p4 (.tup [.int ((i:Nat)+1)])) (p:=p4) (is:=[i+1]) ak
  generalize upd Hc p4 (.tup [.int ((i:Nat)+1)])=Hd at t4 t5 t6 t7 q4
  have q5:=bK (H:=upd Hd p5 (.tup [.int (j:Nat)])) (p:=p5) (is:=[j]) ak
  generalize upd Hd p5 (.tup [.int (j:Nat)])=He at t5 t6 t7 q5
  have q6:Den (upd He p6 (.tup [.ref p4,.ref p5])) (.ref p6) (lkD ([i+1],[j])):=⟨p6,_,rfl,ak,q4.same (t5.trans t6),q5.same t6,trivial⟩
  generalize upd He p6 (.tup [.ref p4,.ref p5])=Hf at t6 t7 q6
  have q7:Den (upd Hf f (.tup [.ref p3,.ref p6])) (.ref f) (stD (crs i j)):=⟨f,_,rfl,ak,q3.same (((t4.trans t5).trans t6).trans t7),q6.same t7,trivial⟩
  generalize upd Hf f (.tup [.ref p3,.ref p6])=Hg at t7 q7
  have t:=(((((t1.trans t2).trans t3).trans t4).trans t5).trans t6).trans t7
  have e5:=t _ _ e1
  refine⟨l,_,_,rfl,rfl,e5,aK (by omega),_,rfl,?_⟩
  refine k l (us++[.ref f]) _ (aU (s1.trans t) hl) hl ak ?_
  unfold bw
  rw [if_pos ⟨by omega,by omega⟩]
  exact bZ ((d1.same t).keepT (dh e5)) (q7.keepT (dh e5))
theorem Od:aQ ["_law_step_here","_law_i","_law_j"] ["_law_step_here","_law_i","_law_j"] (aB sOn):=⟨rfl,rfl,rfl,by decide +kernel,rfl,by decide +kernel,by decide +kernel⟩
theorem OD(h:Has K mg "_law_on" sOn ["_law_step_here","_law_i","_law_j"])(Px:mg "sum" = none)(Ph:mg "len" = none):Cal P w K mg base "_law_on" 1 ["_law_step_here","_law_i","_law_j"] Es:=by
 refine h.mk' Od (fun vs H Q E hs=>?_) (fun f cdv A outer s H vs Q E hr hs=>?_)
 ·obtain⟨v,s,i,j,rfl,_⟩:=hs
  rfl
 obtain⟨v,s,i,j,rfl,hv,hl2,k⟩:=hs
 refine⟨_,(aC (aV (aM (aj (aP bA (pv 1) (aJ (cR rfl) rfl Px boot_sum (aj (bD ["_law_step_here","_law_i","_law_j"] (aB sOn) ["_law_ones","_law_others"] [none,none] rfl rfl rfl (bQ (pv 0)) rfl (by decide +kernel) (by decide +kernel) (by decide +kernel) (by decide +kernel) (g:=rT K0 2 (dG (cP 0) (dG (cP 1) tG))) (hg:=fun cl C s H ex pn E=>bH (n:=2) rfl (aH (aD (i:=0) (by decide +kernel:(["_law_ones","_law_others"]:List Str).Nodup) rfl (Or.inl rfl) (Or.inr rfl)) (aH (aD (i:=1) (by decide +kernel:(["_law_ones","_law_others"]:List Str).Nodup) rfl (Or.inl rfl) (Or.inr rfl)) bI))) (ht:=fun cl C s H ex pn E=>bC) (he:=fun cl C s H ex pn E=>(aJ (dH (K:=K) rfl) rfl Ph PySem.boot_len (aj (pv 0) ao)))) ao))) (aj (aP bA (pv 2) (aJ (cR rfl) rfl Px boot_sum (aj (bD ["_law_step_here","_law_i","_law_j"] (aB sOn) ["_law_ones","_law_others"] [none,none] rfl rfl rfl (bQ (pv 0)) rfl (by decide +kernel) (by decide +kernel) (by decide +kernel) (by decide +kernel) (g:=rT K0 2 (dG (cP 0) (dG (cP 1) tG))) (hg:=fun cl C s H ex pn E=>bH (n:=2) rfl (aH (aD (i:=0) (by decide +kernel:(["_law_ones","_law_others"]:List Str).Nodup) rfl (Or.inl rfl) (Or.inr rfl)) (aH (aD (i:=1) (by decide +kernel:(["_law_ones","_law_others"]:List Str).Nodup) rfl (Or.inl rfl) (Or.inr rfl)) bI))) (ht:=fun cl C s H ex pn E=>bC) (he:=fun cl C s H ex pn E=>(aJ (dH (K:=K) rfl) rfl Ph PySem.boot_len (aj (pv 1) ao)))) ao))) ao))))),?_⟩
 obtain⟨q,ls,rfl,hq,dl⟩:=bO hv
 have hll:=dl.len
 rw [List.length_map] at hll
 have hcst:∀ f:Lk->Nat,(s.map fun p=>((f p:Nat):Int)).sum=(((s.map f).sum:Nat):Int):=fun f=>by
  clear hv hl2 k dl hll
  induction s with
  | nil=>rfl
  | cons p r ih =>
   rw [List.map_cons,List.sum_cons,List.map_cons,List.sum_cons,ih]
   exact (Int.natCast_add _ _).symm
 refine⟨_,rfl,_,rfl,q,rfl,⟨_,SqT.of hq⟩,fun l hl=>?_⟩
 refine bL (J:=Itt K0 q) (l:=l) s.length (fun i σ' H'=>∃ v0 v1:Option V,σ'=[v0,v1]/\Same H H'/\H' l=some (.lst (((s.take i).map fun p=>((p.1.length:Nat):Int)).map V.int))) ⟨none,none,rfl,aq hl _,ak⟩ ?_ ?_
 ·rintro σ' H1 ⟨v0,v1,rfl,s1,e1⟩
  rw [List.take_length] at e1
  refine⟨⟨_,SqT.of (s1 _ _ hq),by omega⟩,l,_,rfl,SqL.of e1,_,_,rfl,rfl,?_⟩
  rw [hcst fun p=>p.1.length]
  refine⟨_,rfl,_,rfl,q,rfl,⟨_,SqT.of (s1 _ _ hq)⟩,fun m hm=>?_⟩
  refine bL (J:=Itt K0 q) (l:=m) s.length (fun i σ' H'=>∃ v0 v1:Option V,σ'=[v0,v1]/\Same H1 H'/\H' m=some (.lst (((s.take i).map fun p=>((p.2.length:Nat):Int)).map V.int))) ⟨none,none,rfl,aq hm _,ak⟩ ?_ ?_
  ·rintro σ' H2 ⟨v0,v1,rfl,s2,e2⟩
   rw [List.take_length] at e2
   refine⟨⟨_,SqT.of (s2 _ _ (s1 _ _ hq)),by omega⟩,m,_,rfl,SqL.of e2,_,_,rfl,rfl,?_⟩
   rw [hcst fun p=>p.2.length]
   refine⟨smn 2,fun r hr=>?_⟩
   exact k r _ ((s1.trans s2).trans (aq hr _)) ak
  ·rintro x σ' H2 hx ⟨v0,v1,rfl,s2,e2⟩
   have hxl:x < ls.length:=by omega
   have hat:=aZ hxl
   refine⟨⟨_,_,SqT.of (s2 _ _ (s1 _ _ hq)),hat⟩,?_⟩
   rintro y H3 ⟨rfl,hy⟩
   have ey:y=ls[x]:=Option.some.inj ((hy _ (SqT.of (s2 _ _ (s1 _ _ hq)))).symm.trans hat)
   have dy:Den H y (lkD s[x]):=by rw [ey];exact at_of dl hat (by rw [List.getElem?_map,aZ hx];rfl)
   obtain⟨c,a,b,rfl,hc,ha,hb⟩:=jg (dy.same (s1.trans s2))
   refine⟨c,_,rfl,SqT.of hc,rfl,_,_,rfl,_,_,rfl,rfl,iM (eZ ?_)⟩
   refine⟨_,rfl,b,_,rfl,.inr (SqT.of hb),_,e2,?_,_,_,rfl,aU s2 hm,?_⟩
   ·rw [List.length_map,List.length_map,List.length_take]
    exact aK (by omega)
   ·rw [ak,take_one (aZ hx),List.map_append,List.map_append,List.length_map]
    rfl
 ·rintro x σ' H1 hx ⟨v0,v1,rfl,s1,e1⟩
  have hxl:x < ls.length:=by omega
  have hat:=aZ hxl
  refine⟨⟨_,_,SqT.of (s1 _ _ hq),hat⟩,?_⟩
  rintro y H3 ⟨rfl,hy⟩
  have ey:y=ls[x]:=Option.some.inj ((hy _ (SqT.of (s1 _ _ hq))).symm.trans hat)
  have dy:Den H y (lkD s[x]):=by rw [ey];exact at_of dl hat (by rw [List.getElem?_map,aZ hx];rfl)
  obtain⟨c,a,b,rfl,hc,ha,hb⟩:=jg (dy.same s1)
  refine⟨c,_,rfl,SqT.of hc,rfl,_,_,rfl,_,_,rfl,rfl,iM (eZ ?_)⟩
  refine⟨_,rfl,a,_,rfl,.inr (SqT.of ha),_,e1,?_,_,_,rfl,aU s1 hl,?_⟩
  ·rw [List.length_map,List.length_map,List.length_take]
   exact aK (by omega)
  ·rw [ak,take_one (aZ hx),List.map_append,List.map_append,List.length_map]
   rfl
end
noncomputable def Kv:List (Nat × Nat):=[(2,2),(2,3),(3,2),(3,3)]
noncomputable def Ky(i j m n:Nat)(p:Nat × Nat):Bool:=decide (i+p.1<=m/\j+p.2<=n)
noncomputable def mY(i j m n:Nat):List Stp:=(Kv.filter (Ky i j m n)).map (one i j)
noncomputable def j5(i j m n:Nat):List Stp:=if i+2<=m/\j+2<=n then [[([i],[j]),([i+1],[j+1])],[([i+1],[j]),([i],[j+1])]] else []
noncomputable def looseE(i j m n:Nat):List Stp:=if i+2<=m/\j < n then [[([i+1,i],[j])]] else []
noncomputable def jC(i j m n:Nat):List Stp:=mY i j m n++j5 i j m n++looseE i j m n
structure Hq(i j m n:Nat)(s:Stp):Prop where
 l1:1<=s.length
 l2:s.length<=2
 k:∀ l∈s,wW m n l
 a:i+sz1 s<=m
 b:j+sz2 s<=n
 p:1<=sz1 s+sz2 s
theorem pL{i j m n:Nat}{s:Stp}(h:s∈bw i j m n):Hq i j m n s:=⟨(cA h).1,(cA h).2.1,(cA h).2.2,(step_at h).1,(step_at h).2.1,(step_at h).2.2⟩
theorem wz{i j m n:Nat}{s:Stp}(h:s∈jC i j m n):Hq i j m n s:=by
 rcases List.mem_append.mp h with h | h
 ·rcases List.mem_append.mp h with h | h
  ·obtain⟨p,hp,rfl⟩:=List.mem_map.mp h
   obtain⟨hm,hc⟩:=List.mem_filter.mp hp
   have hc:i+p.1<=m/\j+p.2<=n:=of_decide_eq_true hc
   have h3:p.1<=3/\p.2<=3/\1<=p.1:=(by decide:∀ p∈Kv,p.1<=3/\p.2<=3/\1<=p.1) p hm
   have z1:sz1 (one i j p)=p.1:=by show (List.range' i p.1).length+0=_;rw [List.length_range'];omega
   have z2:sz2 (one i j p)=p.2:=by show (List.range' j p.2).length+0=_;rw [List.length_range'];omega
   refine⟨Nat.le_refl _,by show 1<=2;decide,fun l hl=>?_,by omega,by omega,by omega⟩
   rw [List.mem_singleton.mp hl]
   refine⟨fun k hk=>?_,fun k hk=>?_,by show (List.range' i p.1).length<=3;rw [List.length_range'];exact h3.1,by show (List.range' j p.2).length<=3;rw [List.length_range'];exact h3.2.1⟩
   ·obtain⟨t,ht,e⟩:=List.mem_range'.mp hk
    omega
   ·obtain⟨t,ht,e⟩:=List.mem_range'.mp hk
    omega
  ·unfold j5 at h
   split at h
   ·simp only [List.mem_cons,List.not_mem_nil,or_false] at h
    rcases h with rfl | rfl
    ·refine⟨by show 1<=2;decide,Nat.le_refl _,fun l hl=>?_,by show i+2<=m;omega,by show j+2<=n;omega,by show 1<=4;decide⟩
     simp only [List.mem_cons,List.not_mem_nil,or_false] at hl
     rcases hl with rfl | rfl
     ·exact⟨fun k hk=>by simp at hk;omega,fun k hk=>by simp at hk;omega,by simp,by simp⟩
     ·exact⟨fun k hk=>by simp at hk;omega,fun k hk=>by simp at hk;omega,by simp,by simp⟩
    ·refine⟨by show 1<=2;decide,Nat.le_refl _,fun l hl=>?_,by show i+2<=m;omega,by show j+2<=n;omega,by show 1<=4;decide⟩
     simp only [List.mem_cons,List.not_mem_nil,or_false] at hl
     rcases hl with rfl | rfl
     ·exact⟨fun k hk=>by simp at hk;omega,fun k hk=>by simp at hk;omega,by simp,by simp⟩
     ·exact⟨fun k hk=>by simp at hk;omega,fun k hk=>by simp at hk;omega,by simp,by simp⟩
   ·cases h
 ·unfold looseE at h
  split at h
  ·rw [List.mem_singleton.mp h]
   refine⟨Nat.le_refl _,by show 1<=2;decide,fun l hl=>?_,by show i+2<=m;omega,by show j+1<=n;omega,by show 1<=3;decide⟩
   rw [List.mem_singleton.mp hl]
   exact⟨fun k hk=>by simp at hk;omega,fun k hk=>by simp at hk;omega,by simp,by simp⟩
  ·cases h
noncomputable def z6:Sp:=fun vs H Q _=>∃ i j m n:Nat,vs=[.int (i:Nat),.int (j:Nat),.int (m:Nat),.int (n:Nat)]/\i<=m/\j<=n/\m<=900/\n<=900/\∀(l:Addr)(us:List V)(H':Hp),Same H H'->H l=none->H' l=some (.lst us)->cj H' us ((jC i j m n).map stD)->Q (.ref l) H'
theorem Kz{t u:TS}{D:Ends}{σ:L2.St}{H:Hp}(P:L2.St->Hp->Prop)(h1:∀ N:L2.St->Hp->Prop,(∀ σ' H',P σ' H'->N σ' H')->t { D with nx:=N } σ H)(h2:∀ σ' H',P σ' H'->u D σ' H'):KH t u D σ H:=h1 (u D) h2
theorem jB{H:Hp}:∀ {us:List V}{ds:List D}{vs:List V}{es:List D},cj H us ds->cj H vs es->cj H (us++vs) (ds++es)
 | [],[],_,_,_,h=>h
 | _ :: _,_ :: _,_,_,h,g=>⟨h.1,jB h.2 g⟩
 | [],_ :: _,_,_,h,_=>h.elim
 | _ :: _,[],_,_,h,_=>h.elim
theorem nxP{t u:TS}{D:Ends}{r:VK}{b c:L2.St->Hp->Prop}{σ:L2.St}{H:Hp}(P:L2.St->Hp->Prop)(h1:∀ N:L2.St->Hp->Prop,(∀ σ' H',P σ' H'->N σ' H')->t { D with nx:=N } σ H)(h2:∀ σ' H',P σ' H'->u D σ' H'):Ends.nx ⟨KH t u D,r,b,c⟩ σ H:=h1 (u D) h2
theorem Nf{H:Hp}{f p q:Addr}{a b:Lk}(h:H f=some (.tup [.ref p,.ref q]))(h1:Den H (.ref p) (lkD a))(h2:Den H (.ref q) (lkD b)):Den H (.ref f) (stD [a,b]):=⟨f,_,rfl,h,h1,h2,trivial⟩
theorem lQ{H:Hp}{f p q:Addr}{a b:List Nat}(h:H f=some (.tup [.ref p,.ref q]))(h1:Den H (.ref p) (nD a))(h2:Den H (.ref q) (nD b)):Den H (.ref f) (lkD (a,b)):=⟨f,_,rfl,h,h1,h2,trivial⟩
section
open M01
variable {P:Program}{w:World}{K:W.Frag}{mg:Str->Option Value}{base:Heap}
theorem pD:aQ ["_law_i","_law_j","_law_m","_law_n","_law_steps_here","_law_a","_law_b"] ["_law_i","_law_j","_law_m","_law_n"] (aB uO):=⟨rfl,rfl,rfl,by decide +kernel,rfl,by decide +kernel,by decide +kernel⟩
theorem Ie(h:Has K mg "_law_loose" uO ["_law_i","_law_j","_law_m","_law_n"])(Pb:mg "tuple" = none)(Pg:mg "range" = none):Cal P w K mg base "_law_loose" 1 ["_law_i","_law_j","_law_m","_law_n"] z6:=by
 refine h.mk' pD (fun vs H Q E hs=>?_) (fun f cdv A outer s H vs Q E hr hs=>?_)
 ·obtain⟨i,j,m,n,rfl,_⟩:=hs
  rfl
 obtain⟨i,j,m,n,rfl,him,hjn,hm,hn,k⟩:=hs
 refine qex ⟨_,(cL ⟨(aR (i:=4) pD.nd rfl (Or.inl rfl) (cQ ao))⟩
  (cL ⟨(cG PassesOwn.never rfl (bQ (aM (aj (aM (aj aA (aj aA ao))) (aj (aM (aj aA (aj aA ao))) (aj (aM (aj aA (aj aA ao))) (aj (aM (aj aA (aj aA ao))) ao)))))) (bH (n:=2) rfl (aH (aD (i:=5) pD.nd rfl (Or.inl rfl)) (aH (aD (i:=6) pD.nd rfl (Or.inl rfl)) bI)))
   (aC (cD (PW.pt (iz (aW jK (aP bA (pv 0) (pv 5)) (pv 2) (bB _)) (fV (aW jK (aP bA (pv 1) (pv 6)) (pv 3) (bB _)))))
   (aC (cI (cZ PySem.F.plainAttrs_list PySem.F.slot_list_append PySem.F.type_list_append bN (pv 4) (aj (aM (aj (aM (aj (jO rfl rfl Pb rfl Pg (aj (pv 0) (aj (aP bA (pv 0) (pv 5)) ao))) (aj (jO rfl rfl Pb rfl Pg (aj (pv 1) (aj (aP bA (pv 1) (pv 6)) ao))) ao))) ao)) ao))))
   bF)))⟩
  (cL ⟨(cD (PW.pt (iz (aW jK (aP bA (pv 0) aA) (pv 2) (bB _)) (fV (aW jK (aP bA (pv 1) aA) (pv 3) (bB _)))))
   (au (cI (cZ PySem.F.plainAttrs_list PySem.F.slot_list_append PySem.F.type_list_append bN (pv 4) (aj (aM (aj (aM (aj (aM (aj (pv 0) ao)) (aj (aM (aj (pv 1) ao)) ao))) (aj (aM (aj (aM (aj (aP bA (pv 0) aA) ao)) (aj (aM (aj (aP bA (pv 1) aA) ao)) ao))) ao))) ao)))
  (aC (cI (cZ PySem.F.plainAttrs_list PySem.F.slot_list_append PySem.F.type_list_append bN (pv 4) (aj (aM (aj (aM (aj (aM (aj (aP bA (pv 0) aA) ao)) (aj (aM (aj (pv 1) ao)) ao))) (aj (aM (aj (aM (aj (pv 0) ao)) (aj (aM (aj (aP bA (pv 1) aA) ao)) ao))) ao))) ao)))))
   bF)⟩
  (cL ⟨(cD (PW.pt (iz (aW jK (aP bA (pv 0) aA) (pv 2) (bB _)) (fV (aW Cu (pv 1) (pv 3) (bB _)))))
   (aC (cI (cZ PySem.F.plainAttrs_list PySem.F.slot_list_append PySem.F.type_list_append bN (pv 4) (aj (aM (aj (aM (aj (aM (aj (aP bA (pv 0) aA) (aj (pv 0) ao))) (aj (aM (aj (pv 1) ao)) ao))) ao)) ao))))
   bF)⟩
  (xq ⟨(aV (pv 4))⟩))))),?_⟩
 refine⟨smn 0,fun l hl=>?_⟩
 have s0:=aq hl (.lst [])
 have e0:(upd H l (.lst [])) l=some (.lst []):=ak
 generalize upd H l (.lst [])=H0 at s0 e0 ⊢
 refine gN ?_
 refine⟨smn 2,fun a1 h1=>⟨smn 2,fun a2 h2=>⟨smn 2,fun a3 h3=>⟨smn 2,fun a4 h4=>⟨smn 4,fun a5 h5=>?_⟩⟩⟩⟩⟩
 have s1:=aq h1 (.tup [.int 2,.int 2])
 have e1:(upd H0 a1 (.tup [.int 2,.int 2])) a1=some (.tup [.int 2,.int 2]):=ak
 generalize upd H0 a1 (.tup [.int 2,.int 2])=H1 at *
 have s2:=aq h2 (.tup [.int 2,.int 3])
 have e2:(upd H1 a2 (.tup [.int 2,.int 3])) a2=some (.tup [.int 2,.int 3]):=ak
 generalize upd H1 a2 (.tup [.int 2,.int 3])=H2 at *
 have s3:=aq h3 (.tup [.int 3,.int 2])
 have e3:(upd H2 a3 (.tup [.int 3,.int 2])) a3=some (.tup [.int 3,.int 2]):=ak
 generalize upd H2 a3 (.tup [.int 3,.int 2])=H3 at *
 have s4:=aq h4 (.tup [.int 3,.int 3])
 have e4:(upd H3 a4 (.tup [.int 3,.int 3])) a4=some (.tup [.int 3,.int 3]):=ak
 generalize upd H3 a4 (.tup [.int 3,.int 3])=H4 at *
 have s5:=aq h5 (.tup [.ref a1,.ref a2,.ref a3,.ref a4])
 have e5:(upd H4 a5 (.tup [.ref a1,.ref a2,.ref a3,.ref a4])) a5=some (.tup [.ref a1,.ref a2,.ref a3,.ref a4]):=ak
 generalize upd H4 a5 (.tup [.ref a1,.ref a2,.ref a3,.ref a4])=H5 at *
 have hpr:∀(x:Nat)(y:V),[V.ref a1,.ref a2,.ref a3,.ref a4][x]?=some y->∃(q:Addr)(p:Nat × Nat),y=.ref q/\Kv[x]?=some p/\H5 q=some (.tup [.int (p.1:Nat),.int (p.2:Nat)])/\p.1<=3/\p.2<=3:=fun x y h=>by
  match x,h with
  | 0,h=>exact⟨a1,(2,2),(Option.some.inj h).symm,rfl,(((s2.trans s3).trans s4).trans s5) _ _ e1,by decide,by decide⟩
  | 1,h=>exact⟨a2,(2,3),(Option.some.inj h).symm,rfl,((s3.trans s4).trans s5) _ _ e2,by decide,by decide⟩
  | 2,h=>exact⟨a3,(3,2),(Option.some.inj h).symm,rfl,(s4.trans s5) _ _ e3,by decide,by decide⟩
  | 3,h=>exact⟨a4,(3,3),(Option.some.inj h).symm,rfl,s5 _ _ e4,by decide,by decide⟩
 have s05:=(((s0.trans s1).trans s2).trans s3).trans (s4.trans s5)
 have el:=(((s1.trans s2).trans s3).trans (s4.trans s5)) _ _ e0
 clear e1 e2 e3 e4 e0 s1 s2 s3 s4 s5
 refine⟨a5,rfl,⟨_,SqT.of e5⟩,?_⟩
 refine gR (K:=K0) (a:=a5) (xs:=[.ref a1,.ref a2,.ref a3,.ref a4]) (fun x σ H6=>∃(v5 v6:Option V)(us:List V),σ=[some (.int (i:Nat)),some (.int (j:Nat)),some (.int (m:Nat)),some (.int (n:Nat)),some (.ref l),v5,v6]/\Same H H6/\(∀(c:Addr)(vs:List V),H5 c=some (.tup vs)->H6 c=some (.tup vs))/\H6 l=some (.lst us)/\us.length<=x/\cj H6 us ((((Kv.take x).filter (Ky i j m n)).map (one i j)).map stD)) ⟨_,_,[],rfl,s05,fun _ _ h=>h,el,Nat.le_refl _,trivial⟩ ?_ ?_ ?_
 ·rintro x σ H6 _ ⟨_,_,_,_,_,kt,_⟩
  exact SqT.of (kt _ _ e5)
 ·rintro x y σ H6 hx ⟨v5,v6,us,rfl,s6,kt,e6,l6,d6⟩
  obtain⟨q,p,rfl,hp,hq,p1,p2⟩:=hpr x y hx
  have hxl:x < 4:=(List.getElem?_eq_some_iff.mp hx).1
  refine⟨q,_,rfl,SqT.of (kt _ _ hq),rfl,_,_,rfl,_,_,rfl,rfl,?_⟩
  have hno:¬ (i+p.1<=m/\j+p.2<=n)->cj H6 us ((((Kv.take (x+1)).filter (Ky i j m n)).map (one i j)).map stD):=fun z=>by
   rw [take_one hp,List.filter_append,List.filter_cons_of_neg (by intro q;exact z (of_decide_eq_true q)),List.filter_nil,List.append_nil]
   exact d6
  refine⟨_,rfl,_,rfl,_,_,rfl,rfl,_,rfl,_,_,rfl,rfl,_,rfl,?_⟩
  refine cU (fun z1=>?_) (fun z1=>⟨_,_,us,rfl,s6,kt,e6,by omega,hno fun q=>z1 (decide_eq_true (by have:=q.1;omega))⟩)
  have w1:=of_decide_eq_true z1
  refine⟨_,rfl,_,rfl,_,_,rfl,rfl,_,rfl,_,_,rfl,rfl,_,rfl,?_⟩
  refine cU (fun z2=>?_) (fun z2=>⟨_,_,us,rfl,s6,kt,e6,by omega,hno fun q=>z2 (decide_eq_true (by have:=q.2;omega))⟩)
  have w2:=of_decide_eq_true z2
  refine⟨_,rfl,.inl ⟨rfl,_,SqL.of e6⟩,_,rfl,_,rfl,_,rfl,_,_,rfl,rfl,_,_,rfl,⟨by omega,by omega,by omega,by omega⟩,by omega,fun b1 hb1=>?_⟩
  rw [iH i p.1 _ (by omega)]
  refine⟨_,rfl,_,rfl,_,rfl,_,_,rfl,rfl,_,_,rfl,⟨by omega,by omega,by omega,by omega⟩,by omega,fun b2 hb2=>?_⟩
  rw [iH j p.2 _ (by omega)]
  refine⟨smn 2,fun c hc'=>⟨smn 1,fun f hf=>?_⟩⟩
  have t1:=aq hb1 (.tup ((List.range' i p.1).map fun k=>V.int (k:Nat)))
  have e1:(upd H6 b1 (.tup ((List.range' i p.1).map fun k=>V.int (k:Nat)))) b1=some (.tup ((List.range' i p.1).map fun k=>V.int (k:Nat))):=ak
  generalize upd H6 b1 (.tup ((List.range' i p.1).map fun k=>V.int (k:Nat)))=Ha at *
  have t2:=aq hb2 (.tup ((List.range' j p.2).map fun k=>V.int (k:Nat)))
  have e2:(upd Ha b2 (.tup ((List.range' j p.2).map fun k=>V.int (k:Nat)))) b2=some (.tup ((List.range' j p.2).map fun k=>V.int (k:Nat))):=ak
  generalize upd Ha b2 (.tup ((List.range' j p.2).map fun k=>V.int (k:Nat)))=Hb at *
  have t3:=aq hc' (.tup [.ref b1,.ref b2])
  have e3:(upd Hb c (.tup [.ref b1,.ref b2])) c=some (.tup [.ref b1,.ref b2]):=ak
  generalize upd Hb c (.tup [.ref b1,.ref b2])=Hc at *
  have t4:=aq hf (.tup [.ref c])
  have e4:(upd Hc f (.tup [.ref c])) f=some (.tup [.ref c]):=ak
  generalize upd Hc f (.tup [.ref c])=Hd at *
  have dn:Den Hd (.ref f) (stD (one i j p)):=⟨f,_,rfl,e4,(lQ e3 (bK ((t2.trans t3) _ _ e1)) (bK (t3 _ _ e2))).same t4,trivial⟩
  have t:=((t1.trans t2).trans t3).trans t4
  have e7:=t _ _ e6
  refine⟨l,_,_,rfl,rfl,e7,aK (by omega),_,_,us++[.ref f],rfl,aU (s6.trans t) hl,fun c vs h=>dh e7 _ _ (t _ _ (kt _ _ h)),ak,by rw [List.length_append,List.length_singleton];omega,?_⟩
  rw [take_one hp,List.filter_append,List.filter_cons_of_pos (p:=Ky i j m n) (decide_eq_true ⟨by omega,by omega⟩),List.filter_nil,List.map_append]
  exact bZ ((d6.same t).keepT (dh e7)) (dn.keepT (dh e7))
 rintro σ H6 ⟨v5,v6,us,rfl,s6,kt,e6,l6,d6⟩
 clear hpr kt e5 el s05
 replace d6:cj H6 us ((mY i j m n).map stD):=d6
 replace l6:us.length<=4:=l6
 refine nxP (fun σ H'=>∃ us:List V,σ=[some (.int (i:Nat)),some (.int (j:Nat)),some (.int (m:Nat)),some (.int (n:Nat)),some (.ref l),v5,v6]/\Same H H'/\H' l=some (.lst us)/\us.length<=6/\cj H' us ((mY i j m n++j5 i j m n).map stD)) (fun N hN=>?_) ?_
 ·have k0:¬ (i+2<=m/\j+2<=n)->cj H6 us ((mY i j m n++j5 i j m n).map stD):=fun z=>by
   unfold j5
   rw [if_neg z,List.append_nil]
   exact d6
  refine⟨_,rfl,_,_,rfl,rfl,_,rfl,_,_,rfl,rfl,_,rfl,?_⟩
  refine cU (fun z1=>?_) (fun z1=>hN _ _ ⟨us,rfl,s6,e6,by omega,k0 fun q=>z1 (decide_eq_true (by have:=q.1;omega))⟩)
  have w1:=of_decide_eq_true z1
  refine⟨_,rfl,_,_,rfl,rfl,_,rfl,_,_,rfl,rfl,_,rfl,?_⟩
  refine cU (fun z2=>?_) (fun z2=>hN _ _ ⟨us,rfl,s6,e6,by omega,k0 fun q=>z2 (decide_eq_true (by have:=q.2;omega))⟩)
  have w2:=of_decide_eq_true z2
  refine⟨_,rfl,.inl ⟨rfl,_,SqL.of e6⟩,_,rfl,smn 1,fun p1 hp1=>⟨_,rfl,smn 1,fun p2 hp2=>⟨smn 2,fun p3 hp3=>⟨_,rfl,_,_,rfl,rfl,smn 1,fun p4 hp4=>⟨_,rfl,_,_,rfl,rfl,smn 1,fun p5 hp5=>⟨smn 2,fun p6 hp6=>⟨smn 2,fun f hf=>?_⟩⟩⟩⟩⟩⟩⟩
  have t1:=aq hp1 (.tup [.int (i:Nat)])
  have f1:(upd H6 p1 (.tup [.int (i:Nat)])) p1=some (.tup [.int (i:Nat)]):=ak
  generalize upd H6 p1 (.tup [.int (i:Nat)])=Ha at *
  have t2:=aq hp2 (.tup [.int (j:Nat)])
  have f2:(upd Ha p2 (.tup [.int (j:Nat)])) p2=some (.tup [.int (j:Nat)]):=ak
  generalize upd Ha p2 (.tup [.int (j:Nat)])=Hb at *
  have t3:=aq hp3 (.tup [.ref p1,.ref p2])
  have f3:(upd Hb p3 (.tup [.ref p1,.ref p2])) p3=some (.tup [.ref p1,.ref p2]):=ak
  generalize upd Hb p3 (.tup [.ref p1,.ref p2])=Hc at *
  have t4:=aq hp4 (.tup [.int ((i:Nat)+1)])
  have f4:(upd Hc p4 (.tup [.int ((i:Nat)+1)])) p4=some (.tup [.int ((i:Nat)+1)]):=ak
  generalize upd Hc p4 (.tup [.int ((i:Nat)+1)])=Hd at *
  have t5:=aq hp5 (.tup [.int ((j:Nat)+1)])
  have f5:(upd Hd p5 (.tup [.int ((j:Nat)+1)])) p5=some (.tup [.int ((j:Nat)+1)]):=ak
  generalize upd Hd p5 (.tup [.int ((j:Nat)+1)])=He at *
  have t6:=aq hp6 (.tup [.ref p4,.ref p5])
  have f6:(upd He p6 (.tup [.ref p4,.ref p5])) p6=some (.tup [.ref p4,.ref p5]):=ak
  generalize upd He p6 (.tup [.ref p4,.ref p5])=Hf at *
  have t7:=aq hf (.tup [.ref p3,.ref p6])
  have f7:(upd Hf f (.tup [.ref p3,.ref p6])) f=some (.tup [.ref p3,.ref p6]):=ak
  generalize upd Hf f (.tup [.ref p3,.ref p6])=Hg at *
  have q3:=lQ f3 (bK (is:=[i]) ((t2.trans t3) _ _ f1)) (bK (is:=[j]) (t3 _ _ f2))
  have q6:=lQ f6 (bK (is:=[i+1]) ((t5.trans t6) _ _ f4)) (bK (is:=[j+1]) (t6 _ _ f5))
  have q7:=Nf f7 (q3.same (((t4.trans t5).trans t6).trans t7)) (q6.same t7)
  have t:=(((((t1.trans t2).trans t3).trans t4).trans t5).trans t6).trans t7
  have e7:=t _ _ e6
  refine⟨l,_,_,rfl,rfl,e7,aK (by omega),?_⟩
  have d7:=bZ ((d6.same t).keepT (dh e7)) (q7.keepT (dh (ws:=us++[.ref f]) e7))
  have s7:=aU (o:=.lst (us++[.ref f])) (s6.trans t) hl
  have e8:(upd Hg l (.lst (us++[.ref f]))) l=some (.lst (us++[.ref f])):=ak
  generalize upd Hg l (.lst (us++[.ref f]))=H7 at d7 s7 e8 ⊢
  clear t1 t2 t3 t4 t5 t6 t7 t f1 f2 f3 f4 f5 f6 f7 q3 q6 q7 e7
  refine⟨_,rfl,.inl ⟨rfl,_,SqL.of e8⟩,_,rfl,_,_,rfl,rfl,smn 1,fun p1 hp1=>⟨_,rfl,smn 1,fun p2 hp2=>⟨smn 2,fun p3 hp3=>⟨_,rfl,smn 1,fun p4 hp4=>⟨_,rfl,_,_,rfl,rfl,smn 1,fun p5 hp5=>⟨smn 2,fun p6 hp6=>⟨smn 2,fun f' hf=>?_⟩⟩⟩⟩⟩⟩⟩
  have t1:=aq hp1 (.tup [.int ((i:Nat)+1)])
  have f1:(upd H7 p1 (.tup [.int ((i:Nat)+1)])) p1=some (.tup [.int ((i:Nat)+1)]):=ak
  generalize upd H7 p1 (.tup [.int ((i:Nat)+1)])=Ha at *
  have t2:=aq hp2 (.tup [.int (j:Nat)])
  have f2:(upd Ha p2 (.tup [.int (j:Nat)])) p2=some (.tup [.int (j:Nat)]):=ak
  generalize upd Ha p2 (.tup [.int (j:Nat)])=Hb at *
  have t3:=aq hp3 (.tup [.ref p1,.ref p2])
  have f3:(upd Hb p3 (.tup [.ref p1,.ref p2])) p3=some (.tup [.ref p1,.ref p2]):=ak
  generalize upd Hb p3 (.tup [.ref p1,.ref p2])=Hc at *
  have t4:=aq hp4 (.tup [.int (i:Nat)])
  have f4:(upd Hc p4 (.tup [.int (i:Nat)])) p4=some (.tup [.int (i:Nat)]):=ak
  generalize upd Hc p4 (.tup [.int (i:Nat)])=Hd at *
  have t5:=aq hp5 (.tup [.int ((j:Nat)+1)])
  have f5:(upd Hd p5 (.tup [.int ((j:Nat)+1)])) p5=some (.tup [.int ((j:Nat)+1)]):=ak
  generalize upd Hd p5 (.tup [.int ((j:Nat)+1)])=He at *
  have t6:=aq hp6 (.tup [.ref p4,.ref p5])
  have f6:(upd He p6 (.tup [.ref p4,.ref p5])) p6=some (.tup [.ref p4,.ref p5]):=ak
  generalize upd He p6 (.tup [.ref p4,.ref p5])=Hf at *
  have t7:=aq hf (.tup [.ref p3,.ref p6])
  have f7:(upd Hf f' (.tup [.ref p3,.ref p6])) f'=some (.tup [.ref p3,.ref p6]):=ak
  generalize upd Hf f' (.tup [.ref p3,.ref p6])=Hg at *
  have q3:=lQ f3 (bK (is:=[i+1]) ((t2.trans t3) _ _ f1)) (bK (is:=[j]) (t3 _ _ f2))
  have q6:=lQ f6 (bK (is:=[i]) ((t5.trans t6) _ _ f4)) (bK (is:=[j+1]) (t6 _ _ f5))
  have q7:=Nf f7 (q3.same (((t4.trans t5).trans t6).trans t7)) (q6.same t7)
  have t:=(((((t1.trans t2).trans t3).trans t4).trans t5).trans t6).trans t7
  have e7:=t _ _ e8
  refine⟨l,_,_,rfl,rfl,e7,aK (by rw [List.length_append,List.length_singleton];omega),hN _ _ ⟨us++[.ref f]++[.ref f'],rfl,aU (s7.trans t) hl,ak,by rw [List.length_append,List.length_append,List.length_singleton,List.length_singleton];omega,?_⟩⟩
  have d8:=bZ ((d7.same t).keepT (dh e7)) (q7.keepT (dh (ws:=us++[.ref f]++[.ref f']) e7))
  unfold j5
  rw [if_pos ⟨by omega,by omega⟩,(by simp:∀(L:List Stp)(x y:Stp),L++[x,y]=L++[x]++[y])]
  exact d8
 clear d6 e6 l6 s6 us
 rintro σ H6 ⟨us,rfl,s6,e6,l6,d6⟩
 have k0:¬ (i+2<=m/\j < n)->Q (.ref l) H6:=fun z=>k l us H6 s6 hl e6 (by unfold jC looseE;rw [if_neg z,List.append_nil];exact d6)
 refine⟨_,rfl,_,_,rfl,rfl,_,rfl,_,_,rfl,rfl,_,rfl,?_⟩
 refine cU (fun z1=>?_) (fun z1=>⟨_,rfl,k0 fun q=>z1 (decide_eq_true (by have:=q.1;omega))⟩)
 have w1:=of_decide_eq_true z1
 refine⟨_,rfl,_,rfl,_,_,rfl,rfl,_,rfl,?_⟩
 refine cU (fun z2=>?_) (fun z2=>⟨_,rfl,k0 fun q=>z2 (decide_eq_true (by have:=q.2;omega))⟩)
 have w2:=of_decide_eq_true z2
 refine⟨_,rfl,.inl ⟨rfl,_,SqL.of e6⟩,_,rfl,_,_,rfl,rfl,_,rfl,smn 2,fun p1 hp1=>⟨_,rfl,smn 1,fun p2 hp2=>⟨smn 2,fun p3 hp3=>⟨smn 1,fun f hf=>?_⟩⟩⟩⟩
 have t1:=aq hp1 (.tup [.int ((i:Nat)+1),.int (i:Nat)])
 have f1:(upd H6 p1 (.tup [.int ((i:Nat)+1),.int (i:Nat)])) p1=some (.tup [.int ((i:Nat)+1),.int (i:Nat)]):=ak
 generalize upd H6 p1 (.tup [.int ((i:Nat)+1),.int (i:Nat)])=Ha at *
 have t2:=aq hp2 (.tup [.int (j:Nat)])
 have f2:(upd Ha p2 (.tup [.int (j:Nat)])) p2=some (.tup [.int (j:Nat)]):=ak
 generalize upd Ha p2 (.tup [.int (j:Nat)])=Hb at *
 have t3:=aq hp3 (.tup [.ref p1,.ref p2])
 have f3:(upd Hb p3 (.tup [.ref p1,.ref p2])) p3=some (.tup [.ref p1,.ref p2]):=ak
 generalize upd Hb p3 (.tup [.ref p1,.ref p2])=Hc at *
 have t4:=aq hf (.tup [.ref p3])
 have f4:(upd Hc f (.tup [.ref p3])) f=some (.tup [.ref p3]):=ak
 generalize upd Hc f (.tup [.ref p3])=Hd at *
 have q3:=lQ f3 (bK (is:=[i+1,i]) ((t2.trans t3) _ _ f1)) (bK (is:=[j]) (t3 _ _ f2))
 have q7:Den Hd (.ref f) (stD [([i+1,i],[j])]):=⟨f,_,rfl,f4,q3.same t4,trivial⟩
 have t:=((t1.trans t2).trans t3).trans t4
 have e7:=t _ _ e6
 refine⟨l,_,_,rfl,rfl,e7,aK (by omega),_,rfl,k l (us++[.ref f]) _ (aU (s6.trans t) hl) hl ak ?_⟩
 unfold jC looseE
 rw [if_pos ⟨by omega,by omega⟩]
 exact bZ ((d6.same t).keepT (dh e7)) (q7.keepT (dh e7))
end
noncomputable def SF:Bool->Nat->Nat->Nat->Nat->List Stp
 | true,i,j,m,n=>jC i j m n++bw i j m n
 | false,i,j,m,n=>bw i j m n
theorem jM{fl:Bool}{i j m n:Nat}{s:Stp}(h:s∈SF fl i j m n):Hq i j m n s:=by
 cases fl with
 | false=>exact pL h
 | true =>
  rcases List.mem_append.mp h with h | h
  ·exact wz h
  ·exact pL h
theorem Hj{fl:Bool}{i j m n:Nat}{s:Stp}(h:s∈SF fl i j m n):i+sz1 s<=m/\j+sz2 s<=n/\1<=sz1 s+sz2 s:=⟨(jM h).a,(jM h).b,(jM h).p⟩
theorem uI{fl:Bool}{i j m n:Nat}{s:Stp}(h:s∈SF fl i j m n):1<=s.length/\s.length<=2/\∀ l∈s,wW m n l:=⟨(jM h).l1,(jM h).l2,(jM h).k⟩
theorem qZ(i j m n:Nat):(jC i j m n).length<=7:=by
 have h1:(mY i j m n).length<=4:=by
  unfold mY
  rw [List.length_map]
  exact List.length_filter_le _ _
 have h2:(j5 i j m n).length<=2:=by
  unfold j5
  split
  ·exact Nat.le_refl _
  ·exact Nat.zero_le _
 have h3:(looseE i j m n).length<=1:=by
  unfold looseE
  split
  ·exact Nat.le_refl _
  ·exact Nat.zero_le _
 unfold jC
 rw [List.length_append,List.length_append]
 omega
theorem xr(fl:Bool)(i j m n:Nat):(SF fl i j m n).length<=15:=by
 have:=ig i j m n
 cases fl with
 | false=>show (bw i j m n).length<=15;omega
 | true =>
  have:=qZ i j m n
  show (jC i j m n++bw i j m n).length<=15
  rw [List.length_append]
  omega
variable {fl:Bool}
noncomputable abbrev Grd:=Nat->Nat->Int
noncomputable def fZ(c:Stp->Int)(G:Grd)(i j:Nat)(s:Stp):Int:=c s+G (i+sz1 s) (j+sz2 s)
noncomputable def rQ(G:Grd)(i j:Nat)(v:Int):Grd:=fun a b=>if a=i/\b=j then v else G a b
theorem jd(G:Grd)(i j:Nat)(v:Int):rQ G i j v i j=v:=if_pos ⟨rfl,rfl⟩
theorem fY{G:Grd}{i j a b:Nat}{v:Int}(h:¬ (a=i/\b=j)):rQ G i j v a b=G a b:=if_neg h
theorem iD{c:Stp->Int}{G:Grd}{i j a b m n:Nat}{v:Int}{s:Stp}(hs:s∈SF fl a b m n)(h:a=i/\b=j\/Behind i j a b):fZ c (rQ G i j v) a b s=fZ c G a b s:=by
 have:=Hj hs
 unfold fZ
 rw [fY]
 rintro ⟨h1,h2⟩
 rcases h with ⟨rfl,rfl⟩ | h | ⟨rfl,h⟩
 ·omega
 ·omega
 ·omega
theorem mZ{i j a b:Nat}(h:Behind i j a b):¬ (a=i/\b=j):=fun z=>by rcases h with h | ⟨_,h⟩ <;> omega
structure kj(fl:Bool)(m n:Nat)(c:Stp->Int)(S:Nat->Nat->Prop)(G:Grd):Prop where
 nil:∀ a b,a<=m->b<=n->S a b->SF fl a b m n=[]->G a b=0
 cons:∀ a b,a<=m->b<=n->S a b->SF fl a b m n≠[]->∃ s∈SF fl a b m n,G a b=fZ c G a b s/\∀ s'∈SF fl a b m n,G a b<=fZ c G a b s'
 out:∀ a b,a<=m->b<=n->¬ S a b->G a b=0
theorem kj.mono{m n:Nat}{c:Stp->Int}{S T:Nat->Nat->Prop}{G:Grd}(h:kj fl m n c S G)(hT:∀ a b,a<=m->b<=n->(T a b↔S a b)):kj fl m n c T G :=
 ⟨fun a b ha hb t=>h.nil a b ha hb ((hT a b ha hb).mp t),fun a b ha hb t=>h.cons a b ha hb ((hT a b ha hb).mp t),fun a b ha hb t=>h.out a b ha hb fun z=>t ((hT a b ha hb).mpr z)⟩
theorem kj.put{m n:Nat}{c:Stp->Int}{G:Grd}{i j:Nat}{v:Int}(h:kj fl m n c (Behind i j) G)(h0:SF fl i j m n=[]->v=0)(h1:SF fl i j m n≠[]->∃ s∈SF fl i j m n,v=fZ c G i j s/\∀ s'∈SF fl i j m n,v<=fZ c G i j s'):kj fl m n c (fun a b=>a=i/\b=j\/Behind i j a b) (rQ G i j v):=by
 refine⟨fun a b ha hb hS z=>?_,fun a b ha hb hS z=>?_,fun a b ha hb hS=>?_⟩
 ·rcases hS with ⟨rfl,rfl⟩ | hS
  ·rw [jd,h0 z]
  ·rw [fY (mZ hS)]
   exact h.nil a b ha hb hS z
 ·rcases hS with ⟨rfl,rfl⟩ | hS
  ·obtain⟨s,hs,e1,e2⟩:=h1 z
   refine⟨s,hs,by rw [jd,iD hs (.inl ⟨rfl,rfl⟩)];exact e1,fun s' hs'=>?_⟩
   rw [jd,iD hs' (.inl ⟨rfl,rfl⟩)]
   exact e2 s' hs'
  ·obtain⟨s,hs,e1,e2⟩:=h.cons a b ha hb hS z
   refine⟨s,hs,by rw [fY (mZ hS),iD hs (.inr hS)];exact e1,fun s' hs'=>?_⟩
   rw [fY (mZ hS),iD hs' (.inr hS)]
   exact e2 s' hs'
 ·rw [fY fun z=>hS (.inl z)]
  exact h.out a b ha hb fun z=>hS (.inr z)
noncomputable def ni(fl:Bool)(c:Stp->Int)(G:Grd)(i j m n:Nat):List Stp:=(SF fl i j m n).filter fun s=>decide (fZ c G i j s=G i j)
theorem wJ{c:Stp->Int}{G:Grd}{i j a b m n:Nat}{v:Int}(h:Behind i j a b):ni fl c (rQ G i j v) a b m n=ni fl c G a b m n:=by
 unfold ni
 refine List.filter_congr fun s hs=>?_
 rw [iD hs (.inr h),fY (mZ h)]
theorem wC{c:Stp->Int}{G:Grd}{i j m n:Nat}{v:Int}:ni fl c (rQ G i j v) i j m n=(SF fl i j m n).filter fun s=>decide (fZ c G i j s=v):=by
 unfold ni
 refine List.filter_congr fun s hs=>?_
 rw [iD hs (.inl ⟨rfl,rfl⟩),jd]
theorem yJ{G:Grd}{i j n:Nat}(v:Int)(hj:j<=n):(((List.range (n+1)).map (G i)).map V.int).set j (.int v)=((List.range (n+1)).map (rQ G i j v i)).map V.int:=by
 refine List.ext_getElem? fun k=>?_
 rw [List.getElem?_set]
 split
 ·rename_i e
  subst e
  rw [if_pos (by rw [List.length_map,List.length_map,List.length_range];omega),List.getElem?_map,List.getElem?_map,List.getElem?_range (by omega)]
  show some (V.int v)=some (V.int (rQ G i j v i j))
  rw [jd]
 ·rename_i e
  rw [List.getElem?_map,List.getElem?_map,List.getElem?_map,List.getElem?_map]
  rcases Nat.lt_or_ge k (n+1) with h | h
  ·rw [List.getElem?_range h]
   show some (V.int (G i k))=some (V.int (rQ G i j v i k))
   rw [fY fun z=>e z.2.symm]
  ·rw [List.getElem?_eq_none (by rw [List.length_range];exact h)]
   rfl
theorem sE{n j:Nat}(h:j < n):ixN n ((j:Nat):Int)=some j:=by
 unfold ixN
 rw [if_pos (by omega),if_pos (by omega)]
 rfl
theorem j7{g ra:Addr}{ras:List Addr}(h:g ∉ ras)(m:ra∈ras):g≠ra:=fun z=>h (by rw [z];exact m)
structure m8(H:Hp)(g:Addr)(m n:Nat)(G:Grd)(ras:List Addr):Prop where
 e:H g=some (.lst (ras.map V.ref))
 l:ras.length=m+1
 nd:ras.Nodup
 ng:g ∉ ras
 r:∀(i:Nat)(ra:Addr),ras[i]?=some ra->H ra=some (.lst (((List.range (n+1)).map (G i)).map V.int))
theorem m8.same{H H':Hp}{g:Addr}{m n:Nat}{G:Grd}{ras:List Addr}(h:m8 H g m n G ras)(s:Same H H'):m8 H' g m n G ras:=⟨s _ _ h.e,h.l,h.nd,h.ng,fun i ra hi=>s _ _ (h.r i ra hi)⟩
theorem m8.old{H H':Hp}{g b:Addr}{m n:Nat}{G:Grd}{ras:List Addr}(h:m8 H g m n G ras)(s:cY b H H')(h1:g≠b)(h2:b ∉ ras):m8 H' g m n G ras:=⟨s _ _ h.e h1,h.l,h.nd,h.ng,fun i ra hi=>s _ _ (h.r i ra hi) (j7 h2 (List.mem_of_getElem? hi)).symm⟩
theorem m8.get{H:Hp}{g:Addr}{m n:Nat}{G:Grd}{ras:List Addr}(h:m8 H g m n G ras){i j:Nat}(hi:i<=m)(hj:j<=n):∃(ra:Addr)(row:List V),ras[i]?=some ra/\atI (ras.map V.ref) ((i:Nat):Int)=some (.ref ra)/\H ra=some (.lst row)/\row.length=n+1/\row=((List.range (n+1)).map (G i)).map V.int/\atI row ((j:Nat):Int)=some (.int (G i j)):=by
 have hl:i < ras.length:=by rw [h.l];omega
 refine⟨ras[i],_,List.getElem?_eq_getElem hl,aO (by rw [List.getElem?_map,List.getElem?_eq_getElem hl];rfl),h.r i _ (List.getElem?_eq_getElem hl),by rw [List.length_map,List.length_map,List.length_range],rfl,aO ?_⟩
 rw [List.getElem?_map,List.getElem?_map,List.getElem?_range (by omega)]
 rfl
theorem m8.put{H:Hp}{g:Addr}{m n:Nat}{G:Grd}{ras:List Addr}(h:m8 H g m n G ras){i j:Nat}{ra:Addr}(v:Int)(hi:ras[i]?=some ra)(hj:j<=n):m8 (upd H ra (.lst ((((List.range (n+1)).map (G i)).map V.int).set j (.int v)))) g m n (rQ G i j v) ras:=by
 refine⟨?_,h.l,h.nd,h.ng,fun a rb hb=>?_⟩
 ·rw [aL (j7 h.ng (List.mem_of_getElem? hi))]
  exact h.e
 ·by_cases e:a=i
  ·subst e
   rw [hi] at hb
   cases hb
   rw [ak,yJ v hj]
  ·have hne:rb≠ra:=fun z=>e ((List.getElem?_inj (List.getElem?_eq_some_iff.mp hb).1 h.nd).mp (by rw [hb,hi,z]))
   rw [aL hne,h.r a rb hb]
   congr 3
   exact List.map_congr_left fun k _=>(fY fun z=>e z.1).symm
structure StF(fl:Bool)(H:Hp)(d:Addr)(m n:Nat)(c:Stp->Int)(S:Nat->Nat->Prop)(G:Grd)(ras:List Addr)(kvs:List (List Key × V)):Prop where
 e:H d=some (.dT kvs)
 v:∀ a b,a<=m->b<=n->S a b->∃(l:Addr)(us:List V),lq kvs (yR a b)=some (.ref l)/\l ∉ ras/\H l=some (.lst us)/\cj H us ((ni fl c G a b m n).map stD)
theorem StF.mono{H:Hp}{d:Addr}{m n:Nat}{c:Stp->Int}{S T:Nat->Nat->Prop}{G:Grd}{ras:List Addr}{kvs:List (List Key × V)}(h:StF fl H d m n c S G ras kvs)(hT:∀ a b,a<=m->b<=n->T a b->S a b):StF fl H d m n c T G ras kvs:=⟨h.e,fun a b ha hb t=>h.v a b ha hb (hT a b ha hb t)⟩
theorem StF.same{H H':Hp}{d:Addr}{m n:Nat}{c:Stp->Int}{S:Nat->Nat->Prop}{G:Grd}{ras:List Addr}{kvs:List (List Key × V)}(h:StF fl H d m n c S G ras kvs)(s:Same H H'):StF fl H' d m n c S G ras kvs:=⟨s _ _ h.e,fun a b ha hb t=>by
 obtain⟨l,us,e1,e2,e3,e4⟩:=h.v a b ha hb t
 exact⟨l,us,e1,e2,s _ _ e3,e4.same s⟩⟩
theorem StF.keep{H H':Hp}{d:Addr}{m n:Nat}{c:Stp->Int}{S:Nat->Nat->Prop}{G:Grd}{ras:List Addr}{kvs:List (List Key × V)}(h:StF fl H d m n c S G ras kvs)(he:H' d=some (.dT kvs))(kl:∀(b:Addr)(vs:List V),b ∉ ras->H b=some (.lst vs)->H' b=some (.lst vs))(kt:∀(b:Addr)(vs:List V),H b=some (.tup vs)->H' b=some (.tup vs)):StF fl H' d m n c S G ras kvs:=⟨he,fun a b ha hb t=>by
 obtain⟨l,us,e1,e2,e3,e4⟩:=h.v a b ha hb t
 exact⟨l,us,e1,e2,kl _ _ e2 e3,e4.keepT kt⟩⟩
theorem StF.put{H H':Hp}{d l:Addr}{m n:Nat}{c:Stp->Int}{i j:Nat}{G:Grd}{v:Int}{ras:List Addr}{us:List V}{kvs:List (List Key × V)}(h:StF fl H d m n c (Behind i j) G ras kvs)(he:H' d=some (.dT (putK kvs (yR i j) (.ref l))))(kl:∀(b:Addr)(vs:List V),H b=some (.lst vs)->H' b=some (.lst vs))(kt:∀(b:Addr)(vs:List V),H b=some (.tup vs)->H' b=some (.tup vs))(hl:l ∉ ras)(e:H' l=some (.lst us))(hd:cj H' us (((SF fl i j m n).filter fun s=>decide (fZ c G i j s=v)).map stD)) :
  StF fl H' d m n c (fun a b=>a=i/\b=j\/Behind i j a b) (rQ G i j v) ras (putK kvs (yR i j) (.ref l)):=by
 refine⟨he,fun a b ha hb hS=>?_⟩
 rcases hS with ⟨rfl,rfl⟩ | hS
 ·exact⟨l,us,by rw [nR,if_pos rfl],hl,e,by rw [wC];exact hd⟩
 ·obtain⟨l',us',e1,e2,e3,e4⟩:=h.v a b ha hb hS
  refine⟨l',us',?_,e2,kl _ _ e3,?_⟩
  ·rw [nR,if_neg fun z=>mZ hS (Dm z)]
   exact e1
  ·rw [wJ hS]
   exact e4.keepT kt
noncomputable def soD(c:Stp->Int)(G:Grd)(i j:Nat)(s:Stp):D:=.tup [.int (fZ c G i j s),stD s]
theorem J9{H:Hp}{v:V}{c:Stp->Int}{G:Grd}{i j:Nat}{s:Stp}(h:Den H v (soD c G i j s)):∃(t:Addr)(x:V),v=.ref t/\H t=some (.tup [.int (fZ c G i j s),x])/\Den H x (stD s):=by
 obtain⟨t,x,y,rfl,ht,h1,h2⟩:=Ga h
 have h1:x=.int _:=h1
 subst h1
 exact⟨t,y,rfl,ht,h2⟩
theorem pP{α:Type}(H:Hp)(f:α->Int):∀ xs:List α,cj H (xs.map fun s=>V.int (f s)) (xs.map fun s=>D.int (f s))
 | []=>trivial
 | _ :: xs=>⟨rfl,pP H f xs⟩
noncomputable def yQ:Sp:=fun vs H Q _=>∃(fl:Bool)(l a b qw qp:Addr)(xs ys:List Str)(us:List V)(ps:List (Str × Str))(ns:List Int),vs=[.ref l,.ref qw,.ref qp,.int (xs.length:Nat),.int (ys.length:Nat),.bl fl]/\gk H l a b qw qp xs ys us ps ns/\xs.length<=30/\ys.length<=30 /\
 ∀(t g d:Addr)(G:Grd)(ras:List Addr)(kvs:List (List Key × V))(H':Hp),Same H H'->H' t=some (.tup [.ref g,.ref d])->m8 H' g xs.length ys.length G ras->StF fl H' d xs.length ys.length (aY ns xs ys ps) (fun _ _=>True) G ras kvs->kj fl xs.length ys.length (aY ns xs ys ps) (fun _ _=>True) G->(∀ ra∈ras,H ra=none)->Q (.ref t) H'
section
variable {P:Program}{w:World}{K:W.Frag}{mg:Str->Option Value}{base:Heap}
theorem iw:aQ ["_law_sides_here","_law_known_here","_law_prices_here","_law_m","_law_n","_law_loose_here","_law_grid","_law_steps_here","_law_i","_law_j","_law_some","_law_here","_law_step_here","_law_to","_law_at"] ["_law_sides_here","_law_known_here","_law_prices_here","_law_m","_law_n","_law_loose_here"] (aB tU):=⟨rfl,rfl,rfl,by decide +kernel,rfl,by decide +kernel,by decide +kernel⟩
theorem Ji(h:Has K mg "_law_left" tU ["_law_sides_here","_law_known_here","_law_prices_here","_law_m","_law_n","_law_loose_here"])(Py:Cal P w K mg base "_law_steps" 1 ["_law_i","_law_j","_law_m","_law_n"] jY)(Rv:Cal P w K mg base "_law_loose" 1 ["_law_i","_law_j","_law_m","_law_n"] z6)(Qj:Cal P w K mg base "_law_on" 1 ["_law_step_here","_law_i","_law_j"] Es)(Qf:Cal P w K mg base "_law_step" 2 ["_law_sides_here","_law_step_here","_law_known_here","_law_prices_here"] qF)(Pg:mg "range" = none)(Rp:mg "min" = none):Cal P w K mg base "_law_left" 3 ["_law_sides_here","_law_known_here","_law_prices_here","_law_m","_law_n","_law_loose_here"] yQ:=by
 refine h.mk' iw (fun vs H Q E hs=>?_) (fun f cdv A outer s H vs Q E hr hs=>?_)
 ·obtain⟨fl,l,a,b,qw,qp,xs,ys,us,ps,ns,rfl,_⟩:=hs
  rfl
 obtain⟨fl,l,a,b,qw,qp,xs,ys,us,ps,ns,rfl,hL,hm,hn,k⟩:=hs
 refine⟨_,(au (aR (i:=6) iw.nd rfl (Or.inr rfl) (bD ["_law_sides_here","_law_known_here","_law_prices_here","_law_m","_law_n","_law_loose_here","_law_grid","_law_steps_here","_law_i","_law_j","_law_some","_law_here","_law_step_here","_law_to","_law_at"] (aB tU) ["_law_n","_law_i"] [some 4,none] rfl rfl rfl (cC rfl Pg (aj (aP bA (pv 3) aA) ao)) rfl (by decide +kernel) (by decide +kernel) (by decide +kernel) (by decide +kernel) (hg:=fun cl C s H ex pn E=>(aD (i:=1) (by decide +kernel:(["_law_n","_law_i"]:List Str).Nodup) rfl (Or.inl rfl))) (ht:=fun cl C s H ex pn E=>bC) (he:=fun cl C s H ex pn E=>(aP Fl (cQ (aj aA ao)) (aP bA (pv 0) aA)))))
  (au (aR (i:=7) iw.nd rfl (Or.inl rfl) DW)
  (au (cG PassesOwn.never rfl (rm rfl Pg (aj (pv 3) (aj (jy fL aA) (aj (jy fL aA) ao)))) (aD (i:=8) iw.nd rfl (Or.inr rfl))
   (aC (cG PassesOwn.never rfl (rm rfl Pg (aj (pv 4) (aj (jy fL aA) (aj (jy fL aA) ao)))) (aD (i:=9) iw.nd rfl (Or.inr rfl))
   (au (aR (i:=10) iw.nd rfl (Or.inl rfl) (cQ ao))
  (au (aR (i:=11) iw.nd rfl (Or.inl rfl) (aG Py hr (by decide) rfl (aj (pv 8) (aj (pv 9) (aj (pv 3) (aj (pv 4) ao))))))
  (au (cD (gG (pv 5))
   (aC (aR (i:=11) iw.nd rfl (Or.inl rfl) (aP Bp (aG Rv hr (by decide) rfl (aj (pv 8) (aj (pv 9) (aj (pv 3) (aj (pv 4) ao))))) (pv 11))))
   bF)
  (au (cG PassesOwn.never rfl (bY (pv 11)) (aD (i:=12) iw.nd rfl (Or.inl rfl))
   (au (dg (aG Qj hr (by decide) rfl (aj (pv 12) (aj (pv 8) (aj (pv 9) ao)))) (bH (n:=2) rfl (aH (aD (i:=13) iw.nd rfl (Or.inl rfl)) (aH (aD (i:=14) iw.nd rfl (Or.inl rfl)) bI))))
  (aC (cI (cZ PySem.F.plainAttrs_list PySem.F.slot_list_append PySem.F.type_list_append bN (pv 10) (aj (aM (aj (aP bA (aG Qf hr (by decide) rfl (aj (pv 0) (aj (pv 12) (aj (pv 1) (aj (pv 2) ao))))) (bx aX (bx aX (pv 6) (pv 13) (fun _ _=>rfl)) (pv 14) (fun _ _=>rfl))) (aj (pv 12) ao))) ao))))))
  (au (cD (aW (JQ hr.units0) (pv 10) (cQ ao) (bB _))
   (aC (dg (aJ (yc rfl hr.units) rfl Rp boot_min (aj (bD ["_law_sides_here","_law_known_here","_law_prices_here","_law_m","_law_n","_law_loose_here","_law_grid","_law_steps_here","_law_i","_law_j","_law_some","_law_here","_law_step_here","_law_to","_law_at"] (aB tU) ["_law_cost","_law_step_here"] [none,none] rfl rfl rfl (bY (pv 10)) rfl (by decide +kernel) (by decide +kernel) (by decide +kernel) (by decide +kernel) (g:=rT K0 2 (dG (cP 0) (dG (cP 1) tG))) (hg:=fun cl C s H ex pn E=>bH (n:=2) rfl (aH (aD (i:=0) (by decide +kernel:(["_law_cost","_law_step_here"]:List Str).Nodup) rfl (Or.inl rfl) (Or.inr rfl)) (aH (aD (i:=1) (by decide +kernel:(["_law_cost","_law_step_here"]:List Str).Nodup) rfl (Or.inl rfl) (Or.inr rfl)) bI))) (ht:=fun cl C s H ex pn E=>bC) (he:=fun cl C s H ex pn E=>(pv 0))) ao)) (rK (bx aX (pv 6) (pv 8) (fun _ _=>rfl)) (pv 9) set_list)))
   bF)
  (aC (yx (vN hr) (pv 7) (aM (aj (pv 8) (aj (pv 9) ao))) (bD ["_law_sides_here","_law_known_here","_law_prices_here","_law_m","_law_n","_law_loose_here","_law_grid","_law_steps_here","_law_i","_law_j","_law_some","_law_here","_law_step_here","_law_to","_law_at"] (aB tU) ["_law_grid","_law_i","_law_j","_law_cost","_law_step_here"] [some 6,some 8,some 9,none,none] rfl rfl rfl (bY (pv 10)) rfl (by decide +kernel) (by decide +kernel) (by decide +kernel) (by decide +kernel) (g:=rT K0 2 (dG (cP 3) (dG (cP 4) tG))) (hg:=fun cl C s H ex pn E=>bH (n:=2) rfl (aH (aD (i:=3) (by decide +kernel:(["_law_grid","_law_i","_law_j","_law_cost","_law_step_here"]:List Str).Nodup) rfl (Or.inl rfl) (Or.inr rfl)) (aH (aD (i:=4) (by decide +kernel:(["_law_grid","_law_i","_law_j","_law_cost","_law_step_here"]:List Str).Nodup) rfl (Or.inl rfl) (Or.inr rfl)) bI))) (ht:=fun cl C s H ex pn E=>(jG (aW dR (pv 3) (bx (aX) (bx (aX) (pv 0) (pv 1) (fun _ _=>rfl)) (pv 2) (fun _ _=>rfl)) (bB _)))) (he:=fun cl C s H ex pn E=>(pv 4))) rfl))))))))))
  (aC (aV (aM (aj (pv 6) (aj (pv 7) ao)))))))),?_⟩
 refine⟨_,rfl,_,_,rfl,rfl,(xs.length:Int)+1,rfl,by omega,by omega,fun g hg=>?_⟩
 have enn:((xs.length:Int)+1).toNat=xs.length+1:=by omega
 rw [enn]
 refine eY (J:=Itr 0 (xs.length+1)) (l:=g) (xs.length+1) (fun x σ' H'=>∃(v1:Option V)(ras:List Addr),σ'=[some (.int (ys.length:Nat)),v1]/\Same H H'/\H' g=some (.lst (ras.map V.ref))/\ras.length=x/\ras.Nodup/\g ∉ ras/\∀ ra∈ras,H ra=none/\H' ra=some (.lst (List.replicate (ys.length+1) (V.int 0)))) ⟨none,[],rfl,aq hg _,ak,rfl,List.nodup_nil,(fun h=>nomatch h),fun ra h=>nomatch h⟩ ?_ ?_
 rotate_left
 ·rintro x σ' H1 hx ⟨v1,ras,rfl,s1,e1,hl1,nd1,ng1,r1⟩
  refine⟨hx,?_⟩
  rintro N hN y H2 ⟨rfl,rfl⟩
  refine gN (iM (eZ ⟨smn 1,fun p hp=>⟨_,rfl,_,_,rfl,rfl,p,_,_,rfl,rfl,ak,by omega,by omega,small (by rw [List.length_singleton];omega),fun q hq=>?_⟩⟩))
  have s3:=(aq hp (.lst [.int 0])).trans (aq hq (.lst (List.replicate ((ys.length:Int)+1).toNat [V.int 0]).flatten))
  have e3:(upd (upd H2 p (.lst [.int 0])) q (.lst (List.replicate ((ys.length:Int)+1).toNat [V.int 0]).flatten)) q=some (.lst (List.replicate (ys.length+1) (V.int 0))):=by
   rw [ak,show ((ys.length:Int)+1).toNat=ys.length+1 by omega]
   congr 2
   induction (ys.length+1) with
   | zero=>rfl
   | succ n ih=>rw [List.replicate_succ,List.flatten_cons,ih,List.replicate_succ];rfl
  have hqn:H2 q=none:=by
   rw [aL] at hq
   ·exact hq
   ·intro z
    rw [z,ak] at hq
    cases hq
  generalize upd (upd H2 p (.lst [.int 0])) q (.lst (List.replicate ((ys.length:Int)+1).toNat [V.int 0]).flatten)=H3 at s3 e3 ⊢
  have e13:=s3 _ _ e1
  have hgq:g≠q:=aF e1 hqn
  refine⟨_,e13,aK (by rw [List.length_map];omega),hN _ _ ⟨_,ras++[q],rfl,aU (s1.trans s3) hg,by rw [ak,List.map_append];rfl,by rw [List.length_append,hl1];rfl,?_,?_,fun ra h=>?_⟩⟩
  ·rw [List.nodup_append]
   refine⟨nd1,by simp,fun x hx y hy z=>?_⟩
   rw [List.mem_singleton.mp hy] at z
   have:=(r1 x hx).2
   rw [z,hqn] at this
   cases this
  ·intro h
   rcases List.mem_append.mp h with h | h
   ·exact ng1 h
   ·exact hgq (List.mem_singleton.mp h)
  ·rcases List.mem_append.mp h with h | h
   ·exact⟨(r1 ra h).1,by rw [aL (j7 ng1 h).symm];exact s3 _ _ (r1 ra h).2⟩
   ·rw [List.mem_singleton.mp h]
    refine⟨?_,by rw [aL hgq.symm];exact e3⟩
    cases z:H q with
    | none=>rfl
    | some u=>rw [s1 _ _ z] at hqn;cases hqn
 rintro σ' H1 ⟨v1,ras,rfl,s1,e1,hl1,nd1,ng1,r1⟩
 refine⟨Nat.le_refl _,gN fun d hd=>gN ?_⟩
 have s2:=s1.trans (aq hd (.dT []))
 have hras:∀ ra∈ras,H ra=none:=fun ra h=>(r1 ra h).1
 have hG0:m8 (upd H1 d (.dT [])) g xs.length ys.length (fun _ _=>0) ras:=by
  refine m8.same ⟨e1,hl1,nd1,ng1,fun i ra hi=>?_⟩ (aq hd _)
  rw [(r1 ra (List.mem_of_getElem? hi)).2]
  congr 2
  exact (List.eq_replicate_iff.mpr ⟨by rw [List.length_map,List.length_map,List.length_range],fun b hb=>by
   obtain⟨q,hq,rfl⟩:=List.mem_map.mp hb
   obtain⟨_,_,rfl⟩:=List.mem_map.mp hq
   rfl⟩).symm
 have e0:(upd H1 d (.dT [])) d=some (.dT []):=ak
 have hdH:H d=none:=by
  cases z:H d with
  | none=>rfl
  | some u=>rw [s1 _ _ z] at hd;cases hd
 have hgd:g≠d:=aF e1 hd
 clear e1 r1 hd s1
 generalize upd H1 d (.dT [])=H0 at s2 hG0 e0 ⊢
 refine⟨_,rfl,_,rfl,_,rfl,_,xs.length+1,rfl,by omega,by omega,?_⟩
 refine uM (a:=(xs.length:Int)) (n:=xs.length+1) (fun x σ H1=>∃(v7 v8 v9 vh v10 v11 v12:Option V)(G:Grd)(kvs:List (List Key × V)),σ=[some (.ref l),some (.ref qw),some (.ref qp),some (.int (xs.length:Nat)),some (.int (ys.length:Nat)),some (.bl fl),some (.ref g),some (.ref d),v7,v8,v9,vh,v10,v11,v12]/\Same H H1/\m8 H1 g xs.length ys.length G ras/\StF fl H1 d xs.length ys.length (aY ns xs ys ps) (fun a _=>xs.length < a+x) G ras kvs/\kj fl xs.length ys.length (aY ns xs ys ps) (fun a _=>xs.length < a+x) G/\kvs.length<=x * 31)
  ⟨_,_,_,_,_,_,_,_,[],rfl,s2,hG0,⟨e0,fun a b ha hb z=>by omega⟩,⟨fun a b ha hb z=>by omega,fun a b ha hb z=>by omega,fun a b _ _ _=>rfl⟩,Nat.zero_le _⟩ ?_ ?_
 ·rintro x σ H1 hx ⟨v7,v8,v9,vh,v10,v11,v12,G,kvs,rfl,s1,hG,hS,hO,hkl⟩
  obtain⟨i,hi⟩:∃ i:Nat,xs.length=i+x:=⟨xs.length - x,by omega⟩
  have eii:(xs.length:Int) - (x:Int)=(i:Nat):=by omega
  rw [eii]
  refine wU fun E1 hE1=>gN ⟨_,rfl,_,rfl,_,rfl,_,ys.length+1,rfl,by omega,by omega,?_⟩
  refine uM (a:=(ys.length:Int)) (n:=ys.length+1) (fun y σ H2=>∃(v8 v9 vh v10 v11 v12:Option V)(G:Grd)(kvs:List (List Key × V)),σ=[some (.ref l),some (.ref qw),some (.ref qp),some (.int (xs.length:Nat)),some (.int (ys.length:Nat)),some (.bl fl),some (.ref g),some (.ref d),some (.int (i:Nat)),v8,v9,vh,v10,v11,v12]/\Same H H2/\m8 H2 g xs.length ys.length G ras/\StF fl H2 d xs.length ys.length (aY ns xs ys ps) (fun a b=>xs.length < a+x\/a+x=xs.length/\ys.length < b+y) G ras kvs/\kj fl xs.length ys.length (aY ns xs ys ps) (fun a b=>xs.length < a+x\/a+x=xs.length/\ys.length < b+y) G/\kvs.length<=x * 31+y)
   ⟨_,_,_,_,_,_,G,kvs,rfl,s1,hG,hS.mono (fun a b ha hb z=>by omega),hO.mono (fun a b ha hb=>⟨fun z=>by omega,fun z=>.inl z⟩),by omega⟩ ?_ ?_
  ·rintro y σ H2 hy ⟨v8,v9,vh,v10,v11,v12,G,kvs,rfl,s2,hG,hS,hO,hkl⟩
   obtain⟨j,hj⟩:∃ j:Nat,ys.length=j+y:=⟨ys.length - y,by omega⟩
   have ejj:(ys.length:Int) - (y:Int)=(j:Nat):=by omega
   rw [ejj]
   have hS:=hS.mono (T:=Behind i j) (fun a b ha hb z=>by unfold Behind at z;omega)
   have hO:=hO.mono (T:=Behind i j) (fun a b ha hb=>by unfold Behind;omega)
   refine wU fun E2 hE2=>gN ⟨smn 0,fun ls hls=>gN ?_⟩
   have s3:=aq hls (.lst [])
   have e3:(upd H2 ls (.lst [])) ls=some (.lst []):=ak
   have lsH:H ls=none:=by
    cases z:H ls with
    | none=>rfl
    | some u=>rw [s2 _ _ z] at hls;cases hls
   have lsg:g≠ls:=aF hG.e hls
   have lsd:d≠ls:=aF hS.e hls
   have lsr:ls ∉ ras:=fun z=>by
    obtain⟨q,hq⟩:=List.mem_iff_getElem?.mp z
    have:=hG.r q ls hq
    rw [hls] at this
    cases this
   generalize upd H2 ls (.lst [])=H3 at s3 e3 ⊢
   refine⟨_,rfl,_,rfl,_,rfl,_,rfl,i,j,xs.length,ys.length,rfl,by omega,by omega,by omega,by omega,fun l1 us1 H4 s4 hl1 e4 d4=>?_⟩
   refine nxP (fun σ H'=>∃(lh:Addr)(us0:List V),σ=[some (.ref l),some (.ref qw),some (.ref qp),some (.int (xs.length:Nat)),some (.int (ys.length:Nat)),some (.bl fl),some (.ref g),some (.ref d),some (.int (i:Nat)),some (.int (j:Nat)),some (.ref ls),some (.ref lh),v10,v11,v12]/\Same H3 H'/\H3 lh=none/\H' lh=some (.lst us0)/\cj H' us0 ((SF fl i j xs.length ys.length).map stD)) (fun N hN=>?_) ?_
   ·refine⟨_,rfl,_,rfl,?_⟩
    refine cU (fun z=>?_) (fun z=>hN _ _ ⟨l1,us1,rfl,s4,hl1,e4,?_⟩)
    ·refine⟨_,rfl,_,rfl,_,rfl,_,rfl,i,j,xs.length,ys.length,rfl,by omega,by omega,by omega,by omega,fun l2 us2 H5 s5 hl2 e5 d5=>?_⟩
     have u1:=d4.len
     have u2:=d5.len
     rw [List.length_map] at u1 u2
     have u3:=ig i j xs.length ys.length
     have u4:=qZ i j xs.length ys.length
     refine⟨_,rfl,l2,l1,_,_,rfl,rfl,e5,s5 _ _ e4,small (by omega),fun l3 hl3=>hN _ _ ⟨l3,us2++us1,rfl,(s4.trans s5).trans (aq hl3 _),?_,ak,?_⟩⟩
     ·cases z:H3 l3 with
      | none=>rfl
      | some u=>rw [(s4.trans s5) _ _ z] at hl3;cases hl3
     ·rw [z]
      show cj _ _ ((jC i j xs.length ys.length++bw i j xs.length ys.length).map stD)
      rw [List.map_append]
      exact jB (d5.same (aq hl3 _)) ((d4.same s5).same (aq hl3 _))
    ·have z:fl=false:=by simpa using z
     rw [z]
     exact d4
   clear d4 e4 hl1 s4
   rintro σ H4 ⟨lh,us0,rfl,s4,hl0,e4,d4⟩
   have nl0:lh≠ls:=(aF e3 hl0).symm
   have s24:=s3.trans s4
   have s04:=s2.trans s24
   have hG4:=hG.same s24
   have hS4:=hS.same s24
   have els4:=s4 _ _ e3
   have hul:=d4.len
   rw [List.length_map] at hul
   have hst8:=xr fl i j xs.length ys.length
   refine⟨_,rfl,lh,rfl,⟨_,SqL.of e4⟩,?_⟩
   refine iI (K:=K0) (a:=lh) (xs:=us0) (fun z σ H5=>∃(v10 v11 v12:Option V)(us':List V),σ=[some (.ref l),some (.ref qw),some (.ref qp),some (.int (xs.length:Nat)),some (.int (ys.length:Nat)),some (.bl fl),some (.ref g),some (.ref d),some (.int (i:Nat)),some (.int (j:Nat)),some (.ref ls),some (.ref lh),v10,v11,v12]/\cY ls H4 H5/\H5 ls=some (.lst us')/\us'.length=z/\cj H5 us' (((SF fl i j xs.length ys.length).take z).map (soD (aY ns xs ys ps) G i j))) ⟨_,_,_,[],rfl,.of (Same.refl _),els4,rfl,trivial⟩ ?_ ?_ ?_
   ·rintro z σ H5 _ ⟨_,_,_,_,_,o5,_⟩
    exact SqL.of (o5 _ _ e4 nl0)
   ·rintro z yv σ H5 hz ⟨v10,v11,v12,us',rfl,o5,e5,hl5,d5⟩
    have hzl:z < us0.length:=(List.getElem?_eq_some_iff.mp hz).1
    have hzs:z < (SF fl i j xs.length ys.length).length:=by omega
    have dy:Den H4 yv (stD (SF fl i j xs.length ys.length)[z]):=at_of d4 hz (by rw [List.getElem?_map,List.getElem?_eq_getElem hzs];rfl)
    have hst:=List.getElem_mem hzs
    have htk:((SF fl i j xs.length ys.length).take (z+1)).map (soD (aY ns xs ys ps) G i j)=((SF fl i j xs.length ys.length).take z).map (soD (aY ns xs ys ps) G i j)++[soD (aY ns xs ys ps) G i j (SF fl i j xs.length ys.length)[z]]:=by rw [List.take_add_one,List.getElem?_eq_getElem hzs,List.map_append];rfl
    rw [htk]
    generalize (SF fl i j xs.length ys.length)[z]=st at dy hst ⊢
    obtain⟨g1,g2,g3⟩:=Hj hst
    obtain⟨t1,t2,t3⟩:=uI hst
    have kt5:∀(b:Addr)(vs:List V),H4 b=some (.tup vs)->H5 b=some (.tup vs):=fun b vs e=>o5 _ _ e (mL e els4 (by intro z;cases z))
    have dy5:=dy.keepT kt5
    refine wU fun E3 hE3=>gN ⟨_,rfl,_,rfl,_,rfl,yv,st,(i:Nat),(j:Nat),rfl,dy5,t2,fun p H6 s6 e6=>?_⟩
    rw [← Int.natCast_add,← Int.natCast_add] at e6
    refine⟨p,_,rfl,SqT.of e6,rfl,_,_,rfl,_,_,rfl,rfl,?_⟩
    have hL6:gk H6 l a b qw qp xs ys us ps ns:=by
     refine gk.same (H:=H) hL fun c o z=>?_
     refine s6 _ _ (o5 _ _ (s04 _ _ z) (aF z lsH))
    refine⟨_,rfl,.inl ⟨rfl,_,SqL.of (s6 _ _ e5)⟩,_,rfl,_,rfl,_,rfl,_,rfl,l,a,b,qw,qp,yv,st,xs,ys,us,ps,ns,rfl,hL6,dy5.same s6,t3,t1,t2,fun H7 s7=>?_⟩
    have s57:=s6.trans s7
    have hG7:=(hG4.old o5 lsg lsr).same s57
    obtain⟨ra,row,_,q1,q2,_,_,q3⟩:=hG7.get g1 g2
    refine⟨_,rfl,_,rfl,ixL (p:=g) rfl rfl (SqL.of hG7.e) (q1) (⟨ _,rfl,ixL (p:=ra) rfl rfl (SqL.of q2) (q3) (⟨ _,_,rfl,rfl,_,rfl,smn 2,fun tn htn=>?_⟩)⟩)⟩
    have s8:=aq htn (.tup [.int (fZ (aY ns xs ys ps) G i j st),yv])
    have e8:(upd H7 tn (.tup [.int (fZ (aY ns xs ys ps) G i j st),yv])) tn=some (.tup [.int (fZ (aY ns xs ys ps) G i j st),yv]):=ak
    refine⟨ls,us',?_⟩
    generalize hH8:upd H7 tn (.tup [.int (fZ (aY ns xs ys ps) G i j st),yv])=H8 at s8 e8
    have hH8:upd H7 tn (.tup [.int (aY ns xs ys ps st+G (i+sz1 st) (j+sz2 st)),yv])=H8:=hH8
    rw [hH8]
    have s58:=s57.trans s8
    have els:=s58 _ _ e5
    refine⟨_,rfl,rfl,els,aK (by omega),hE3.n _ _ ⟨_,_,_,us'++[.ref tn],rfl,fun c o z hc=>?_,ak,by rw [List.length_append,hl5];rfl,((d5.same s58).keepT (dh els)).snoc ?_⟩⟩
    ·rw [aL hc]
     exact s58 _ _ (o5 _ _ z hc)
    ·exact⟨tn,_,rfl,dh els _ _ e8,rfl,(dy5.same s58).keepT (dh els),trivial⟩
   ·rintro σ H5 ⟨v10,v11,v12,us',rfl,o5,e5,hl5,d5⟩
    rw [hul,List.take_length] at d5
    have kt5:∀(b:Addr)(vs:List V),H4 b=some (.tup vs)->H5 b=some (.tup vs):=fun b vs e=>o5 _ _ e (mL e els4 (by intro z;cases z))
    have s05:Same H H5:=fun c o z=>o5 _ _ (s04 _ _ z) (aF z lsH)
    have hG5:=hG4.old o5 lsg lsr
    have hS5:StF fl H5 d xs.length ys.length (aY ns xs ys ps) (Behind i j) G ras kvs:=hS.keep (o5 _ _ (s24 _ _ hS.e) lsd) (fun b vs _ e=>o5 _ _ (s24 _ _ e) (aF e hls)) (fun b vs e=>kt5 _ _ (s24 _ _ e))
    clear hS hS4 hG hG4 o5 kt5 d4 e4 s24 s04 s4 s3 e3 els4 hls lsH lsg lsd s2 nl0
    have hlen:=d5.len
    rw [List.length_map] at hlen
    refine nxP (fun σ H'=>∃ vv:Int,σ=[some (.ref l),some (.ref qw),some (.ref qp),some (.int (xs.length:Nat)),some (.int (ys.length:Nat)),some (.bl fl),some (.ref g),some (.ref d),some (.int (i:Nat)),some (.int (j:Nat)),some (.ref ls),some (.ref lh),v10,v11,v12]/\(SF fl i j xs.length ys.length=[]->vv=0)/\(SF fl i j xs.length ys.length≠[]->∃ s∈SF fl i j xs.length ys.length,vv=fZ (aY ns xs ys ps) G i j s/\∀ s'∈SF fl i j xs.length ys.length,vv<=fZ (aY ns xs ys ps) G i j s')/\m8 H' g xs.length ys.length (rQ G i j vv) ras/\StF fl H' d xs.length ys.length (aY ns xs ys ps) (Behind i j) G ras kvs/\H' ls=some (.lst us')/\cj H' us' ((SF fl i j xs.length ys.length).map (soD (aY ns xs ys ps) G i j))/\Same H H') (fun N hN=>?_) ?_
    ·refine⟨_,rfl,smn 0,fun le hle=>?_⟩
     have s6:=aq hle (.lst [])
     have e6:(upd H5 le (.lst [])) le=some (.lst []):=ak
     generalize upd H5 le (.lst [])=H6 at s6 e6 ⊢
     replace d5:=d5.same s6
     replace s05:=s05.trans s6
     replace hG5:=hG5.same s6
     replace hS5:=hS5.same s6
     replace e5:=s6 _ _ e5
     refine⟨ls,le,us',rfl,rfl,e5,e6,_,rfl,?_⟩
     clear e6 hle s6
     refine cU ?tt ?tf
     case tt =>
      intro cT
      have hne:SF fl i j xs.length ys.length≠[]:=fun z=>by
       rw [z,List.length_nil] at hlen
       rw [List.eq_nil_of_length_eq_zero hlen] at cT
       cases cT
      clear cT
      refine⟨_,rfl,ls,rfl,⟨_,SqL.of e5⟩,fun lc hlc=>?_⟩
      refine eY (J:=Itl K0 ls) (l:=lc) us'.length (fun z σ' H'=>∃(v0 v1:Option V),σ'=[v0,v1]/\Same H6 H'/\H' lc=some (.lst (((SF fl i j xs.length ys.length).take z).map fun s=>V.int (fZ (aY ns xs ys ps) G i j s)))) ⟨none,none,rfl,aq hlc _,ak⟩ ?_ ?_
      rotate_left
      ·rintro z σ' H7 hz ⟨v0,v1,rfl,s7,e7⟩
       have hzs:z < (SF fl i j xs.length ys.length).length:=by omega
       refine⟨⟨_,_,SqL.of (s7 _ _ e5),aZ hz⟩,?_⟩
       rintro N2 hN2 yv H8 ⟨rfl,hyv⟩
       have ey:yv=us'[z]:=Option.some.inj ((hyv _ (SqL.of (s7 _ _ e5))).symm.trans (aZ hz))
       have dy:Den H6 us'[z] (soD (aY ns xs ys ps) G i j (SF fl i j xs.length ys.length)[z]):=at_of d5 (aZ hz) (by rw [List.getElem?_map,aZ hzs];rfl)
       rw [← ey] at dy
       obtain⟨t,xv,rfl,ht,dx⟩:=J9 dy
       refine⟨t,_,rfl,SqT.of (s7 _ _ ht),rfl,_,_,rfl,_,_,rfl,rfl,iM (eZ ?_)⟩
       refine⟨_,rfl,_,e7,aK (by rw [List.length_map,List.length_take];omega),hN2 _ _ ⟨_,_,rfl,aU s7 hlc,?_⟩⟩
       rw [ak,take_one (aZ hzs),List.map_append]
       rfl
      rintro σ' H7 ⟨v0,v1,rfl,s7,e7⟩
      rw [hlen,List.take_length] at e7
      refine⟨⟨_,SqL.of (s7 _ _ e5),Nat.le_refl _⟩,lc,_,(SF fl i j xs.length ys.length).map fun s=>D.int (fZ (aY ns xs ys ps) G i j s),rfl,⟨SqL.of e7,pP _ _ _,fun a ha b hb=>?_,fun a ha=>?_⟩,fun z=>hne (List.map_eq_nil_iff.mp z),fun ix v dd hv hdd hmin=>?_⟩
      ·obtain⟨x,_,rfl⟩:=List.mem_map.mp ha
       obtain⟨y,_,rfl⟩:=List.mem_map.mp hb
       exact trivial
      ·obtain⟨x,_,rfl⟩:=List.mem_map.mp ha
       exact qR (pF _) (by decide)
      have h1:∃ s∈SF fl i j xs.length ys.length,v=.int (fZ (aY ns xs ys ps) G i j s)/\∀ s'∈SF fl i j xs.length ys.length,fZ (aY ns xs ys ps) G i j s<=fZ (aY ns xs ys ps) G i j s':=by
       rw [List.getElem?_map] at hv hdd
       obtain⟨s,hs,rfl⟩:=Option.map_eq_some_iff.mp hv
       rw [hs] at hdd
       refine⟨s,List.mem_of_getElem? hs,rfl,fun s' hs'=>?_⟩
       have:=hmin _ (List.mem_map_of_mem hs')
       rw [← Option.some.inj hdd,tD] at this
       exact Int.not_lt.mp (of_decide_eq_false this)
      clear hmin hdd hv
      obtain⟨s0,hs0,rfl,hmin⟩:=h1
      have hG7:=hG5.same s7
      obtain⟨ra,row,q0,q1,q2,q4,q5,q3⟩:=hG7.get (i:=i) (j:=j) (by omega) (by omega)
      refine⟨_,rfl,_,rfl,ixL (p:=g) rfl rfl (SqL.of hG7.e) (q1) (⟨ _,rfl,ra,row,_,j,rfl,rfl,q2,sE (by omega),?_⟩)⟩
      have hra:=List.mem_of_getElem? q0
      have hG8:=hG7.put (fZ (aY ns xs ys ps) G i j s0) q0 (j:=j) (by omega)
      rw [← q5] at hG8
      have hS8:StF fl (upd H7 ra (.lst (row.set j (.int (fZ (aY ns xs ys ps) G i j s0))))) d xs.length ys.length (aY ns xs ys ps) (Behind i j) G ras kvs:=(hS5.same s7).keep (by rw [aL (mL (s7 _ _ hS5.e) q2 (by intro z;cases z))];exact s7 _ _ hS5.e) (fun b vs hb e=>by rw [aL (j7 hb hra)];exact e) (dh q2)
      have e58:(upd H7 ra (.lst (row.set j (.int (fZ (aY ns xs ys ps) G i j s0))))) ls=some (.lst us'):=by rw [aL (j7 lsr hra)];exact s7 _ _ e5
      have d58:=(d5.same s7).keepT (dh (ws:=row.set j (.int (fZ (aY ns xs ys ps) G i j s0))) q2)
      have s08:Same H (upd H7 ra (.lst (row.set j (.int (fZ (aY ns xs ys ps) G i j s0))))):=aU (s05.trans s7) (hras ra hra)
      have hv0:SF fl i j xs.length ys.length=[]->fZ (aY ns xs ys ps) G i j s0=0:=fun z=>absurd z hne
      have hv1:SF fl i j xs.length ys.length≠[]->∃ s∈SF fl i j xs.length ys.length,fZ (aY ns xs ys ps) G i j s0=fZ (aY ns xs ys ps) G i j s/\∀ s'∈SF fl i j xs.length ys.length,fZ (aY ns xs ys ps) G i j s0<=fZ (aY ns xs ys ps) G i j s':=fun _=>⟨s0,hs0,rfl,hmin⟩
      exact hN _ _ ⟨_,rfl,hv0,hv1,hG8,hS8,e58,d58,s08⟩
     case tf =>
      intro cF
      have hnil:SF fl i j xs.length ys.length=[]:=by
       cases us' with
       | nil=>exact List.eq_nil_of_length_eq_zero hlen.symm
       | cons _ _=>exact absurd rfl cF
      obtain⟨vv,hvv⟩:∃ vv:Int,vv=0:=⟨0,rfl⟩
      have hv0:SF fl i j xs.length ys.length=[]->vv=0:=fun _=>hvv
      have hv1:SF fl i j xs.length ys.length≠[]->∃ s∈SF fl i j xs.length ys.length,vv=fZ (aY ns xs ys ps) G i j s/\∀ s'∈SF fl i j xs.length ys.length,vv<=fZ (aY ns xs ys ps) G i j s':=fun z=>absurd hnil z
      have hG8:m8 H6 g xs.length ys.length (rQ G i j vv) ras:=by
       have e:rQ G i j vv=G:=by
        funext a b
        by_cases h:a=i/\b=j
        ·rw [h.1,h.2,jd,hvv,hO.out i j (by omega) (by omega) (fun z=>mZ z ⟨rfl,rfl⟩)]
        ·exact fY h
       rw [e]
       exact hG5
      exact hN _ _ ⟨vv,rfl,hv0,hv1,hG8,hS5,e5,d5,s05⟩
    clear hG5 hS5 e5 d5 s05
    rintro σ H8 ⟨vv,rfl,hv0,hv1,hG8,hS8,e58,d58,s08⟩
    refine⟨_,rfl,ls,rfl,⟨_,SqL.of e58⟩,fun lc hlc=>?_⟩
    refine eY (J:=Itl K0 ls) (l:=lc) us'.length (fun z σ' H'=>∃(v3 v4:Option V)(us2:List V),σ'=[some (.ref g),some (.int (i:Nat)),some (.int (j:Nat)),v3,v4]/\Same H8 H'/\H' lc=some (.lst us2)/\us2.length<=z/\cj H' us2 ((((SF fl i j xs.length ys.length).take z).filter fun s=>decide (fZ (aY ns xs ys ps) G i j s=vv)).map stD)) ⟨none,none,[],rfl,aq hlc _,ak,Nat.le_refl _,trivial⟩ ?_ ?_
    rotate_left
    ·rintro z σ' H9 hz ⟨v3,v4,us2,rfl,s9,e9,hl9,d9⟩
     have hzs:z < (SF fl i j xs.length ys.length).length:=by omega
     refine⟨⟨_,_,SqL.of (s9 _ _ e58),aZ hz⟩,?_⟩
     rintro N2 hN2 yv Ha ⟨rfl,hyv⟩
     have ey:yv=us'[z]:=Option.some.inj ((hyv _ (SqL.of (s9 _ _ e58))).symm.trans (aZ hz))
     have dy:Den H8 us'[z] (soD (aY ns xs ys ps) G i j (SF fl i j xs.length ys.length)[z]):=at_of d58 (aZ hz) (by rw [List.getElem?_map,aZ hzs];rfl)
     have htk:=take_one (aZ hzs)
     rw [← ey] at dy
     generalize (SF fl i j xs.length ys.length)[z]=st at dy htk
     obtain⟨t,xv,rfl,ht,dx⟩:=J9 (dy.same s9)
     obtain⟨ra,row,q0,q1,q2,q4,q5,q3⟩:=(hG8.same s9).get (i:=i) (j:=j) (by omega) (by omega)
     rw [jd] at q3
     refine⟨t,_,rfl,SqT.of ht,rfl,_,_,rfl,_,_,rfl,rfl,?_⟩
     refine⟨_,rfl,_,rfl,_,rfl,ixL (p:=g) rfl rfl (SqL.of (hG8.same s9).e) (q1) (⟨ _,rfl,ixL (p:=ra) rfl rfl (SqL.of q2) (q3) (⟨ rfl,_,rfl,?_⟩)⟩)⟩
     refine cU (fun cc=>?_) (fun cc=>?_)
     ·have hcc:fZ (aY ns xs ys ps) G i j st=vv:=V.int.inj (of_decide_eq_true cc)
      refine⟨_,rfl,us2,e9,aK (by omega),hN2 _ _ ⟨_,_,us2++[xv],rfl,aU s9 hlc,ak,by rw [List.length_append,List.length_singleton];omega,?_⟩⟩
      rw [htk,List.filter_append,List.map_append,List.filter_cons_of_pos (p:=fun s=>decide (fZ (aY ns xs ys ps) G i j s=vv)) (decide_eq_true hcc),List.filter_nil]
      exact (d9.keepT (dh e9)).snoc (dx.keepT (dh e9))
     ·have hcc:¬ fZ (aY ns xs ys ps) G i j st=vv:=fun z=>cc (decide_eq_true (congrArg V.int z))
      refine hN2 _ _ ⟨_,_,us2,rfl,s9,e9,by omega,?_⟩
      rw [htk,List.filter_append,List.map_append,List.filter_cons_of_neg (by rw [decide_eq_true_eq];exact hcc),List.filter_nil,List.map_nil,List.append_nil]
      exact d9
    rintro σ' H9 ⟨v3,v4,us2,rfl,s9,e9,hl9,d9⟩
    rw [hlen,List.take_length] at d9
    refine⟨⟨_,SqL.of (s9 _ _ e58),Nat.le_refl _⟩,?_⟩
    refine⟨_,rfl,_,rfl,_,rfl,smn 2,fun tk htk=>?_⟩
    have sa:=aq htk (.tup [.int (i:Nat),.int (j:Nat)])
    have ea:(upd H9 tk (.tup [.int (i:Nat),.int (j:Nat)])) tk=some (.tup [.int (i:Nat),.int (j:Nat)]):=ak
    generalize upd H9 tk (.tup [.int (i:Nat),.int (j:Nat)])=Ha at sa ea ⊢
    have s8a:=s9.trans sa
    have hSa:=hS8.same s8a
    have hGa:=hG8.same s8a
    have lcr:lc ∉ ras:=fun z=>by
     obtain⟨q,hq⟩:=List.mem_iff_getElem?.mp z
     have:=hG8.r q lc hq
     rw [hlc] at this
     cases this
    have dr:d ∉ ras:=fun z=>by
     obtain⟨q,hq⟩:=List.mem_iff_getElem?.mp z
     have:=hGa.r q d hq
     rw [hSa.e] at this
     cases this
    have kt:∀(b:Addr)(vs:List V),Ha b=some (.tup vs)->(upd Ha d (.dT (putK kvs (yR i j) (.ref lc)))) b=some (.tup vs):=fun b vs e=>by
     rw [aL (mL e hSa.e (by intro z;cases z))]
     exact e
    have kl:∀(b:Addr)(vs:List V),Ha b=some (.lst vs)->(upd Ha d (.dT (putK kvs (yR i j) (.ref lc)))) b=some (.lst vs):=fun b vs e=>by
     rw [aL (mL e hSa.e (by intro z;cases z))]
     exact e
    refine⟨d,_,rfl,El.t (k:=yR i j) hSa.e ea (aK (by omega)),hE2.n _ _ ⟨_,_,_,_,_,_,rQ G i j vv,_,rfl,fun b u z=>?_,hGa.old (b:=d) (fun b u z hb=>by rw [aL hb];exact z) hgd dr,(hSa.put ak kl kt lcr (kl _ _ (sa _ _ e9)) ((d9.same sa).keepT kt)).mono (fun a b ha hb z=>by unfold Behind;omega),(hO.put hv0 hv1).mono (fun a b ha hb=>by unfold Behind;omega),?_⟩⟩
    ·rw [aL (aF z hdH)]
     exact s8a _ _ (s08 _ _ z)
    ·have:=Ef kvs (yR i j) (.ref lc)
     omega
  ·rintro σ H2 ⟨v8,v9,vh,v10,v11,v12,G,kvs,rfl,s2,hG,hS,hO,hkl⟩
   exact hE1.n _ _ ⟨_,_,_,_,_,_,_,G,kvs,rfl,s2,hG,hS.mono (fun a b ha hb z=>by omega),hO.mono (fun a b ha hb=>by omega),by omega⟩
 ·rintro σ H1 ⟨v7,v8,v9,vh,v10,v11,v12,G,kvs,rfl,s1,hG,hS,hO,hkl⟩
  refine⟨_,rfl,_,rfl,smn 2,fun t ht=>?_⟩
  have s2:=aq ht (.tup [.ref g,.ref d])
  exact k t g d G ras kvs _ (s1.trans s2) ak (hG.same s2) ((hS.mono (fun a b ha hb z=>by omega)).same s2) (hO.mono (fun a b ha hb=>⟨fun _=>by omega,fun _=>trivial⟩)) hras
end
noncomputable def vq:Sp:=fun vs H Q _=>∃(b:Addr)(m n:Nat),vs=[.ref b,.int 0,.int 0,.int (m:Nat),.int (n:Nat)]/\bM b H/\m<=30/\n<=30/\∀(q:Addr)(us:List V)(way:List Stp)(H':Hp),bM b H'->cY b H H'->H' q=some (.tup us)->cj H' us (way.map stD)->lJ m n 0 0 way->Q (.ref q) H'
noncomputable def Nr(H:Hp)(b l:Addr)(m n:Nat)(k:Nat)(σ:L2.St)(H1:Hp):Prop:=∃(v6:Option V)(i j:Nat)(us:List V)(w:List Stp),σ=[some (.ref b),some (.int (i:Nat)),some (.int (j:Nat)),some (.int (m:Nat)),some (.int (n:Nat)),some (.ref l),v6] /\
 k+(i+j)=m+n/\bM b H1/\cY b H H1/\H1 l=some (.lst us)/\cj H1 us (w.map stD)/\i<=m/\j<=n/\w.length<=i+j/\∀ w',lJ m n i j w'->lJ m n 0 0 (w++w')
theorem gQ(i j:Int):jf 1 (.tup [.int i,.int j]):=⟨(fun z=>nomatch z),fun ds e=>by
 injection e with e
 subst e
 refine⟨by simp,fun d hd=>?_⟩
 simp only [List.mem_cons,List.not_mem_nil,or_false] at hd
 rcases hd with rfl | rfl <;> exact pF _⟩
theorem vI(i j m n:Int):pG [.int i,.int j] [.int m,.int n]:=⟨trivial,trivial,trivial⟩
theorem Ed{i j m n:Nat}(h:¬ (i=m/\j=n)):eqD (.tup [.int (i:Nat),.int (j:Nat)]) (.tup [.int (m:Nat),.int (n:Nat)])=false:=pW fun q=>h (by
 have q:=D.tup.inj q
 injection q with q1 q2
 injection q2 with q2
 have:=D.int.inj q1
 have:=D.int.inj q2
 omega)
theorem u5{i j m n:Nat}(hi:i<=m)(hj:j<=n)(h:¬ (i=m/\j=n)):bw i j m n≠[]:=by
 intro z
 unfold bw at z
 have z:=List.map_eq_nil_iff.mp (List.append_eq_nil_iff.mp z).1
 rw [List.filter_eq_nil_iff] at z
 by_cases h2:j < n
 ·exact z (0,1) (by decide) (decide_eq_true ⟨by show i+0<=m;omega,by show j+1<=n;omega⟩)
 ·exact z (1,0) (by decide) (decide_eq_true ⟨by show i+1<=m;omega,by show j+0<=n;omega⟩)
noncomputable def uK:Sp:=fun vs H Q _=>∃(l a b qw qp w:Addr)(xs ys:List Str)(us:List V)(ps:List (Str × Str))(ns:List Int)(wus:List V)(way:List Stp),vs=[.ref l,.ref qw,.ref qp,.ref w]/\gk H l a b qw qp xs ys us ps ns/\(H w=some (.tup wus)\/H w=some (.lst wus))/\cj H wus (way.map stD)/\(∀ s∈way,1<=s.length/\s.length<=2/\∀ q∈s,wW xs.length ys.length q)/\way.length<=900/\∀ H',Same H H'->Q (.int (way.map (aY ns xs ys ps)).sum) H'
noncomputable def qO:Sp:=fun vs H Q _=>∃(w:Addr)(wus:List V)(way:List Stp)(m n:Nat),vs=[.ref w,.int (m:Nat),.int (n:Nat)]/\H w=some (.tup wus)/\cj H wus (way.map stD)/\rH way/\way.length<=900/\m<=900/\n<=900/\∀(b:Bool)(H':Hp),Same H H'->(b=true↔lJ m n 0 0 way)->Q (.bl b) H'
noncomputable def yS:Sp:=fun vs H Q _=>∃(l a b qw qp g:Addr)(xs ys:List Str)(us:List V)(ps:List (Str × Str))(ns:List Int)(F:Nat->Nat->Int)(gus:List V),vs=[.ref l,.ref qw,.ref qp,.int (xs.length:Nat),.int (ys.length:Nat),.ref g]/\gk H l a b qw qp xs ys us ps ns/\iU H g xs.length ys.length F gus/\xs.length<=30/\ys.length<=30/\∀(b:Bool)(H':Hp),Same H H'->(b=true↔Holds xs.length ys.length (aY ns xs ys ps) F)->Q (.bl b) H'
section
open M01
variable {P:Program}{w:World}{K:W.Frag}{mg:Str->Option Value}{base:Heap}
theorem jl:aQ ["_law_pot","_law_i","_law_j","_law_m","_law_n","_law_way","_law_steps_here"] ["_law_pot","_law_i","_law_j","_law_m","_law_n"] (aB oE):=⟨rfl,rfl,rfl,by decide +kernel,rfl,by decide +kernel,by decide +kernel⟩
theorem xQ(h:Has K mg "_law_any_way" oE ["_law_pot","_law_i","_law_j","_law_m","_law_n"])(Py:Cal P w K mg base "_law_steps" 1 ["_law_i","_law_j","_law_m","_law_n"] jY)(Pj:Cal P w K mg base "_law_next" 1 ["_law_pot","_law_many"] iu)(Qj:Cal P w K mg base "_law_on" 1 ["_law_step_here","_law_i","_law_j"] Es)(Ph:mg "len" = none)(Pb:mg "tuple" = none):Cal P w K mg base "_law_any_way" 2 ["_law_pot","_law_i","_law_j","_law_m","_law_n"] vq:=by
 refine h.mk' jl (fun vs H Q E hs=>?_) (fun f cdv A outer s H vs Q E hr hs=>?_)
 ·obtain⟨b,m,n,rfl,_⟩:=hs
  rfl
 obtain⟨b,m,n,rfl,hp,hm,hn,k⟩:=hs
 refine⟨_,(au (aR (i:=5) jl.nd rfl (Or.inl rfl) (cQ ao))
  (au (jo PassesOwn.never (aW (tK hr.units) (aM (aj (pv 1) (aj (pv 2) ao))) (aM (aj (pv 3) (aj (pv 4) ao))) (bB _))
   (au (aR (i:=6) jl.nd rfl (Or.inl rfl) (aG Py hr (by decide) rfl (aj (pv 1) (aj (pv 2) (aj (pv 3) (aj (pv 4) ao))))))
  (au (cI (cZ PySem.F.plainAttrs_list PySem.F.slot_list_append PySem.F.type_list_append bN (pv 5) (aj (bx aX (pv 6) (aG Pj hr (by decide) rfl (aj (pv 0) (aj (aJ aN rfl Ph PySem.boot_len (aj (pv 6) ao)) ao))) (fun _ _=>rfl)) ao)))
  (aC (dg (aG Qj hr (by decide) rfl (aj (bx aX (pv 5) (jy fL aA) (fun _ _=>rfl)) (aj (pv 1) (aj (pv 2) ao)))) (bH (n:=2) rfl (aH (aD (i:=1) jl.nd rfl (Or.inl rfl)) (aH (aD (i:=2) jl.nd rfl (Or.inl rfl)) bI))))))))
  (aC (aV (bV bJ rfl Pb boot_tuple (aj (pv 5) ao)))))),?_⟩
 refine⟨smn 0,fun l hl=>?_⟩
 have nlb:l≠b:=hp.ne hl
 have s0:=aq hl (.lst [])
 have e0:(upd H l (.lst [])) l=some (.lst []):=ak
 generalize upd H l (.lst [])=H0 at s0 e0 ⊢
 refine gN ⟨Nr H b l m n,⟨m+n,_,0,0,[],[],rfl,rfl,hp.same s0,.of s0,e0,trivial,Nat.zero_le _,Nat.zero_le _,Nat.le_refl _,fun w' h=>h⟩,?_⟩
 rintro kk σ H1 ⟨v6,i,j,us,w,rfl,hk,p1,o1,e1,d1,him,hjn,hwl,hw⟩
 refine⟨_,rfl,_,rfl,smn 2,fun ta hta=>⟨_,rfl,_,rfl,smn 2,fun tb htb=>?_⟩⟩
 have t1:=aq hta (.tup [.int (i:Nat),.int (j:Nat)])
 have t2:=aq htb (.tup [.int (m:Nat),.int (n:Nat)])
 have da:Den (upd H1 ta (.tup [.int (i:Nat),.int (j:Nat)])) (.ref ta) (.tup [.int (i:Nat),.int (j:Nat)]):=⟨ta,_,rfl,ak,rfl,rfl,trivial⟩
 generalize upd H1 ta (.tup [.int (i:Nat),.int (j:Nat)])=Ha at t1 t2 da
 have db:Den (upd Ha tb (.tup [.int (m:Nat),.int (n:Nat)])) (.ref tb) (.tup [.int (m:Nat),.int (n:Nat)]):=⟨tb,_,rfl,ak,rfl,rfl,trivial⟩
 have da2:=da.same t2
 have t:=t1.trans t2
 generalize upd Ha tb (.tup [.int (m:Nat),.int (n:Nat)])=H2 at t2 t db da2
 refine⟨_,_,0,da2,db,gQ _ _,gQ _ _,by decide,vI _ _ _ _,_,rfl,?_⟩
 have p2:=p1.same t
 have e2:=t _ _ e1
 have d2:=d1.same t
 have o2:cY b H H2:=o1.trans (.of t)
 have hul:=d2.len
 rw [List.length_map] at hul
 refine cU (fun z=>?_) (fun z=>?_)
 ·have hne:¬ (i=m/\j=n):=fun h=>by
   rw [h.1,h.2,gD] at z
   exact absurd z (by decide)
  refine⟨fun σ' H'=>∃ m',m' < kk/\Nr H b l m n m' σ' H',fun _ _ q=>q,?_⟩
  refine⟨_,rfl,_,rfl,_,rfl,_,rfl,i,j,m,n,rfl,him,hjn,by omega,by omega,fun l3 us3 H3 s3 hf3 e3 d3=>?_⟩
  have n3b:l3≠b:=p2.ne hf3
  have hu3:=d3.len
  rw [List.length_map] at hu3
  have hpos:0 < (bw i j m n).length:=List.length_pos_iff.mpr (u5 him hjn hne)
  have h8:=ig i j m n
  refine gN ⟨_,rfl,.inl ⟨rfl,_,SqL.of (s3 _ _ e2)⟩,_,rfl,_,rfl,_,rfl,l3,_,rfl,.inl (SqL.of e3),b,_,rfl,p2.same s3,by omega,by omega,fun r H4 p4 o4 r0 r1=>?_⟩
  have e4:=o4 _ _ e3 n3b
  have hr:r.toNat < us3.length:=by omega
  have er:((r.toNat:Nat):Int)=r:=by omega
  have hat:atI us3 r=some us3[r.toNat]:=by
   have:=aO (aZ hr)
   rwa [er] at this
  have hrs:r.toNat < (bw i j m n).length:=by omega
  have kt4:∀(c:Addr)(vs:List V),H3 c=some (.tup vs)->H4 c=some (.tup vs):=o4.tup (p2.same s3)
  have dc:Den H3 us3[r.toNat] (stD (bw i j m n)[r.toNat]):=at_of d3 (aZ hr) (by rw [List.getElem?_map,aZ hrs];rfl)
  have gc:=List.getElem_mem hrs
  generalize us3[r.toNat]=vc at hat dc
  generalize (bw i j m n)[r.toNat]=sc at dc gc
  obtain⟨g1,g2,g3⟩:=step_at gc
  have gl:=(cA gc).2.1
  have dc4:=dc.keepT kt4
  have el4:H4 l=some (.lst us):=o4 _ _ (s3 _ _ e2) nlb
  have d4:cj H4 us (w.map stD):=(d2.same s3).keepT kt4
  refine (ixL (p:=l3) rfl rfl (SqL.of e4) (hat) (⟨ l,_,_,rfl,rfl,el4,aK (by omega),?_⟩))
  have e5:(upd H4 l (.lst (us++[vc]))) l=some (.lst (us++[vc])):=ak
  have kt5:=dh (ws:=us++[vc]) el4
  have p5:bM b (upd H4 l (.lst (us++[vc]))):=by
   obtain⟨ns,s,e,r⟩:=p4
   exact⟨ns,s,(aL nlb.symm).trans e,r⟩
  have o5:cY b H (upd H4 l (.lst (us++[vc]))):=fun c o q h=>by
   rw [aL (aF q hl)]
   exact o4 _ _ (s3 _ _ (o2 c o q h)) h
  have d5:=bZ (d4.keepT kt5) (dc4.keepT kt5)
  have dc5:=dc4.keepT kt5
  generalize upd H4 l (.lst (us++[vc]))=H5 at e5 p5 o5 d5 dc5
  refine⟨_,rfl,_,rfl,ixL (p:=l) rfl rfl (SqL.of e5) (pB us vc) (⟨ _,rfl,_,rfl,vc,sc,_,_,rfl,dc5,gl,fun q6 H6 s6 e6=>?_⟩)⟩
  rw [← Int.natCast_add,← Int.natCast_add] at e6
  refine⟨q6,_,rfl,SqT.of e6,rfl,_,_,rfl,_,_,rfl,rfl,?_⟩
  refine⟨m+n - (i+sz1 sc+(j+sz2 sc)),by omega,_,i+sz1 sc,j+sz2 sc,us++[vc],w++[sc],rfl,by omega,p5.same s6,o5.trans (.of s6),s6 _ _ e5,d5.same s6,g1,g2,by rw [List.length_append,List.length_singleton];omega,fun w' h=>?_⟩
  rw [List.append_assoc]
  exact hw _ ⟨gc,h⟩
 ·have heq:i=m/\j=n:=by
   by_cases h:i=m/\j=n
   ·exact h
   ·rw [Ed h] at z
    exact absurd rfl z
  have hth:=hw [] heq
  rw [List.append_nil] at hth
  refine⟨_,rfl,l,us,rfl,.inl ⟨SqL.of e2,fun q hq=>?_⟩⟩
  have sq:=aq hq (.tup us)
  exact k q us w _ (p2.same sq) (o2.trans (.of sq)) ak (d2.same sq) hth
theorem IW:aQ ["_law_sides_here","_law_known_here","_law_prices_here","_law_way"] ["_law_sides_here","_law_known_here","_law_prices_here","_law_way"] (aB yp):=⟨rfl,rfl,rfl,by decide +kernel,rfl,by decide +kernel,by decide +kernel⟩
theorem Kd(h:Has K mg "_law_paid" yp ["_law_sides_here","_law_known_here","_law_prices_here","_law_way"])(Qf:Cal P w K mg base "_law_step" 2 ["_law_sides_here","_law_step_here","_law_known_here","_law_prices_here"] qF)(Px:mg "sum" = none):Cal P w K mg base "_law_paid" 3 ["_law_sides_here","_law_known_here","_law_prices_here","_law_way"] uK:=by
 refine h.mk' IW (fun vs H Q E hs=>?_) (fun f cdv A outer s H vs Q E hr hs=>?_)
 ·obtain⟨l,a,b,qw,qp,w,xs,ys,us,ps,ns,wus,way,rfl,_⟩:=hs
  rfl
 obtain⟨l,a,b,qw,qp,w,xs,ys,us,ps,ns,wus,way,rfl,hL,e,dw,hin,hl,k⟩:=hs
 refine⟨_,(aC (aV (aJ (cR rfl) rfl Px boot_sum (aj (bD ["_law_sides_here","_law_known_here","_law_prices_here","_law_way"] (aB yp) ["_law_sides_here","_law_known_here","_law_prices_here","_law_step_here"] [some 0,some 1,some 2,none] rfl rfl rfl (JM (pv 3)) rfl (by decide +kernel) (by decide +kernel) (by decide +kernel) (by decide +kernel) (hg:=fun cl C s H ex pn E=>(aD (i:=3) (by decide +kernel:(["_law_sides_here","_law_known_here","_law_prices_here","_law_step_here"]:List Str).Nodup) rfl (Or.inl rfl))) (ht:=fun cl C s H ex pn E=>bC) (he:=fun cl C s H ex pn E=>(aG Qf hr (by decide) rfl (aj (pv 0) (aj (pv 3) (aj (pv 1) (aj (pv 2) ao))))))) ao)))),?_⟩
 have hll:=dw.len
 rw [List.length_map] at hll
 rcases e with e | e
 ·refine⟨_,rfl,w,rfl,.inr ⟨⟨_,SqT.of e⟩,fun lc hlc=>?_⟩⟩
  refine bL (J:=Itt K w) (l:=lc) way.length (fun i σ' H'=>∃ v3:Option V,σ'=[some (.ref l),some (.ref qw),some (.ref qp),v3]/\Same H H'/\H' lc=some (.lst (((way.take i).map (aY ns xs ys ps)).map V.int))) ⟨none,rfl,aq hlc _,ak⟩ ?_ ?_
  ·rintro σ' H1 ⟨v3,rfl,s1,e1⟩
   rw [List.take_length] at e1
   exact⟨⟨_,SqT.of (s1 _ _ e),by omega⟩,lc,_,rfl,SqL.of e1,k H1 s1⟩
  ·rintro i σ' H1 hi ⟨v3,rfl,s1,e1⟩
   have hil:i < wus.length:=by omega
   refine⟨⟨_,_,SqT.of (s1 _ _ e),aZ hil⟩,?_⟩
   rintro y H2 ⟨rfl,hy⟩
   have ey:y=wus[i]:=Option.some.inj ((hy _ (SqT.of (s1 _ _ e))).symm.trans (aZ hil))
   have dy:Den H wus[i] (stD way[i]):=at_of dw (aZ hil) (by rw [List.getElem?_map,aZ hi];rfl)
   have hini:=hin _ (List.getElem_mem hi)
   have htk:((way.take (i+1)).map (aY ns xs ys ps)).map V.int=((way.take i).map (aY ns xs ys ps)).map V.int++[.int (aY ns xs ys ps way[i])]:=by rw [take_one (aZ hi),List.map_append,List.map_append];rfl
   rw [htk]
   rw [← ey] at dy
   refine gN (iM (eZ ⟨_,rfl,_,rfl,_,rfl,_,rfl,l,a,b,qw,qp,y,way[i],xs,ys,us,ps,ns,rfl,hL.same s1,dy.same s1,hini.2.2,hini.1,hini.2.1,fun H3 s3=>?_⟩))
   exact⟨_,s3 _ _ e1,aK (by rw [List.length_map,List.length_map,List.length_take];omega),_,rfl,aU (s1.trans s3) hlc,ak⟩
 ·refine⟨_,rfl,w,rfl,.inl ⟨⟨_,SqL.of e⟩,fun lc hlc=>?_⟩⟩
  refine bL (J:=Itl K w) (l:=lc) way.length (fun i σ' H'=>∃ v3:Option V,σ'=[some (.ref l),some (.ref qw),some (.ref qp),v3]/\Same H H'/\H' lc=some (.lst (((way.take i).map (aY ns xs ys ps)).map V.int))) ⟨none,rfl,aq hlc _,ak⟩ ?_ ?_
  ·rintro σ' H1 ⟨v3,rfl,s1,e1⟩
   rw [List.take_length] at e1
   exact⟨⟨_,SqL.of (s1 _ _ e),by omega⟩,lc,_,rfl,SqL.of e1,k H1 s1⟩
  ·rintro i σ' H1 hi ⟨v3,rfl,s1,e1⟩
   have hil:i < wus.length:=by omega
   refine⟨⟨_,_,SqL.of (s1 _ _ e),aZ hil⟩,?_⟩
   rintro y H2 ⟨rfl,hy⟩
   have ey:y=wus[i]:=Option.some.inj ((hy _ (SqL.of (s1 _ _ e))).symm.trans (aZ hil))
   have dy:Den H wus[i] (stD way[i]):=at_of dw (aZ hil) (by rw [List.getElem?_map,aZ hi];rfl)
   have hini:=hin _ (List.getElem_mem hi)
   have htk:((way.take (i+1)).map (aY ns xs ys ps)).map V.int=((way.take i).map (aY ns xs ys ps)).map V.int++[.int (aY ns xs ys ps way[i])]:=by rw [take_one (aZ hi),List.map_append,List.map_append];rfl
   rw [htk]
   rw [← ey] at dy
   refine gN (iM (eZ ⟨_,rfl,_,rfl,_,rfl,_,rfl,l,a,b,qw,qp,y,way[i],xs,ys,us,ps,ns,rfl,hL.same s1,dy.same s1,hini.2.2,hini.1,hini.2.1,fun H3 s3=>?_⟩))
   exact⟨_,s3 _ _ e1,aK (by rw [List.length_map,List.length_map,List.length_take];omega),_,rfl,aU (s1.trans s3) hlc,ak⟩
theorem f9:aQ ["_law_way","_law_m","_law_n","_law_i","_law_j","_law_step_here"] ["_law_way","_law_m","_law_n"] (aB lE):=⟨rfl,rfl,rfl,by decide +kernel,rfl,by decide +kernel,by decide +kernel⟩
theorem Ar(h:Has K mg "_law_through" lE ["_law_way","_law_m","_law_n"])(Py:Cal P w K mg base "_law_steps" 1 ["_law_i","_law_j","_law_m","_law_n"] jY)(Qj:Cal P w K mg base "_law_on" 1 ["_law_step_here","_law_i","_law_j"] Es):Cal P w K mg base "_law_through" 2 ["_law_way","_law_m","_law_n"] qO:=by
 refine h.mk' f9 (fun vs H Q E hs=>?_) (fun f cdv A outer s H vs Q E hr hs=>?_)
 ·obtain⟨w,wus,way,m,n,rfl,_⟩:=hs
  rfl
 obtain⟨w,wus,way,m,n,rfl,e,dw,sm,hl,hm,hn,k⟩:=hs
 refine⟨_,(au (dg (aM (aj aA (aj aA ao))) (bH (n:=2) rfl (aH (aD (i:=3) f9.nd rfl (Or.inl rfl)) (aH (aD (i:=4) f9.nd rfl (Or.inl rfl)) bI))))
  (au (cG PassesOwn.never rfl (bQ (pv 0)) (aD (i:=5) f9.nd rfl (Or.inl rfl))
   (au (cD (aW (qQ hr.units) (pv 5) (aG Py hr (by decide) rfl (aj (pv 3) (aj (pv 4) (aj (pv 1) (aj (pv 2) ao))))) (by with_unfolding_all rfl))
   (aC (aV fJ))
   bF)
  (aC (dg (aG Qj hr (by decide) rfl (aj (pv 5) (aj (pv 3) (aj (pv 4) ao)))) (bH (n:=2) rfl (aH (aD (i:=3) f9.nd rfl (Or.inl rfl)) (aH (aD (i:=4) f9.nd rfl (Or.inl rfl)) bI)))))))
  (aC (aV (fG (Hs hr.units) (aM (aj (pv 3) (aj (pv 4) ao))) (aM (aj (pv 1) (aj (pv 2) ao))) (bB _)))))),?_⟩
 have hll:=dw.len
 rw [List.length_map] at hll
 refine⟨smn 2,fun tz htz=>⟨tz,_,rfl,SqT.of ak,rfl,_,_,rfl,_,_,rfl,rfl,?_⟩⟩
 have s1:=aq htz (.tup [.int 0,.int 0])
 generalize upd H tz (.tup [.int 0,.int 0])=H1 at s1 ⊢
 refine⟨_,rfl,w,rfl,⟨_,SqT.of (s1 _ _ e)⟩,?_⟩
 refine gR (K:=K0) (a:=w) (xs:=wus) (fun z σ H2=>∃(v5:Option V)(i j:Nat),σ=[some (.ref w),some (.int (m:Nat)),some (.int (n:Nat)),some (.int (i:Nat)),some (.int (j:Nat)),v5]/\Same H H2/\i<=m/\j<=n/\(lJ m n 0 0 way↔lJ m n i j (way.drop z))) ⟨_,0,0,rfl,s1,Nat.zero_le _,Nat.zero_le _,Iff.rfl⟩ ?_ ?_ ?_
 ·rintro z σ H2 _ ⟨_,_,_,_,s2,_⟩
  exact SqT.of (s2 _ _ e)
 ·rintro z y σ H2 hz ⟨v5,i,j,rfl,s2,hi,hj,hiff⟩
  have hzl:=(List.getElem?_eq_some_iff.mp hz).1
  have hzw:z < way.length:=by omega
  have dy:Den H y (stD way[z]):=at_of dw hz (by rw [List.getElem?_map,aZ hzw];rfl)
  have hsm:=sm _ (List.getElem_mem hzw)
  rw [List.drop_eq_getElem_cons hzw] at hiff
  generalize way[z]=st at dy hsm hiff
  refine gN ⟨_,rfl,_,rfl,_,rfl,_,rfl,_,rfl,i,j,m,n,rfl,hi,hj,by omega,by omega,fun q us H3 s3 _ eq dq=>?_⟩
  have s23:=s2.trans s3
  have dy3:=dy.same s23
  have hst:∀ s∈bw i j m n,jf 3 (stD s)/\Sim (stD s) (stD st):=fun s hs=>by
   obtain⟨_,h2,h3⟩:=cA hs
   exact⟨lX (by omega) fun l hl=>⟨Nat.le_trans (h3 l hl).la (by decide),Nat.le_trans (h3 l hl).lb (by decide)⟩,zm _ _⟩
  refine⟨q,us,stD st,(bw i j m n).map stD,3,rfl,.inl (SqL.of eq),dy3,dq,fun e he=>by obtain⟨x,_,rfl⟩:=List.mem_map.mp he;exact⟨_,rfl⟩,⟨_,rfl⟩,lX (by omega) fun l hl=>⟨by have:=hsm.2 l hl;omega,by have:=hsm.2 l hl;omega⟩,fun e he=>by obtain⟨x,hx,rfl⟩:=List.mem_map.mp he;exact hst x hx,by decide,_,rfl,?_⟩
  refine cU (fun c=>?_) (fun c=>?_)
  ·refine k false H3 s23 ⟨(fun z=>nomatch z),fun z=>?_⟩
   rw [uF.mpr (hiff.mp z).1] at c
   cases c
  ·have hm:st∈bw i j m n:=by
    refine uF.mp ?_
    cases h:(((bw i j m n).map stD).any fun e=>eqD e (stD st)) with
    | true=>rfl
    | false=>rw [h] at c;exact absurd rfl c
   obtain⟨g1,g2,g3⟩:=step_at hm
   refine⟨_,rfl,_,rfl,_,rfl,y,st,_,_,rfl,dy3,hsm.1,fun p H4 s4 e4=>?_⟩
   rw [← Int.natCast_add,← Int.natCast_add] at e4
   refine⟨p,_,rfl,SqT.of e4,rfl,_,_,rfl,_,_,rfl,rfl,?_⟩
   refine⟨_,i+sz1 st,j+sz2 st,rfl,s23.trans s4,g1,g2,?_⟩
   rw [hiff]
   exact⟨fun z=>z.2,fun z=>⟨hm,z⟩⟩
 ·rintro σ H2 ⟨v5,i,j,rfl,s2,hi,hj,hiff⟩
  rw [hll,List.drop_length] at hiff
  refine⟨_,rfl,_,rfl,smn 2,fun ta hta=>⟨_,rfl,_,rfl,smn 2,fun tb htb=>?_⟩⟩
  have t1:=aq hta (.tup [.int (i:Nat),.int (j:Nat)])
  have t2:=aq htb (.tup [.int (m:Nat),.int (n:Nat)])
  have da:Den (upd H2 ta (.tup [.int (i:Nat),.int (j:Nat)])) (.ref ta) (.tup [.int (i:Nat),.int (j:Nat)]):=⟨ta,_,rfl,ak,rfl,rfl,trivial⟩
  generalize upd H2 ta (.tup [.int (i:Nat),.int (j:Nat)])=Ha at t1 t2 da
  have db:Den (upd Ha tb (.tup [.int (m:Nat),.int (n:Nat)])) (.ref tb) (.tup [.int (m:Nat),.int (n:Nat)]):=⟨tb,_,rfl,ak,rfl,rfl,trivial⟩
  have da2:=da.same t2
  have t:=t1.trans t2
  generalize upd Ha tb (.tup [.int (m:Nat),.int (n:Nat)])=H3 at t2 t db da2
  refine⟨_,_,0,da2,db,gQ _ _,gQ _ _,by decide,vI _ _ _ _,?_⟩
  refine k _ H3 (s2.trans t) ?_
  rw [hiff]
  constructor
  ·intro z
   by_cases h:i=m/\j=n
   ·exact h
   ·rw [Ed h] at z
    cases z
  ·rintro ⟨rfl,rfl⟩
   exact gD _
theorem dU:aQ ["_law_sides_here","_law_known_here","_law_prices_here","_law_m","_law_n","_law_grid","_law_i","_law_j","_law_step_here","_law_to","_law_at"] ["_law_sides_here","_law_known_here","_law_prices_here","_law_m","_law_n","_law_grid"] (aB iG):=⟨rfl,rfl,rfl,by decide +kernel,rfl,by decide +kernel,by decide +kernel⟩
theorem qW(h:Has K mg "_law_grid_holds" iG ["_law_sides_here","_law_known_here","_law_prices_here","_law_m","_law_n","_law_grid"])(Py:Cal P w K mg base "_law_steps" 1 ["_law_i","_law_j","_law_m","_law_n"] jY)(Qj:Cal P w K mg base "_law_on" 1 ["_law_step_here","_law_i","_law_j"] Es)(Qf:Cal P w K mg base "_law_step" 2 ["_law_sides_here","_law_step_here","_law_known_here","_law_prices_here"] qF)(Pg:mg "range" = none):Cal P w K mg base "_law_grid_holds" 3 ["_law_sides_here","_law_known_here","_law_prices_here","_law_m","_law_n","_law_grid"] yS:=by
 refine h.mk' dU (fun vs H Q E hs=>?_) (fun f cdv A outer s H vs Q E hr hs=>?_)
 ·obtain⟨l,a,b,qw,qp,g,xs,ys,us,ps,ns,F,gus,rfl,_⟩:=hs
  rfl
 obtain⟨l,a,b,qw,qp,g,xs,ys,us,ps,ns,F,gus,rfl,hL,hG,hm,hn,k⟩:=hs
 refine⟨_,(au (cG PassesOwn.never rfl (cC rfl Pg (aj (aP bA (pv 3) aA) ao)) (aD (i:=6) dU.nd rfl (Or.inl rfl))
   (aC (cG PassesOwn.never rfl (cC rfl Pg (aj (aP bA (pv 4) aA) ao)) (aD (i:=7) dU.nd rfl (Or.inl rfl))
   (aC (cG PassesOwn.never rfl (bY (aG Py hr (by decide) rfl (aj (pv 6) (aj (pv 7) (aj (pv 3) (aj (pv 4) ao)))))) (aD (i:=8) dU.nd rfl (Or.inl rfl))
   (au (dg (aG Qj hr (by decide) rfl (aj (pv 8) (aj (pv 6) (aj (pv 7) ao)))) (bH (n:=2) rfl (aH (aD (i:=9) dU.nd rfl (Or.inl rfl)) (aH (aD (i:=10) dU.nd rfl (Or.inl rfl)) bI))))
  (aC (cD (aW Cu (aG Qf hr (by decide) rfl (aj (pv 0) (aj (pv 8) (aj (pv 1) (aj (pv 2) ao))))) (aP fB (bx bh (bx bh (pv 5) (pv 9) (fun _ _=>rfl)) (pv 10) (fun _ _=>rfl)) (bx bh (bx bh (pv 5) (pv 6) (fun _ _=>rfl)) (pv 7) (fun _ _=>rfl))) (bB _))
   (aC (aV fJ))
   bF))))))))
  (aC (aV fJ))),?_⟩
 refine⟨_,rfl,_,_,rfl,rfl,(xs.length:Int)+1,rfl,by omega,by omega,?_⟩
 rw [show ((xs.length:Int)+1).toNat=xs.length+1 by omega]
 refine dj (lo:=0) (n:=xs.length+1) (fun x σ H1=>∃(v6 v7 v8 v9 v10:Option V),σ=[some (.ref l),some (.ref qw),some (.ref qp),some (.int (xs.length:Nat)),some (.int (ys.length:Nat)),some (.ref g),v6,v7,v8,v9,v10]/\Same H H1/\∀ i j,i < x->i<=xs.length->j<=ys.length->∀ s∈bw i j xs.length ys.length,F (i+sz1 s) (j+sz2 s) - F i j<=aY ns xs ys ps s) ⟨_,_,_,_,_,rfl,Same.refl _,fun i j hi=>by omega⟩ ?_ ?_
 ·rintro x σ H1 hx ⟨v6,v7,v8,v9,v10,rfl,s1,hok⟩
  have exx:(0:Int)+(x:Nat)=(x:Nat):=by omega
  rw [exx]
  refine wU fun E1 hE1=>gN ⟨_,rfl,_,_,rfl,rfl,(ys.length:Int)+1,rfl,by omega,by omega,?_⟩
  rw [show ((ys.length:Int)+1).toNat=ys.length+1 by omega]
  refine dj (lo:=0) (n:=ys.length+1) (fun y σ H3=>∃(v7 v8 v9 v10:Option V),σ=[some (.ref l),some (.ref qw),some (.ref qp),some (.int (xs.length:Nat)),some (.int (ys.length:Nat)),some (.ref g),some (.int (x:Nat)),v7,v8,v9,v10]/\Same H H3/\∀ j,j < y->j<=ys.length->∀ s∈bw x j xs.length ys.length,F (x+sz1 s) (j+sz2 s) - F x j<=aY ns xs ys ps s) ⟨_,_,_,_,rfl,s1,fun j hj=>by omega⟩ ?_ ?_
  ·rintro y σ H3 hy ⟨v7,v8,v9,v10,rfl,s3,hok2⟩
   have eyy:(0:Int)+(y:Nat)=(y:Nat):=by omega
   rw [eyy]
   refine wU fun E2 hE2=>gN ⟨_,rfl,_,rfl,_,rfl,_,rfl,x,y,xs.length,ys.length,rfl,by omega,by omega,by omega,by omega,fun l0 us0 H5 s5 hl5 e5 d5=>?_⟩
   have s05:=s3.trans s5
   have hul:=d5.len
   rw [List.length_map] at hul
   refine⟨l0,rfl,⟨_,SqL.of e5⟩,?_⟩
   refine iI (K:=K0) (a:=l0) (xs:=us0) (fun z σ H6=>∃(v8 v9 v10:Option V),σ=[some (.ref l),some (.ref qw),some (.ref qp),some (.int (xs.length:Nat)),some (.int (ys.length:Nat)),some (.ref g),some (.int (x:Nat)),some (.int (y:Nat)),v8,v9,v10]/\Same H5 H6/\∀ s∈(bw x y xs.length ys.length).take z,F (x+sz1 s) (y+sz2 s) - F x y<=aY ns xs ys ps s) ⟨_,_,_,rfl,Same.refl _,fun s hs=>by cases hs⟩ ?_ ?_ ?_
   ·rintro z σ H6 _ ⟨_,_,_,_,s6,_⟩
    exact SqL.of (s6 _ _ e5)
   ·rintro z u σ H6 hz ⟨v8,v9,v10,rfl,s6,hok3⟩
    have hzl:=(List.getElem?_eq_some_iff.mp hz).1
    have hzs:z < (bw x y xs.length ys.length).length:=by omega
    have dy:Den H6 u (stD (bw x y xs.length ys.length)[z]):=(at_of d5 hz (by rw [List.getElem?_map,aZ hzs];rfl)).same s6
    have hst:=List.getElem_mem hzs
    have htk:=take_one (aZ hzs)
    rw [htk]
    clear htk
    generalize (bw x y xs.length ys.length)[z]=st at dy hst ⊢
    obtain⟨g1,g2,g3⟩:=step_at hst
    obtain⟨t1,t2,t3⟩:=cA hst
    have s06:=s05.trans s6
    refine wU fun E3 hE3=>gN ⟨_,rfl,_,rfl,_,rfl,u,st,_,_,rfl,dy,t2,fun p H7 s7 e7=>?_⟩
    rw [← Int.natCast_add,← Int.natCast_add] at e7
    refine⟨p,_,rfl,SqT.of e7,rfl,_,_,rfl,_,_,rfl,rfl,?_⟩
    have s07:=s06.trans s7
    refine⟨_,rfl,_,rfl,_,rfl,_,rfl,l,a,b,qw,qp,u,st,xs,ys,us,ps,ns,rfl,hL.same s07,dy.same s7,t3,t1,t2,fun H8 s8=>?_⟩
    have s08:=s07.trans s8
    have hG8:=hG.same s08
    obtain⟨ra,row,q1,q2,_,q3⟩:=hG8.get g1 g2
    obtain⟨rb,rol,w1,w2,_,w3⟩:=hG8.get (i:=x) (j:=y) (by omega) (by omega)
    refine⟨_,rfl,_,rfl,ixT (p:=g) rfl rfl (SqT.of hG8.e) (aO q1) (⟨ _,rfl,ixT (p:=ra) rfl rfl (SqT.of q2) (aO q3) (⟨ _,rfl,_,rfl,ixT (p:=g) rfl rfl (SqT.of hG8.e) (aO w1) (⟨ _,rfl,ixT (p:=rb) rfl rfl (SqT.of w2) (aO w3) (⟨ _,_,rfl,rfl,_,_,rfl,rfl,_,rfl,?_⟩)⟩)⟩)⟩)⟩
    refine cU (fun c=>?_) (fun c=>?_)
    ·have c:=of_decide_eq_true c
     refine hE3.r _ _ <| hE2.r _ _ <| hE1.r _ _ <| k false H8 s08 ⟨(fun z=>nomatch z),fun z=>?_⟩
     have:=z x y (by omega) (by omega) st hst
     omega
    ·refine hE3.n _ _ ⟨_,_,_,rfl,(s6.trans s7).trans s8,fun s hs=>?_⟩
     rcases List.mem_append.mp hs with hs | hs
     ·exact hok3 s hs
     ·rw [List.mem_singleton.mp hs]
      exact Int.not_lt.mp fun z=>c (decide_eq_true z)
   ·rintro σ H6 ⟨v8,v9,v10,rfl,s6,hok3⟩
    rw [hul,List.take_length] at hok3
    refine hE2.n _ _ ⟨_,_,_,_,rfl,s05.trans s6,fun j hj hjn s hs=>?_⟩
    by_cases e:j=y
    ·subst e
     exact hok3 s hs
    ·exact hok2 j (by omega) hjn s hs
  ·rintro σ H3 ⟨v7,v8,v9,v10,rfl,s3,hok2⟩
   refine hE1.n _ _ ⟨_,_,_,_,_,rfl,s3,fun i j hi him hjn s hs=>?_⟩
   by_cases e:i=x
   ·subst e
    exact hok2 j (by omega) hjn s hs
   ·exact hok i j (by omega) him hjn s hs
 ·rintro σ H1 ⟨v6,v7,v8,v9,v10,rfl,s1,hok⟩
  exact k true H1 s1 ⟨fun _ i j hi hj s hs=>hok i j (by omega) hi hj s hs,fun _=>rfl⟩
end
noncomputable def oV:Option Int->V
 | none=>.non
 | some x=>.int x
noncomputable abbrev wY:=Nat->Nat->Option Int
noncomputable def Dc(A:wY)(i j:Nat)(v:Option Int):wY:=fun a b=>if a=i/\b=j then v else A a b
theorem jL(A:wY)(i j:Nat)(v:Option Int):Dc A i j v i j=v:=if_pos ⟨rfl,rfl⟩
theorem g8{A:wY}{i j a b:Nat}{v:Option Int}(h:¬ (a=i/\b=j)):Dc A i j v a b=A a b:=if_neg h
structure VGr(H:Hp)(g:Addr)(m n:Nat)(R:Nat->Nat->V)(ras:List Addr):Prop where
 e:H g=some (.lst (ras.map V.ref))
 l:ras.length=m+1
 nd:ras.Nodup
 ng:g ∉ ras
 r:∀(i:Nat)(ra:Addr),ras[i]?=some ra->H ra=some (.lst ((List.range (n+1)).map (R i)))
theorem VGr.same{H H':Hp}{g:Addr}{m n:Nat}{R:Nat->Nat->V}{ras:List Addr}(h:VGr H g m n R ras)(s:Same H H'):VGr H' g m n R ras:=⟨s _ _ h.e,h.l,h.nd,h.ng,fun i ra hi=>s _ _ (h.r i ra hi)⟩
theorem VGr.get{H:Hp}{g:Addr}{m n:Nat}{R:Nat->Nat->V}{ras:List Addr}(h:VGr H g m n R ras){i j:Nat}(hi:i<=m)(hj:j<=n):∃(ra:Addr)(row:List V),ras[i]?=some ra/\atI (ras.map V.ref) ((i:Nat):Int)=some (.ref ra)/\H ra=some (.lst row)/\row.length=n+1/\row=(List.range (n+1)).map (R i)/\atI row ((j:Nat):Int)=some (R i j):=by
 have hl:i < ras.length:=by rw [h.l];omega
 refine⟨ras[i],_,List.getElem?_eq_getElem hl,aO (by rw [List.getElem?_map,List.getElem?_eq_getElem hl];rfl),h.r i _ (List.getElem?_eq_getElem hl),by rw [List.length_map,List.length_range],rfl,aO ?_⟩
 rw [List.getElem?_map,List.getElem?_range (by omega)]
 rfl
theorem CJ{R:Nat->V}{j n:Nat}(v:V)(hj:j<=n):((List.range (n+1)).map R).set j v=(List.range (n+1)).map fun k=>if k=j then v else R k:=by
 refine List.ext_getElem? fun k=>?_
 rw [List.getElem?_set]
 split
 ·rename_i e
  subst e
  rw [if_pos (by rw [List.length_map,List.length_range];omega),List.getElem?_map,List.getElem?_range (by omega)]
  show some v=some (if j=j then v else R j)
  rw [if_pos rfl]
 ·rename_i e
  rw [List.getElem?_map,List.getElem?_map]
  rcases Nat.lt_or_ge k (n+1) with h | h
  ·rw [List.getElem?_range h]
   show some (R k)=some (if k=j then v else R k)
   rw [if_neg fun z=>e z.symm]
  ·rw [List.getElem?_eq_none (by rw [List.length_range];exact h)]
   rfl
theorem VGr.put{H:Hp}{g:Addr}{m n:Nat}{A:wY}{ras:List Addr}(h:VGr H g m n (fun a b=>oV (A a b)) ras){i j:Nat}{ra:Addr}{row:List V}(v:Int)(hi:ras[i]?=some ra)(hj:j<=n)(hr:row=(List.range (n+1)).map fun b=>oV (A i b)):VGr (upd H ra (.lst (row.set j (.int v)))) g m n (fun a b=>oV (Dc A i j (some v) a b)) ras:=by
 refine⟨?_,h.l,h.nd,h.ng,fun a rb hb=>?_⟩
 ·rw [aL (j7 h.ng (List.mem_of_getElem? hi))]
  exact h.e
 ·by_cases e:a=i
  ·subst e
   rw [hi] at hb
   cases hb
   rw [ak,hr,CJ _ hj]
   congr 3
   funext k
   by_cases z:k=j
   ·rw [if_pos z,z,jL]
    rfl
   ·rw [if_neg z,g8 fun q=>z q.2]
  ·have hne:rb≠ra:=fun z=>e ((List.getElem?_inj (List.getElem?_eq_some_iff.mp hb).1 h.nd).mp (by rw [hb,hi,z]))
   rw [aL hne,h.r a rb hb]
   congr 3
   funext k
   rw [g8 fun q=>e q.1]
structure AhI(m n:Nat)(c:Stp->Int)(S:Nat->Nat->Prop)(A:wY):Prop where
 z:A 0 0=some 0
 w:∀ a b x,A a b=some x->a<=m->b<=n->∃ w:List Stp,(∀ w',lJ m n a b w'->lJ m n 0 0 (w++w'))/\(w.map c).sum=x
 h:∀ a b,a<=m->b<=n->S a b->∃ x,A a b=some x/\∀ s∈bw a b m n,∃ y,A (a+sz1 s) (b+sz2 s)=some y/\y<=x+c s
theorem AhI.mono{m n:Nat}{c:Stp->Int}{S T:Nat->Nat->Prop}{A:wY}(h:AhI m n c S A)(hT:∀ a b,a<=m->b<=n->T a b->S a b):AhI m n c T A:=⟨h.z,h.w,fun a b ha hb t=>h.h a b ha hb (hT a b ha hb t)⟩
theorem AhI.met{m n i j:Nat}{c:Stp->Int}{A:wY}(h:AhI m n c (fun a b=>Behind a b i j) A)(hi:i<=m)(hj:j<=n):∃ x,A i j=some x:=by
 by_cases z:i=0/\j=0
 ·rw [z.1,z.2]
  exact⟨0,h.z⟩
 ·by_cases zi:i=0
  ·have hs:one 0 (j - 1) (0,1)∈bw 0 (j - 1) m n:=List.mem_append_left _ (List.mem_map.mpr ⟨(0,1),List.mem_filter.mpr ⟨by decide,decide_eq_true ⟨by show 0+0<=m;omega,by show j - 1+1<=n;omega⟩⟩,rfl⟩)
   obtain⟨x,_,hx⟩:=h.h 0 (j - 1) (Nat.zero_le _) (by omega) (.inr ⟨zi.symm,by omega⟩)
   obtain⟨y,hy,_⟩:=hx _ hs
   have e1:0+sz1 (one 0 (j - 1) (0,1))=i:=by rw [zi];rfl
   have e2:j - 1+sz2 (one 0 (j - 1) (0,1))=j:=by show j - 1+1=j;omega
   rw [e1,e2] at hy
   exact⟨y,hy⟩
  ·have hs:one (i - 1) j (1,0)∈bw (i - 1) j m n:=List.mem_append_left _ (List.mem_map.mpr ⟨(1,0),List.mem_filter.mpr ⟨by decide,decide_eq_true ⟨by show i - 1+1<=m;omega,by show j+0<=n;omega⟩⟩,rfl⟩)
   obtain⟨x,_,hx⟩:=h.h (i - 1) j (by omega) hj (.inl (by omega))
   obtain⟨y,hy,_⟩:=hx _ hs
   have e1:i - 1+sz1 (one (i - 1) j (1,0))=i:=by show i - 1+1=i;omega
   have e2:j+sz2 (one (i - 1) j (1,0))=j:=rfl
   rw [e1,e2] at hy
   exact⟨y,hy⟩
theorem AhI.put{m n i j:Nat}{c:Stp->Int}{A:wY}{s:Stp}{x:Int}(h:AhI m n c (fun a b=>Behind a b i j) A)(hi:i<=m)(hj:j<=n)(hx:A i j=some x)(hs:s∈bw i j m n)(hl:∀ y,A (i+sz1 s) (j+sz2 s)=some y->x+c s<=y):AhI m n c (fun a b=>Behind a b i j) (Dc A (i+sz1 s) (j+sz2 s) (some (x+c s)))/\(Dc A (i+sz1 s) (j+sz2 s) (some (x+c s))) i j=some x/\∀ a b y,A a b=some y->∃ y',(Dc A (i+sz1 s) (j+sz2 s) (some (x+c s))) a b=some y'/\y'<=y:=by
 have sa:=step_at hs
 have low:∀ a b y,A a b=some y->∃ y',(Dc A (i+sz1 s) (j+sz2 s) (some (x+c s))) a b=some y'/\y'<=y:=fun a b y e=>by
  by_cases z:a=i+sz1 s/\b=j+sz2 s
  ·rw [z.1,z.2,jL]
   rw [z.1,z.2] at e
   exact⟨_,rfl,hl y e⟩
  ·rw [g8 z]
   exact⟨y,e,Int.le_refl _⟩
 refine⟨⟨?_,fun a b y e ha hb=>?_,fun a b ha hb hS=>?_⟩,?_,low⟩
 ·rw [g8 (by omega)]
  exact h.z
 ·by_cases z:a=i+sz1 s/\b=j+sz2 s
  ·rw [z.1,z.2,jL] at e
   obtain⟨w,w1,w2⟩:=h.w i j x hx hi hj
   refine⟨w++[s],fun w' hw=>?_,?_⟩
   ·rw [List.append_assoc]
    exact w1 _ ⟨hs,by rw [← z.1,← z.2];exact hw⟩
   ·rw [List.map_append,List.sum_append,w2,← Option.some.inj e,List.map_cons,List.map_nil,List.sum_cons,List.sum_nil]
    omega
  ·rw [g8 z] at e
   exact h.w a b y e ha hb
 ·obtain⟨y,e,hy⟩:=h.h a b ha hb hS
  refine⟨y,?_,fun t ht=>?_⟩
  ·rw [g8 fun z=>?_]
   ·exact e
   ·rcases hS with hS | ⟨_,hS⟩ <;> omega
  ·obtain⟨u,e1,e2⟩:=hy t ht
   obtain⟨u',e3,e4⟩:=low _ _ u e1
   exact⟨u',e3,by omega⟩
 ·rw [g8 (by omega)]
  exact hx
theorem zM{m n:Nat}{c:Stp->Int}{F:Nat->Nat->Int}(h:Holds m n c F):∀ {w:List Stp}{i j:Nat},lJ m n i j w->i<=m->j<=n->F m n - F i j<=(w.map c).sum
 | [],i,j,hT,_,_=>by
  rw [hT.1,hT.2]
  show F m n - F m n<=0
  omega
 | s :: w,i,j,hT,hi,hj=>by
  obtain⟨g1,g2,_⟩:=step_at hT.1
  have:=zM h hT.2 g1 g2
  have:=h i j hi hj s hT.1
  rw [List.map_cons,List.sum_cons]
  omega
noncomputable def yN:Sp:=fun vs H Q _=>∃(l a b qw qp:Addr)(xs ys:List Str)(us:List V)(ps:List (Str × Str))(ns:List Int),vs=[.ref l,.ref qw,.ref qp,.int (xs.length:Nat),.int (ys.length:Nat)]/\gk H l a b qw qp xs ys us ps ns/\xs.length<=30/\ys.length<=30 /\
 ∀(g:Addr)(F:Nat->Nat->Int)(ras:List Addr)(H':Hp),Same H H'->VGr H' g xs.length ys.length (fun i j=>.int (F i j)) ras->F 0 0=0->Holds xs.length ys.length (aY ns xs ys ps) F->(∃ w,lJ xs.length ys.length 0 0 w/\(w.map (aY ns xs ys ps)).sum=F xs.length ys.length)->Q (.ref g) H'
section
open M01
variable {P:Program}{w:World}{K:W.Frag}{mg:Str->Option Value}{base:Heap}
theorem gZ:aQ ["_law_sides_here","_law_known_here","_law_prices_here","_law_m","_law_n","_law_grid","_law_i","_law_j","_law_step_here","_law_to","_law_at","_law_cost"] ["_law_sides_here","_law_known_here","_law_prices_here","_law_m","_law_n"] (aB rE):=⟨rfl,rfl,rfl,by decide +kernel,rfl,by decide +kernel,by decide +kernel⟩
theorem Gg(h:Has K mg "_law_ahead" rE ["_law_sides_here","_law_known_here","_law_prices_here","_law_m","_law_n"])(Py:Cal P w K mg base "_law_steps" 1 ["_law_i","_law_j","_law_m","_law_n"] jY)(Qj:Cal P w K mg base "_law_on" 1 ["_law_step_here","_law_i","_law_j"] Es)(Qf:Cal P w K mg base "_law_step" 2 ["_law_sides_here","_law_step_here","_law_known_here","_law_prices_here"] qF)(Pg:mg "range" = none):Cal P w K mg base "_law_ahead" 3 ["_law_sides_here","_law_known_here","_law_prices_here","_law_m","_law_n"] yN:=by
 refine h.mk' gZ (fun vs H Q E hs=>?_) (fun f cdv A outer s H vs Q E hr hs=>?_)
 ·obtain⟨l,a,b,qw,qp,xs,ys,us,ps,ns,rfl,_⟩:=hs
  rfl
 obtain⟨l,a,b,qw,qp,xs,ys,us,ps,ns,rfl,hL,hm,hn,k⟩:=hs
 refine⟨_,(au (iW (ix:=5) gZ.nd rfl rfl ["_law_sides_here","_law_known_here","_law_prices_here","_law_m","_law_n","_law_grid","_law_i","_law_j","_law_step_here","_law_to","_law_at","_law_cost"] (aB rE) ["_law_n","_law_i"] [some 4,none] rfl rfl rfl (cC rfl Pg (aj (aP bA (pv 3) aA) ao)) rfl (by decide +kernel) (by decide +kernel) (by decide +kernel) (by decide +kernel) (hg:=fun cl C s H ex pn E=>(aD (i:=1) (by decide +kernel:(["_law_n","_law_i"]:List Str).Nodup) rfl (Or.inl rfl))) (ht:=fun cl C s H ex pn E=>bC) (he:=fun cl C s H ex pn E=>(aP Fl (cQ (aj Ey ao)) (aP bA (pv 0) aA))))
  (au (dg aA (rK (bx aX (pv 5) aA (fun _ _=>rfl)) aA set_list))
  (au (cG PassesOwn.never rfl (cC rfl Pg (aj (aP bA (pv 3) aA) ao)) (aD (i:=6) gZ.nd rfl (Or.inl rfl))
   (aC (cG PassesOwn.never rfl (cC rfl Pg (aj (aP bA (pv 4) aA) ao)) (aD (i:=7) gZ.nd rfl (Or.inl rfl))
   (aC (cG PassesOwn.never rfl (bY (aG Py hr (by decide) rfl (aj (pv 6) (aj (pv 7) (aj (pv 3) (aj (pv 4) ao)))))) (aD (i:=8) gZ.nd rfl (Or.inl rfl))
   (au (dg (aG Qj hr (by decide) rfl (aj (pv 8) (aj (pv 6) (aj (pv 7) ao)))) (bH (n:=2) rfl (aH (aD (i:=9) gZ.nd rfl (Or.inl rfl)) (aH (aD (i:=10) gZ.nd rfl (Or.inl rfl)) bI))))
  (au (aR (i:=11) gZ.nd rfl (Or.inl rfl) (aP bA (bx aX (bx aX (pv 5) (pv 6) (fun _ _=>rfl)) (pv 7) (fun _ _=>rfl)) (aG Qf hr (by decide) rfl (aj (pv 0) (aj (pv 8) (aj (pv 1) (aj (pv 2) ao)))))))
  (aC (cD (PW.pt (wI (aW JD (bx aX (bx aX (pv 5) (pv 9) (fun _ _=>rfl)) (pv 10) (fun _ _=>rfl)) Ey (bB _)) (m7 (aW Cu (pv 11) (bx aX (bx aX (pv 5) (pv 9) (fun _ _=>rfl)) (pv 10) (fun _ _=>rfl)) (bB _)))))
   (aC (dg (pv 11) (rK (bx aX (pv 5) (pv 9) (fun _ _=>rfl)) (pv 10) set_list)))
   bF)))))))))
  (aC (aV (pv 5)))))),?_⟩
 refine⟨_,rfl,_,_,rfl,rfl,(xs.length:Int)+1,rfl,by omega,by omega,fun g hg=>?_⟩
 have enn:((xs.length:Int)+1).toNat=xs.length+1:=by omega
 rw [enn]
 refine eY (J:=Itr 0 (xs.length+1)) (l:=g) (xs.length+1) (fun x σ' H'=>∃(v1:Option V)(ras:List Addr),σ'=[some (.int (ys.length:Nat)),v1]/\Same H H'/\H' g=some (.lst (ras.map V.ref))/\ras.length=x/\ras.Nodup/\g ∉ ras/\∀ ra∈ras,H ra=none/\H' ra=some (.lst (List.replicate (ys.length+1) (V.non)))) ⟨none,[],rfl,aq hg _,ak,rfl,List.nodup_nil,(fun h=>nomatch h),fun ra h=>nomatch h⟩ ?_ ?_
 rotate_left
 ·rintro x σ' H1 hx ⟨v1,ras,rfl,s1,e1,hl1,nd1,ng1,r1⟩
  refine⟨hx,?_⟩
  rintro N hN y H2 ⟨rfl,rfl⟩
  refine gN (iM (eZ ⟨smn 1,fun p hp=>⟨_,rfl,_,_,rfl,rfl,p,_,_,rfl,rfl,ak,by omega,by omega,small (by rw [List.length_singleton];omega),fun q hq=>?_⟩⟩))
  have s3:=(aq hp (.lst [.non])).trans (aq hq (.lst (List.replicate ((ys.length:Int)+1).toNat [V.non]).flatten))
  have e3:(upd (upd H2 p (.lst [.non])) q (.lst (List.replicate ((ys.length:Int)+1).toNat [V.non]).flatten)) q=some (.lst (List.replicate (ys.length+1) (V.non))):=by
   rw [ak,show ((ys.length:Int)+1).toNat=ys.length+1 by omega]
   congr 2
   induction (ys.length+1) with
   | zero=>rfl
   | succ n ih=>rw [List.replicate_succ,List.flatten_cons,ih,List.replicate_succ];rfl
  have hqn:H2 q=none:=by
   rw [aL] at hq
   ·exact hq
   ·intro z
    rw [z,ak] at hq
    cases hq
  generalize upd (upd H2 p (.lst [.non])) q (.lst (List.replicate ((ys.length:Int)+1).toNat [V.non]).flatten)=H3 at s3 e3 ⊢
  have e13:=s3 _ _ e1
  have hgq:g≠q:=aF e1 hqn
  refine⟨_,e13,aK (by rw [List.length_map];omega),hN _ _ ⟨_,ras++[q],rfl,aU (s1.trans s3) hg,by rw [ak,List.map_append];rfl,by rw [List.length_append,hl1];rfl,?_,?_,fun ra h=>?_⟩⟩
  ·rw [List.nodup_append]
   refine⟨nd1,by simp,fun x hx y hy z=>?_⟩
   rw [List.mem_singleton.mp hy] at z
   have:=(r1 x hx).2
   rw [z,hqn] at this
   cases this
  ·intro h
   rcases List.mem_append.mp h with h | h
   ·exact ng1 h
   ·exact hgq (List.mem_singleton.mp h)
  ·rcases List.mem_append.mp h with h | h
   ·exact⟨(r1 ra h).1,by rw [aL (j7 ng1 h).symm];exact s3 _ _ (r1 ra h).2⟩
   ·rw [List.mem_singleton.mp h]
    refine⟨?_,by rw [aL hgq.symm];exact e3⟩
    cases z:H q with
    | none=>rfl
    | some u=>rw [s1 _ _ z] at hqn;cases hqn
 rintro σ' H1 ⟨v1,ras,rfl,s1,e1,hl1,nd1,ng1,r1⟩
 have hras:∀ ra∈ras,H ra=none:=fun ra h=>(r1 ra h).1
 have hG0:VGr H1 g xs.length ys.length (fun _ _=>oV none) ras:=by
  refine⟨e1,hl1,nd1,ng1,fun i ra hi=>?_⟩
  rw [(r1 ra (List.mem_of_getElem? hi)).2]
  congr 2
  exact (List.eq_replicate_iff.mpr ⟨by rw [List.length_map,List.length_range],fun b hb=>by
   obtain⟨q,hq,rfl⟩:=List.mem_map.mp hb
   rfl⟩).symm
 clear e1 r1
 obtain⟨ra,row,q0,q1,q2,q4,q5,q3⟩:=hG0.get (i:=0) (j:=0) (Nat.zero_le _) (Nat.zero_le _)
 refine⟨Nat.le_refl _,gN ?_⟩
 refine⟨_,rfl,ixL (p:=g) rfl rfl (SqL.of hG0.e) (q1) (⟨ ra,row,_,0,rfl,rfl,q2,sE (j:=0) (by rw [q4];exact Nat.succ_pos _),gN ?_⟩)⟩
 have hra:=List.mem_of_getElem? q0
 have hG:=hG0.put (A:=fun _ _=>none) 0 q0 (j:=0) (Nat.zero_le _) q5
 have s2:Same H (upd H1 ra (.lst (row.set 0 (.int 0)))):=aU s1 (hras ra hra)
 generalize upd H1 ra (.lst (row.set 0 (.int 0)))=H2 at hG s2 ⊢
 have hA:AhI xs.length ys.length (aY ns xs ys ps) (fun a _=>a < 0) (Dc (fun _ _=>none) 0 0 (some 0)):=by
  refine⟨jL _ _ _ _,fun a b x e _ _=>?_,fun a b _ _ h=>by omega⟩
  by_cases z:a=0/\b=0
  ·rw [z.1,z.2,jL] at e
   rw [z.1,z.2]
   exact⟨[],fun w' h=>h,Option.some.inj e⟩
  ·rw [g8 z] at e
   cases e
 clear hG0 q0 q1 q2 q3 q4 q5 hra s1
 generalize Dc (fun _ _=>none) 0 0 (some 0)=A0 at hG hA
 refine⟨_,rfl,_,_,rfl,rfl,(xs.length:Int)+1,rfl,by omega,by omega,?_⟩
 refine dj (lo:=0) (n:=((xs.length:Int)+1).toNat) (fun x σ H3=>∃(v6 v7 v8 v9 v10 v11:Option V)(A:wY),σ=[some (.ref l),some (.ref qw),some (.ref qp),some (.int (xs.length:Nat)),some (.int (ys.length:Nat)),some (.ref g),v6,v7,v8,v9,v10,v11]/\Same H H3/\VGr H3 g xs.length ys.length (fun a b=>oV (A a b)) ras/\AhI xs.length ys.length (aY ns xs ys ps) (fun a _=>a < x) A) ⟨_,_,_,_,_,_,A0,rfl,s2,hG,hA⟩ ?_ ?_
 ·rintro i σ H3 hi ⟨v6,v7,v8,v9,v10,v11,A,rfl,s3,hG,hA⟩
  have hi:i<=xs.length:=by omega
  rw [Int.zero_add]
  refine wU fun E1 hE1=>gN ⟨_,rfl,_,_,rfl,rfl,(ys.length:Int)+1,rfl,by omega,by omega,?_⟩
  refine dj (lo:=0) (n:=((ys.length:Int)+1).toNat) (fun y σ H4=>∃(v7 v8 v9 v10 v11:Option V)(A:wY),σ=[some (.ref l),some (.ref qw),some (.ref qp),some (.int (xs.length:Nat)),some (.int (ys.length:Nat)),some (.ref g),some (.int (i:Nat)),v7,v8,v9,v10,v11]/\Same H H4/\VGr H4 g xs.length ys.length (fun a b=>oV (A a b)) ras/\AhI xs.length ys.length (aY ns xs ys ps) (fun a b=>Behind a b i y) A) ⟨_,_,_,_,_,A,rfl,s3,hG,hA.mono fun a b ha hb z=>by unfold Behind at z;omega⟩ ?_ ?_
  ·rintro j σ H4 hj ⟨v7,v8,v9,v10,v11,A,rfl,s4,hG,hA⟩
   have hj:j<=ys.length:=by omega
   rw [Int.zero_add]
   obtain⟨x,hx⟩:=hA.met hi hj
   refine wU fun E2 hE2=>gN ⟨_,rfl,_,rfl,_,rfl,_,rfl,i,j,xs.length,ys.length,rfl,hi,hj,by omega,by omega,fun l0 us0 H5 s5 hl0 e5 d5=>?_⟩
   have l0r:l0 ∉ ras:=fun z=>by
    obtain⟨q,hq⟩:=List.mem_iff_getElem?.mp z
    have:=hG.r q l0 hq
    rw [hl0] at this
    cases this
   have hul:=d5.len
   rw [List.length_map] at hul
   refine⟨l0,rfl,⟨_,SqL.of e5⟩,?_⟩
   refine iI (K:=K0) (a:=l0) (xs:=us0) (fun z σ H6=>∃(v8 v9 v10 v11:Option V)(A:wY),σ=[some (.ref l),some (.ref qw),some (.ref qp),some (.int (xs.length:Nat)),some (.int (ys.length:Nat)),some (.ref g),some (.int (i:Nat)),some (.int (j:Nat)),v8,v9,v10,v11]/\Same H H6/\H6 l0=some (.lst us0)/\cj H6 us0 ((bw i j xs.length ys.length).map stD)/\VGr H6 g xs.length ys.length (fun a b=>oV (A a b)) ras/\AhI xs.length ys.length (aY ns xs ys ps) (fun a b=>Behind a b i j) A/\A i j=some x/\∀ s∈(bw i j xs.length ys.length).take z,∃ y,A (i+sz1 s) (j+sz2 s)=some y/\y<=x+aY ns xs ys ps s) ⟨_,_,_,_,A,rfl,s4.trans s5,e5,d5,hG.same s5,hA,hx,fun s hs=>by cases hs⟩ ?_ ?_ ?_
   ·rintro z σ H6 _ ⟨_,_,_,_,_,_,_,e6,_⟩
    exact SqL.of e6
   ·clear hG hA hx A s4 s5 e5 d5 v8 v9 v10 v11
    rintro z yv σ H6 hz ⟨v8,v9,v10,v11,A,rfl,s6,e6,d6,hG,hA,hx,hok⟩
    have hzl:z < us0.length:=(List.getElem?_eq_some_iff.mp hz).1
    have hzs:z < (bw i j xs.length ys.length).length:=by omega
    have dy:Den H6 yv (stD (bw i j xs.length ys.length)[z]):=at_of d6 hz (by rw [List.getElem?_map,aZ hzs];rfl)
    have hst:=List.getElem_mem hzs
    have htk:=take_one (aZ hzs)
    rw [htk]
    clear htk
    generalize (bw i j xs.length ys.length)[z]=st at dy hst ⊢
    obtain⟨g1,g2,g3⟩:=step_at hst
    obtain⟨t1,t2,t3⟩:=cA hst
    refine wU fun E3 hE3=>gN ⟨_,rfl,_,rfl,_,rfl,yv,st,(i:Nat),(j:Nat),rfl,dy,t2,fun p H7 s7 e7=>?_⟩
    rw [← Int.natCast_add,← Int.natCast_add] at e7
    refine⟨p,_,rfl,SqT.of e7,rfl,_,_,rfl,_,_,rfl,rfl,?_⟩
    have hG7:=hG.same s7
    obtain⟨ra,row,_,q1,q2,_,_,q3⟩:=hG7.get hi hj
    have q3:atI row ((j:Nat):Int)=some (.int x):=by rw [q3,hx];rfl
    refine⟨_,rfl,_,rfl,ixL (p:=g) rfl rfl (SqL.of hG7.e) (q1) (⟨ _,rfl,ixL (p:=ra) rfl rfl (SqL.of q2) (q3) (?_)⟩)⟩
    refine⟨_,rfl,_,rfl,_,rfl,_,rfl,l,a,b,qw,qp,yv,st,xs,ys,us,ps,ns,rfl,hL.same (s6.trans s7),dy.same s7,t3,t1,t2,fun H8 s8=>⟨_,_,rfl,rfl,gN ?_⟩⟩
    have s78:=s7.trans s8
    have hG8:=hG.same s78
    obtain⟨rb,rob,p0,p1,p2,p4,p5,p3⟩:=hG8.get g1 g2
    have e8:=s78 _ _ e6
    have d8:=d6.same s78
    have s68:=s6.trans s78
    clear hG hG7 q1 q2 q3 e6 d6 s6 e7 s7 s8 s78
    refine⟨_,rfl,_,rfl,ixL (p:=g) rfl rfl (SqL.of hG8.e) (p1) (⟨ _,rfl,ixL (p:=rb) rfl rfl (SqL.of p2) (p3) (⟨ rfl,_,rfl,?_⟩)⟩)⟩
    refine (fun (hb':(∀ y,A (i+sz1 st) (j+sz2 st)=some y->x+aY ns xs ys ps st<=y)->_)=>cU (fun z=>hb' fun y e=>?c1) (fun z=>?c2)) ?b
    case c1 =>
     have z:=of_decide_eq_true z
     rw [e] at z
     cases z
    case c2 =>
     obtain⟨y,hy⟩:∃ y,A (i+sz1 st) (j+sz2 st)=some y:=by
      cases e:A (i+sz1 st) (j+sz2 st) with
      | none=>exact absurd (decide_eq_true (by rw [e];rfl)) z
      | some y=>exact⟨y,rfl⟩
     have p3:atI rob ((j+sz2 st:Nat):Int)=some (.int y):=by rw [p3,hy];rfl
     refine⟨_,rfl,_,rfl,_,rfl,ixL (p:=g) rfl rfl (SqL.of hG8.e) (p1) (⟨ _,rfl,ixL (p:=rb) rfl rfl (SqL.of p2) (p3) (⟨ _,_,rfl,rfl,_,rfl,?_⟩)⟩)⟩
     refine cU (fun z2=>hb' fun y' e=>?_) (fun z2=>?_)
     ·rw [hy] at e
      have:=of_decide_eq_true z2
      have:=Option.some.inj e
      omega
     ·refine hE3.n _ _ ⟨_,_,_,_,A,rfl,s68,e8,d8,hG8,hA,hx,fun s hs=>?_⟩
      rcases List.mem_append.mp hs with hs | hs
      ·exact hok s hs
      ·rw [List.mem_singleton.mp hs]
       exact⟨y,hy,Int.not_lt.mp fun q=>z2 (decide_eq_true q)⟩
    case b =>
     intro hlow
     obtain⟨n1,n2,n3⟩:=hA.put hi hj hx hst hlow
     have hG9:=hG8.put (x+aY ns xs ys ps st) p0 g2 p5
     have hrb:=List.mem_of_getElem? p0
     refine⟨_,rfl,_,rfl,_,rfl,ixL (p:=g) rfl rfl (SqL.of hG8.e) (p1) (⟨ _,rfl,rb,rob,_,j+sz2 st,rfl,rfl,p2,sE (by omega),?_⟩)⟩
     have kt:=dh (ws:=rob.set (j+sz2 st) (.int (x+aY ns xs ys ps st))) p2
     refine hE3.n _ _ ⟨_,_,_,_,_,rfl,aU s68 (hras rb hrb),?_,d8.keepT kt,hG9,n1,n2,fun s hs=>?_⟩
     ·rw [aL (j7 l0r hrb)]
      exact e8
     ·rcases List.mem_append.mp hs with hs | hs
      ·obtain⟨y,h1,h2⟩:=hok s hs
       obtain⟨y',h3,h4⟩:=n3 _ _ y h1
       exact⟨y',h3,by omega⟩
      ·rw [List.mem_singleton.mp hs]
       exact⟨_,jL _ _ _ _,Int.le_refl _⟩
   ·rintro σ H6 ⟨v8,v9,v10,v11,A,rfl,s6,e6,d6,hG,hA,hx,hok⟩
    rw [hul,List.take_length] at hok
    refine hE2.n _ _ ⟨_,_,_,_,_,A,rfl,s6,hG,hA.z,hA.w,fun a b ha hb hS=>?_⟩
    by_cases z:a=i/\b=j
    ·rw [z.1,z.2]
     exact⟨x,hx,hok⟩
    ·exact hA.h a b ha hb (by unfold Behind at hS ⊢;omega)
  ·rintro σ H4 ⟨v7,v8,v9,v10,v11,A,rfl,s4,hG,hA⟩
   exact hE1.n _ _ ⟨_,_,_,_,_,_,A,rfl,s4,hG,hA.mono fun a b ha hb z=>by unfold Behind;omega⟩
 ·rintro σ H3 ⟨v6,v7,v8,v9,v10,v11,A,rfl,s3,hG,hA⟩
  have hF:∀ a b,a<=xs.length->b<=ys.length->A a b=some ((A a b).getD 0):=fun a b ha hb=>by
   obtain⟨x,hx,_⟩:=hA.h a b ha hb (by omega)
   rw [hx]
   rfl
  refine⟨_,rfl,k g (fun a b=>(A a b).getD 0) ras H3 s3 ⟨hG.e,hG.l,hG.nd,hG.ng,fun i ra hi=>?_⟩ ?_ (fun i j hi hj s hs=>?_) ?_⟩
  ·rw [hG.r i ra hi]
   have hil:=(List.getElem?_eq_some_iff.mp hi).1
   have hl:=hG.l
   refine congrArg (fun q=>some (HO.lst q)) (List.map_congr_left fun j hj=>?_)
   have hj:=List.mem_range.mp hj
   rw [hF i j (by omega) (by omega)]
   rfl
  ·show (A 0 0).getD 0=0
   rw [hA.z]
   rfl
  ·obtain⟨x,hx,hy⟩:=hA.h i j hi hj (by omega)
   obtain⟨y,h1,h2⟩:=hy s hs
   show (A (i+sz1 s) (j+sz2 s)).getD 0 - (A i j).getD 0<=_
   rw [h1,hx]
   show y - x<=_
   omega
  ·obtain⟨w,w1,w2⟩:=hA.w _ _ _ (hF xs.length ys.length (Nat.le_refl _) (Nat.le_refl _)) (Nat.le_refl _) (Nat.le_refl _)
   have:=w1 [] ⟨rfl,rfl⟩
   rw [List.append_nil] at this
   exact⟨w,this,w2⟩
end
theorem Eb{xs:List Str}{r:Nat}(h:r<=xs.length):je (xs.map V.str) none (some (r:Int))=(xs.take r).map V.str:=by
 unfold je
 rw [HT.nZ,HT.jr,List.length_map,Nat.min_eq_left h,List.map_take]
 simp
theorem Dy{xs:List Str}{r:Nat}(h:r<=xs.length):je (xs.map V.str) (some (r:Int)) none=(xs.drop r).map V.str:=by
 unfold je
 rw [HT.nZ,HT.jr,List.length_map,Nat.min_eq_left h,List.map_drop]
 exact List.take_of_length_le (by rw [List.length_drop,List.length_map];omega)
structure fU(H:Hp)(q1 q2 qw qp:Addr)(xs ys:List Str)(us:List V)(ps:List (Str × Str))(ns:List Int):Prop where
 e1:H q1=some (.tup (xs.map V.str))
 e2:H q2=some (.tup (ys.map V.str))
 l1:xs.length<=7
 l2:ys.length<=7
 a1:∀ x∈xs,Asc 1000 x
 a2:∀ x∈ys,Asc 1000 x
 ew:H qw=some (.tup us)
 ul:us.length<=100
 P:PrT H us ps
 ep:H qp=some (.tup (ns.map V.int))
 n5:ns.length=5
theorem fU.same{H H':Hp}{q1 q2 qw qp:Addr}{xs ys:List Str}{us:List V}{ps:List (Str × Str)}{ns:List Int}(h:fU H q1 q2 qw qp xs ys us ps ns)(s:Same H H'):fU H' q1 q2 qw qp xs ys us ps ns:=⟨s _ _ h.e1,s _ _ h.e2,h.l1,h.l2,h.a1,h.a2,s _ _ h.ew,h.ul,h.P.same s,s _ _ h.ep,h.n5⟩
noncomputable def zX:Sp:=fun vs H Q _=>∃(b:Addr)(m:Nat),vs=[.ref b,.int (m:Nat)]/\bM b H/\m<=7 /\
 ∀(t q1 q2 qw qp:Addr)(xs ys:List Str)(us:List V)(ps:List (Str × Str))(ns:List Int)(H':Hp),bM b H'->H' t=some (.tup [.ref q1,.ref q2,.ref qw,.ref qp])->fU H' q1 q2 qw qp xs ys us ps ns->Q (.ref t) H'
section
open M01
variable {P:Program}{w:World}{K:W.Frag}{mg:Str->Option Value}{base:Heap}
theorem mq:aQ ["_law_pot","_law_most","_law_lefts","_law_rights","_law_ones","_law_others"] ["_law_pot","_law_most"] (aB u6):=⟨rfl,rfl,rfl,by decide +kernel,rfl,by decide +kernel,by decide +kernel⟩
theorem Gh(h:Has K mg "_law_drawn" u6 ["_law_pot","_law_most"])(Rw:Cal P w K mg base "_law_list" 2 ["_law_pot"] Fo)(Pj:Cal P w K mg base "_law_next" 1 ["_law_pot","_law_many"] iu)(Q7:Cal P w K mg base "_law_texts" 3 ["_law_pot","_law_cores_here","_law_many"] z9)(Rf:Cal P w K mg base "_law_prices" 2 ["_law_pot"] uJ)(Rx:Cal P w K mg base "_law_known" 2 ["_law_pot","_law_lefts","_law_rights"] zf):Cal P w K mg base "_law_drawn" 4 ["_law_pot","_law_most"] zX:=by
 refine h.mk' mq (fun vs H Q E hs=>?_) (fun f cdv A outer s H vs Q E hr hs=>?_)
 ·obtain⟨b,m,rfl,_⟩:=hs
  rfl
 obtain⟨b,m,rfl,p0,hm,k⟩:=hs
 refine⟨_,(au (zq (i:=2) (j:=3) rfl mq.nd rfl rfl (by decide) rfl rfl (aj (aG Rw hr (by decide) rfl (aj (pv 0) ao)) (aj (aG Rw hr (by decide) rfl (aj (pv 0) ao)) ao)) rfl)
  (au (cD (aW dR (aG Pj hr (by decide) rfl (aj (pv 0) (aj aA ao))) aA (bB _))
   (aC (aR (i:=3) mq.nd rfl (Or.inl rfl) (aP Bp (cH n6 (pv 2) (cX aA) cW) (cH n6 (pv 3) cW (cX aA)))))
   bF)
  (au (aR (i:=4) mq.nd rfl (Or.inl rfl) (aG Q7 hr (by decide) rfl (aj (pv 0) (aj (pv 2) (aj (aG Pj hr (by decide) rfl (aj (pv 0) (aj (aP bA (pv 1) aA) ao))) ao)))))
  (au (aR (i:=5) mq.nd rfl (Or.inl rfl) (aG Q7 hr (by decide) rfl (aj (pv 0) (aj (pv 3) (aj (aG Pj hr (by decide) rfl (aj (pv 0) (aj (aP bA (pv 1) aA) ao))) ao)))))
  (aC (aV (aM (aj (pv 4) (aj (pv 5) (aj (aG Rx hr (by decide) rfl (aj (pv 0) (aj (pv 2) (aj (pv 3) ao)))) (aj (aG Rf hr (by decide) rfl (aj (pv 0) ao)) ao))))))))))),?_⟩
 refine⟨_,rfl,b,rfl,p0,fun l3 c3 H3 p3 o3 n3 N3=>⟨_,rfl,b,rfl,p3,fun l4 c4 H4 p4 o4 n4 N4=>⟨_,_,rfl,?_⟩⟩⟩
 replace N3:=N3.old o4 n3
 refine⟨_,rfl,b,4,rfl,p4,by decide,by decide,fun r H5 p5 o5 _ _=>?_⟩
 replace N3:=N3.old o5 n3
 replace N4:=N4.old o5 n4
 refine⟨rfl,_,rfl,?_⟩
 clear p0 p3 p4 o3 o4 o5
 refine cU ?tt ?tf
 case' tt =>
  intro _
  refine⟨_,rfl,_,rfl,l3,_,rfl,SqL.of N3.e,fun la hla=>?_⟩
  have na:la≠b:=p5.ne hla
  have sa:=aq hla (.lst (je (c3.map V.str) (some 4) none))
  have ea:(upd H5 la (.lst (je (c3.map V.str) (some 4) none))) la=some (.lst (je (c3.map V.str) (some 4) none)):=ak
  generalize upd H5 la (.lst (je (c3.map V.str) (some 4) none))=Ha at sa ea ⊢
  replace p5:=p5.same sa
  replace N3:=N3.old (.of sa) n3
  replace N4:=N4.old (.of sa) n4
  rw [show (4:Int)=((4:Nat):Int) from rfl,Dy (by rw [N3.n];decide)] at ea
  refine⟨_,rfl,_,rfl,l4,_,rfl,SqL.of N4.e,fun lb hlb=>?_⟩
  have sb:=aq hlb (.lst (je (c4.map V.str) none (some 4)))
  have eb:(upd Ha lb (.lst (je (c4.map V.str) none (some 4)))) lb=some (.lst (je (c4.map V.str) none (some 4))):=ak
  generalize upd Ha lb (.lst (je (c4.map V.str) none (some 4)))=Hb at sb eb ⊢
  replace p5:=p5.same sb
  replace N3:=N3.old (.of sb) n3
  rw [show (4:Int)=((4:Nat):Int) from rfl,Eb (by rw [N4.n];decide)] at eb
  refine⟨la,lb,_,_,rfl,rfl,sb _ _ ea,eb,small (by rw [List.length_map,List.length_map,List.length_drop,List.length_take,N3.n,N4.n];decide),fun lc hlc=>gN ?_⟩
  have nc:lc≠b:=p5.ne hlc
  have sc:=aq hlc (.lst ((c3.drop 4).map V.str++(c4.take 4).map V.str))
  have N5:Dj (upd Hb lc (.lst ((c3.drop 4).map V.str++(c4.take 4).map V.str))) lc (c3.drop 4++c4.take 4):=⟨by rw [ak,List.map_append],by rw [List.length_append,List.length_drop,List.length_take,N3.n,N4.n];decide,fun x hx=>by
   rcases List.mem_append.mp hx with h | h
   ·exact N3.a x (List.mem_of_mem_drop h)
   ·exact N4.a x (List.mem_of_mem_take h)⟩
  generalize upd Hb lc (.lst ((c3.drop 4).map V.str++(c4.take 4).map V.str))=H6 at sc N5 ⊢
  generalize c3.drop 4++c4.take 4=c5 at N5
  replace p5:=p5.same sc
  replace N3:=N3.old (.of sc) n3
  clear sa sb sc ea eb hla hlb hlc na N4 n4
 case' tf =>
  intro _
  have N5:=N4
  have nc:=n4
  clear N4 n4
  obtain⟨H6,hH6⟩:∃ H6,H5=H6:=⟨_,rfl⟩
  rw [hH6] at p5 N3 N5 ⊢
  clear hH6
  obtain⟨lc,hlc⟩:∃ lc,l4=lc:=⟨_,rfl⟩
  rw [hlc] at nc N5 ⊢
  clear hlc
  obtain⟨c5,hc5⟩:∃ c5,c4=c5:=⟨_,rfl⟩
  rw [hc5] at N5
  clear hc5
 all_goals
  refine⟨_,rfl,_,rfl,_,rfl,_,rfl,_,_,rfl,rfl,b,_,rfl,p5,by omega,by omega,fun r H7 p7 o7 r0 r1=>?_⟩
  obtain⟨r,rfl⟩:=Int.eq_ofNat_of_zero_le r0
  refine⟨b,l3,c3,r,rfl,p7,n3,N3.old o7 n3,by omega,fun q7 xs H8 p8 o8 e8 hx ax=>gN ?_⟩
  replace N3:=(N3.old o7 n3).old o8 n3
  replace N5:=(N5.old o7 nc).old o8 nc
  refine⟨_,rfl,_,rfl,_,rfl,_,rfl,_,_,rfl,rfl,b,_,rfl,p8,by omega,by omega,fun r' H9 p9 o9 r0' r1'=>?_⟩
  obtain⟨r',rfl⟩:=Int.eq_ofNat_of_zero_le r0'
  refine⟨b,lc,c5,r',rfl,p9,nc,N5.old o9 nc,by omega,fun q8 ys Ha pa oa ea hy ay=>gN ?_⟩
  replace N3:=(N3.old o9 n3).old oa n3
  replace N5:=(N5.old o9 nc).old oa nc
  replace e8:=oa.tup p9 _ _ (o9.tup p8 _ _ e8)
  refine⟨_,rfl,_,rfl,_,rfl,_,rfl,_,rfl,b,l3,lc,c3,c5,rfl,pa,n3,nc,N3,N5,fun qw us ps Hb pb ob ew hu hP=>⟨_,rfl,b,rfl,pb,fun qp ns Hc pc oc ep hns=>⟨smn 4,fun t ht=>?_⟩⟩⟩
  have st:=aq ht (.tup [.ref q7,.ref q8,.ref qw,.ref qp])
  exact k t q7 q8 qw qp xs ys us ps ns _ (pc.same st) ak (fU.same ⟨oc.tup pb _ _ (ob.tup pa _ _ e8),oc.tup pb _ _ (ob.tup pa _ _ ea),by omega,by omega,ax,ay,oc.tup pb _ _ ew,hu,hP.keepT (oc.tup pb),ep,hns⟩ st)
end
theorem pK(m n:Nat):bw m n m n=[]:=by
 cases e:bw m n m n with
 | nil=>rfl
 | cons s ss =>
  have:=step_at (i:=m) (j:=n) (m:=m) (n:=n) (s:=s) (by rw [e];exact .head _)
  omega
theorem ux{b g:Addr}{H:Hp}{us:List V}{a:Addr}(p:bM b H)(e:H g=some (.lst us))(h:us[0]?=some (.ref a)):g≠b:=by
 rintro rfl
 obtain⟨ns,s,e1,_⟩:=p
 rw [e] at e1
 have e1:=HO.lst.inj (Option.some.inj e1)
 rw [e1,List.getElem?_map] at h
 obtain⟨x,_,h⟩:=Option.map_eq_some_iff.mp h
 cases h
theorem Ad{fl:Bool}{m n:Nat}{c:Stp->Int}{G:Grd}(k:kj fl m n c (fun _ _=>True) G){i j:Nat}(hi:i<=m)(hj:j<=n)(h:¬ (i=m/\j=n)):ni fl c G i j m n≠[]:=by
 have hne:SF fl i j m n≠[]:=by
  have:=u5 hi hj h
  cases fl with
  | false=>exact this
  | true=>exact fun z=>this (List.append_eq_nil_iff.mp z).2
 obtain⟨s,hs,e,_⟩:=k.cons i j hi hj trivial hne
 intro z
 have:s∈ni fl c G i j m n:=List.mem_filter.mpr ⟨hs,decide_eq_true e.symm⟩
 rw [z] at this
 cases this
theorem Ai{m n:Nat}{c:Stp->Int}{G:Grd}(h:kj false m n c (fun _ _=>True) G):∀ {w:List Stp}{i j:Nat},lJ m n i j w->i<=m->j<=n->G i j<=(w.map c).sum
 | [],i,j,hT,_,_=>by
  rw [hT.1,hT.2,h.nil m n (Nat.le_refl _) (Nat.le_refl _) trivial (pK m n)]
  exact Int.le_refl _
 | s :: w,i,j,hT,hi,hj=>by
  obtain⟨g1,g2,_⟩:=step_at hT.1
  have ih:=Ai h hT.2 g1 g2
  have hne:bw i j m n≠[]:=fun z=>by have:=hT.1;rw [z] at this;cases this
  obtain⟨_,_,_,hle⟩:=h.cons i j hi hj trivial hne
  have:=hle s hT.1
  unfold fZ at this
  rw [List.map_cons,List.sum_cons]
  omega
theorem jV{H:Hp}{a b:Addr}{vs:List V}(hp:bM b H)(e:H a=some (.lst vs))(h:∀ v∈vs,∀ i:Int,v≠.int i):a≠b:=by
 rintro rfl
 obtain⟨ns,s,e2,_⟩:=hp
 rw [e] at e2
 cases e2
 exact h (.int s) (List.mem_map_of_mem (List.mem_append_right _ (List.mem_singleton.mpr rfl))) s rfl
theorem tX.old{H H':Hp}{ls a b:Addr}{xs:List Str}(hp:bM b H)(o:cY b H H')(h:tX H ls a xs):tX H' ls a xs:=by
 obtain⟨us,e,hl,f⟩:=h.ex
 refine⟨h.nk,us,o _ _ e (jV hp e fun v hv i z=>?_),hl,fun j u x h1 h2=>?_⟩
 ·obtain⟨j,hj⟩:=List.mem_iff_getElem?.mp hv
  have hjl:=(List.getElem?_eq_some_iff.mp hj).1
  obtain⟨t,lc,e1,_⟩:=f j v xs[j] hj (aZ (by omega))
  rw [e1] at z
  cases z
 ·obtain⟨t,lc,e1,e2,e3,e4⟩:=f j u x h1 h2
  refine⟨t,lc,e1,o.tup hp _ _ e2,o _ _ e3 (jV hp e3 fun v hv i z=>?_),e4⟩
  obtain⟨y,_,rfl⟩:=List.mem_map.mp hv
  cases z
theorem gk.old{H H':Hp}{l a b qw qp c:Addr}{xs ys:List Str}{us:List V}{ps:List (Str × Str)}{ns:List Int}(hp:bM c H)(o:cY c H H')(h:gk H l a b qw qp xs ys us ps ns):gk H' l a b qw qp xs ys us ps ns :=
 ⟨o _ _ h.el (jV hp h.el fun v hv i z=>by
  rw [z] at hv
  simp at hv),h.sa.old hp o,h.sb.old hp o,h.tx,h.ty,o.tup hp _ _ h.qw,h.ul,h.P.keepT (o.tup hp),o.tup hp _ _ h.qp,h.n5⟩
theorem fU.old{H H':Hp}{b q1 q2 qw qp:Addr}{xs ys:List Str}{us:List V}{ps:List (Str × Str)}{ns:List Int}(hp:bM b H)(o:cY b H H')(h:fU H q1 q2 qw qp xs ys us ps ns):fU H' q1 q2 qw qp xs ys us ps ns:=⟨o.tup hp _ _ h.e1,o.tup hp _ _ h.e2,h.l1,h.l2,h.a1,h.a2,o.tup hp _ _ h.ew,h.ul,h.P.keepT (o.tup hp),o.tup hp _ _ h.ep,h.n5⟩
theorem iU.old{H H':Hp}{b g:Addr}{m n:Nat}{F:Nat->Nat->Int}{gus:List V}(hp:bM b H)(o:cY b H H')(h:iU H g m n F gus):iU H' g m n F gus:=⟨o.tup hp _ _ h.e,h.l,fun i u hu=>by
 obtain⟨a,e1,e2⟩:=h.r i u hu
 exact⟨a,e1,o.tup hp _ _ e2⟩⟩
noncomputable def Bo:Sp:=fun vs H Q _=>∃(b l a c qw qp:Addr)(xs ys:List Str)(us:List V)(ps:List (Str × Str))(ns:List Int),vs=[.ref b,.ref l,.ref qw,.ref qp,.int (xs.length:Nat),.int (ys.length:Nat)]/\bM b H/\gk H l a c qw qp xs ys us ps ns/\xs.length<=30/\ys.length<=30 /\
 ∀(t w g:Addr)(c:Int)(F:Nat->Nat->Int)(way:List Stp)(wus gus:List V)(H':Hp),bM b H'->cY b H H'->eE H' t w g xs.length ys.length c way F wus gus->vP xs.length ys.length (aY ns xs ys ps) c way F->Q (.ref t) H'
structure m5(H:Hp)(lo:Addr)(m n:Nat)(F:Nat->Nat->Int)(gus:List V):Prop where
 e:H lo=some (.lst gus)
 l:gus.length=m+1
 r:∀(i:Nat)(u:V),gus[i]?=some u->∃ a:Addr,u=.ref a/\H a=some (.lst (((List.range (n+1)).map (F i)).map V.int))
theorem m5.same{H H':Hp}{lo:Addr}{m n:Nat}{F:Nat->Nat->Int}{gus:List V}(h:m5 H lo m n F gus)(s:Same H H'):m5 H' lo m n F gus:=⟨s _ _ h.e,h.l,fun i u hu=>by
 obtain⟨a,e1,e2⟩:=h.r i u hu
 exact⟨a,e1,s _ _ e2⟩⟩
theorem CV{m n:Nat}{c:Stp->Int}{G:Grd}{w:List Stp}(h:kj false m n c (fun _ _=>True) G)(ht:lJ m n 0 0 w)(hs:(w.map c).sum+G m n=G 0 0):vP m n c (G 0 0) w (fun i j=>G 0 0 - G i j):=by
 have hz:=h.nil m n (Nat.le_refl _) (Nat.le_refl _) trivial (pK m n)
 refine⟨ht,by omega,by show G 0 0 - G 0 0=0;omega,by show G 0 0 - G m n=G 0 0;omega,fun i j hi hj s hs=>?_⟩
 have hne:bw i j m n≠[]:=fun z=>by rw [z] at hs;cases hs
 obtain⟨s0,_,_,hle⟩:=h.cons i j hi hj trivial hne
 have:=hle s hs
 unfold fZ at this
 show G 0 0 - G (i+sz1 s) (j+sz2 s) - (G 0 0 - G i j)<=c s
 omega
noncomputable def Nm(H6:Hp)(b l qw qp g d ld:Addr)(m n:Nat)(c:Stp->Int)(G:Grd)(x:Nat)(σ:L2.St)(H2:Hp):Prop:=∃(v11:Option V)(i j:Nat)(us:List V)(w:List Stp),x=(m - i)+(n - j)/\i<=m/\j<=n /\
 σ=[some (.ref b),some (.ref l),some (.ref qw),some (.ref qp),some (.int (m:Nat)),some (.int (n:Nat)),some (.ref g),some (.ref d),some (.ref ld),some (.int (i:Nat)),some (.int (j:Nat)),v11,none] /\
 bM b H2/\cY b H6 H2/\H2 ld=some (.lst us)/\cj H2 us (w.map stD)/\us.length<=i+j/\(∀ w',lJ m n i j w'->lJ m n 0 0 (w++w'))/\(w.map c).sum+G i j=G 0 0
section
open M01
variable {P:Program}{w:World}{K:W.Frag}{mg:Str->Option Value}{base:Heap}
theorem fD:aQ ["_law_pot","_law_sides_here","_law_known_here","_law_prices_here","_law_m","_law_n","_law_grid","_law_steps_here","_law_way","_law_i","_law_j","_law_some","_law_rows"] ["_law_pot","_law_sides_here","_law_known_here","_law_prices_here","_law_m","_law_n"] (aB nu):=⟨rfl,rfl,rfl,by decide +kernel,rfl,by decide +kernel,by decide +kernel⟩
theorem Ia(h:Has K mg "_law_right" nu ["_law_pot","_law_sides_here","_law_known_here","_law_prices_here","_law_m","_law_n"])(QM:Cal P w K mg base "_law_left" 3 ["_law_sides_here","_law_known_here","_law_prices_here","_law_m","_law_n","_law_loose_here"] yQ)(Pj:Cal P w K mg base "_law_next" 1 ["_law_pot","_law_many"] iu)(Qj:Cal P w K mg base "_law_on" 1 ["_law_step_here","_law_i","_law_j"] Es)(Ry:Cal P w K mg base "_law_ahead" 3 ["_law_sides_here","_law_known_here","_law_prices_here","_law_m","_law_n"] yN)(Ph:mg "len" = none)(Pb:mg "tuple" = none):Cal P w K mg base "_law_right" 4 ["_law_pot","_law_sides_here","_law_known_here","_law_prices_here","_law_m","_law_n"] Bo:=by
 refine h.mk' fD (fun vs H Q E hs=>?_) (fun f cdv A outer s H vs Q E hr hs=>?_)
 ·obtain⟨b,l,a,c,qw,qp,xs,ys,uw,ps,ns,rfl,_⟩:=hs
  rfl
 obtain⟨b,l,a,c,qw,qp,xs,ys,uw,ps,ns,rfl,hp,hL,hm,hn,k⟩:=hs
 refine⟨_,(au (dg (aG QM hr (by decide) rfl (aj (pv 1) (aj (pv 2) (aj (pv 3) (aj (pv 4) (aj (pv 5) (aj fJ ao))))))) (bH (n:=2) rfl (aH (aD (i:=6) fD.nd rfl (Or.inr rfl)) (aH (aD (i:=7) fD.nd rfl (Or.inl rfl)) bI))))
  (au (aR (i:=8) fD.nd rfl (Or.inl rfl) (cQ ao))
  (au (dg (aM (aj aA (aj aA ao))) (bH (n:=2) rfl (aH (aD (i:=9) fD.nd rfl (Or.inl rfl)) (aH (aD (i:=10) fD.nd rfl (Or.inl rfl)) bI))))
  (au (jo PassesOwn.never (aW (tK hr.units) (aM (aj (pv 9) (aj (pv 10) ao))) (aM (aj (pv 4) (aj (pv 5) ao))) (bB _))
   (au (aR (i:=11) fD.nd rfl (Or.inl rfl) (Bj (vN hr) (pv 7) (aM (aj (pv 9) (aj (pv 10) ao))) (fun _ _=>rfl)))
  (au (cI (cZ PySem.F.plainAttrs_list PySem.F.slot_list_append PySem.F.type_list_append bN (pv 8) (aj (bx aX (pv 11) (aG Pj hr (by decide) rfl (aj (pv 0) (aj (aJ aN rfl Ph PySem.boot_len (aj (pv 11) ao)) ao))) (fun _ _=>rfl)) ao)))
  (aC (dg (aG Qj hr (by decide) rfl (aj (bx aX (pv 8) (jy fL aA) (fun _ _=>rfl)) (aj (pv 9) (aj (pv 10) ao)))) (bH (n:=2) rfl (aH (aD (i:=9) fD.nd rfl (Or.inl rfl)) (aH (aD (i:=10) fD.nd rfl (Or.inl rfl)) bI))))))))
  (au (iW (ix:=12) fD.nd rfl rfl ["_law_pot","_law_sides_here","_law_known_here","_law_prices_here","_law_m","_law_n","_law_grid","_law_steps_here","_law_way","_law_i","_law_j","_law_some","_law_rows"] (aB nu) ["_law_grid","_law_row"] [some 6,none] rfl rfl rfl (bY (pv 6)) rfl (by decide +kernel) (by decide +kernel) (by decide +kernel) (by decide +kernel) (hg:=fun cl C s H ex pn E=>(aD (i:=1) (by decide +kernel:(["_law_grid","_law_row"]:List Str).Nodup) rfl (Or.inl rfl))) (ht:=fun cl C s H ex pn E=>bC) (he:=fun cl C s H ex pn E=>(bD ["_law_grid","_law_row"] _ ["_law_grid","_law_cost"] [some 0,none] rfl rfl rfl (bY (pv 1)) rfl (by decide +kernel) (by decide +kernel) (rJ (by decide +kernel)) (by decide +kernel) (hg:=fun cl C s H ex pn E=>(aD (i:=1) (by decide +kernel:(["_law_grid","_law_cost"]:List Str).Nodup) rfl (Or.inl rfl))) (ht:=fun cl C s H ex pn E=>bC) (he:=fun cl C s H ex pn E=>(aP fB (bx (aX) (bx (aX) (pv 0) aA (fun _ _=>rfl)) aA (fun _ _=>rfl)) (pv 1))))))
  (au (cD (aW dR (aG Pj hr (by decide) rfl (aj (pv 0) (aj aA ao))) aA (bB _))
   (aC (aR (i:=12) fD.nd rfl (Or.inl rfl) (aG Ry hr (by decide) rfl (aj (pv 1) (aj (pv 2) (aj (pv 3) (aj (pv 4) (aj (pv 5) ao))))))))
   bF)
  (aC (aV (aM (aj (bx aX (bx aX (pv 6) aA (fun _ _=>rfl)) aA (fun _ _=>rfl)) (aj (bV bJ rfl Pb boot_tuple (aj (pv 8) ao)) (aj (bV bJ rfl Pb boot_tuple (aj (bD ["_law_pot","_law_sides_here","_law_known_here","_law_prices_here","_law_m","_law_n","_law_grid","_law_steps_here","_law_way","_law_i","_law_j","_law_some","_law_rows"] (aB nu) ["_law_row"] [none] rfl rfl rfl (bY (pv 12)) rfl (by decide +kernel) (by decide +kernel) (by decide +kernel) (by decide +kernel) (hg:=fun cl C s H ex pn E=>(aD (i:=0) (by decide +kernel:(["_law_row"]:List Str).Nodup) rfl (Or.inl rfl))) (ht:=fun cl C s H ex pn E=>bC) (he:=fun cl C s H ex pn E=>(bV (bJ) rfl Pb boot_tuple (aj (pv 0) ao)))) ao)) ao)))))))))))),?_⟩
 refine⟨_,rfl,_,rfl,_,rfl,_,rfl,_,rfl,false,l,a,c,qw,qp,xs,ys,uw,ps,ns,rfl,hL,hm,hn,fun t6 g d G ras kvs H6 s6 e6 hG hS hO hfr=>?_⟩
 refine⟨t6,_,rfl,SqT.of e6,rfl,_,_,rfl,_,_,rfl,rfl,?_⟩
 have hL6:=hL.same s6
 have p6:=hp.same s6
 have nb:b ∉ ras:=fun z=>by
  obtain⟨_,_,e,_⟩:=hp
  rw [hfr b z] at e
  cases e
 have k:∀(t w g:Addr)(c:Int)(F:Nat->Nat->Int)(way:List Stp)(wus gus:List V)(H':Hp),bM b H'->cY b H6 H'->eE H' t w g xs.length ys.length c way F wus gus->vP xs.length ys.length (aY ns xs ys ps) c way F->Q (.ref t) H':=fun t w g c F way wus gus H' p o=>k t w g c F way wus gus H' p (cY.trans (.of s6) o)
 have hgb:g≠b:=by
  have h0:0 < ras.length:=by rw [hG.l];omega
  exact ux (a:=ras[0]) p6 hG.e (by rw [List.getElem?_map,List.getElem?_eq_getElem h0];rfl)
 have hdb:d≠b:=fun z=>by
  obtain⟨_,_,e,_⟩:=p6
  have:=hS.e
  rw [z,e] at this
  cases this
 clear hfr e6 s6 hp
 refine⟨smn 0,fun ld hld=>gN ?_⟩
 have nlb:ld≠b:=p6.ne hld
 refine⟨smn 2,fun tz htz=>⟨tz,_,rfl,SqT.of ak,rfl,_,_,rfl,_,_,rfl,rfl,?_⟩⟩
 have s0:=(aq hld (.lst [])).trans (aq htz (.tup [.int 0,.int 0]))
 have e0:(upd (upd H6 ld (.lst [])) tz (.tup [.int 0,.int 0])) ld=some (.lst []):=aq htz _ _ _ ak
 generalize upd (upd H6 ld (.lst [])) tz (.tup [.int 0,.int 0])=H0 at s0 e0
 refine⟨Nm H6 b l qw qp g d ld xs.length ys.length (aY ns xs ys ps) G,⟨_,_,0,0,[],[],rfl,Nat.zero_le _,Nat.zero_le _,rfl,p6.same s0,.of s0,e0,trivial,Nat.zero_le _,fun w' h=>h,Int.zero_add _⟩,?_⟩
 clear e0 s0 htz
 rintro kk σ H1 ⟨v11,i,j,us,w,hk,him,hjn,rfl,p1,o1,e1,d1,hwl,hw,hsum⟩
 refine⟨_,rfl,_,rfl,smn 2,fun ta hta=>⟨_,rfl,_,rfl,smn 2,fun tb htb=>?_⟩⟩
 have t1:=aq hta (.tup [.int (i:Nat),.int (j:Nat)])
 have t2:=aq htb (.tup [.int (xs.length:Nat),.int (ys.length:Nat)])
 have da:Den (upd H1 ta (.tup [.int (i:Nat),.int (j:Nat)])) (.ref ta) (.tup [.int (i:Nat),.int (j:Nat)]):=⟨ta,_,rfl,ak,rfl,rfl,trivial⟩
 generalize upd H1 ta (.tup [.int (i:Nat),.int (j:Nat)])=Ha at t1 t2 da
 have db:Den (upd Ha tb (.tup [.int (xs.length:Nat),.int (ys.length:Nat)])) (.ref tb) (.tup [.int (xs.length:Nat),.int (ys.length:Nat)]):=⟨tb,_,rfl,ak,rfl,rfl,trivial⟩
 have da2:=da.same t2
 have t:=t1.trans t2
 generalize upd Ha tb (.tup [.int (xs.length:Nat),.int (ys.length:Nat)])=H2 at t2 t db da2
 refine⟨_,_,0,da2,db,gQ _ _,gQ _ _,by decide,vI _ _ _ _,_,rfl,?_⟩
 have p2:=p1.same t
 have e2:=t _ _ e1
 have d2:=d1.same t
 have o2:cY b H6 H2:=o1.trans (.of t)
 have hul:=d2.len
 rw [List.length_map] at hul
 clear da db da2 t1 t2 t hta htb p1 o1 e1 d1
 refine cU (fun z=>?_) (fun z=>?_)
 ·have hne:¬ (i=xs.length/\j=ys.length):=fun h=>by
   rw [h.1,h.2,gD] at z
   exact absurd z (by decide)
  refine⟨fun σ' H'=>∃ m',m' < kk/\Nm H6 b l qw qp g d ld xs.length ys.length (aY ns xs ys ps) G m' σ' H',fun _ _ q=>q,?_⟩
  have htn:=Ad hO him hjn hne
  refine⟨_,rfl,_,rfl,_,rfl,smn 2,fun tk htk=>?_⟩
  have sc:=aq htk (.tup [.int (i:Nat),.int (j:Nat)])
  have ec:(upd H2 tk (.tup [.int (i:Nat),.int (j:Nat)])) tk=some (.tup [.int (i:Nat),.int (j:Nat)]):=ak
  generalize upd H2 tk (.tup [.int (i:Nat),.int (j:Nat)])=H3 at sc ec ⊢
  obtain⟨l3,us3,v1,_,e3,d3⟩:=hS.v i j him hjn trivial
  have hu3:=d3.len
  rw [List.length_map] at hu3
  have hpos:0 < (ni false (aY ns xs ys ps) G i j xs.length ys.length).length:=List.length_pos_iff.mpr htn
  have h8:(ni false (aY ns xs ys ps) G i j xs.length ys.length).length<=15:=Nat.le_trans (List.length_filter_le _ _) (xr false i j xs.length ys.length)
  have n3b:l3≠b:=by
   have h0:0 < us3.length:=by omega
   obtain⟨q,_,eq,_⟩:=bO (at_of d3 (aZ h0) (by rw [List.getElem?_map,aZ hpos];rfl:((ni false (aY ns xs ys ps) G i j xs.length ys.length).map stD)[0]?=some (.tup _)))
   exact ux (a:=q) p6 e3 (by rw [aZ h0,eq])
  have o3:cY b H6 H3:=o2.trans (.of sc)
  have e3:=o3 _ _ e3 n3b
  have d3:=d3.keepT (o3.tup p6)
  have hdg:vA H3 d (.ref tk) (some (.ref l3)):=by rw [← v1];exact vA.t (o3 _ _ hS.e hdb) ec
  have p3:=p2.same sc
  refine⟨d,_,rfl,hdg,gN ?_⟩
  refine⟨_,rfl,.inl ⟨rfl,_,SqL.of (sc _ _ e2)⟩,_,rfl,_,rfl,_,rfl,l3,_,rfl,.inl (SqL.of e3),b,_,rfl,p3,by omega,by omega,fun r H4 p4 o4 r0 r1=>?_⟩
  have e4:=o4 _ _ e3 n3b
  have hr:r.toNat < us3.length:=by omega
  have er:((r.toNat:Nat):Int)=r:=by omega
  have hat:atI us3 r=some us3[r.toNat]:=by
   have:=aO (aZ hr)
   rwa [er] at this
  have hrs:r.toNat < (ni false (aY ns xs ys ps) G i j xs.length ys.length).length:=by omega
  have kt4:∀(c:Addr)(vs:List V),H3 c=some (.tup vs)->H4 c=some (.tup vs):=o4.tup p3
  have dc:Den H3 us3[r.toNat] (stD (ni false (aY ns xs ys ps) G i j xs.length ys.length)[r.toNat]):=at_of d3 (aZ hr) (by rw [List.getElem?_map,aZ hrs];rfl)
  obtain⟨gc,gt⟩:=List.mem_filter.mp (List.getElem_mem hrs)
  generalize us3[r.toNat]=vc at hat dc
  generalize (ni false (aY ns xs ys ps) G i j xs.length ys.length)[r.toNat]=sc1 at dc gc gt
  have gt:=of_decide_eq_true gt
  unfold fZ at gt
  obtain⟨g1,g2,g3⟩:=step_at gc
  have gl:=(cA gc).2.1
  have dc4:=dc.keepT kt4
  have el4:H4 ld=some (.lst us):=o4 _ _ (sc _ _ e2) nlb
  have d4:cj H4 us (w.map stD):=(d2.same sc).keepT kt4
  refine (ixL (p:=l3) rfl rfl (SqL.of e4) (hat) (⟨ ld,_,_,rfl,rfl,el4,aK (by omega),?_⟩))
  have e5:(upd H4 ld (.lst (us++[vc]))) ld=some (.lst (us++[vc])):=ak
  have kt5:=dh (ws:=us++[vc]) el4
  have p5:bM b (upd H4 ld (.lst (us++[vc]))):=Em p4 nlb
  have o5:cY b H6 (upd H4 ld (.lst (us++[vc]))):=fun c o q h=>by
   rw [aL (aF q hld)]
   exact o4 _ _ (o3 c o q h) h
  have d5:=bZ (d4.keepT kt5) (dc4.keepT kt5)
  have dc5:=dc4.keepT kt5
  generalize upd H4 ld (.lst (us++[vc]))=H5 at e5 p5 o5 d5 dc5
  refine⟨_,rfl,_,rfl,ixL (p:=ld) rfl rfl (SqL.of e5) (pB us vc) (⟨ _,rfl,_,rfl,vc,sc1,_,_,rfl,dc5,gl,fun q6 H7 s7 e7=>?_⟩)⟩
  rw [← Int.natCast_add,← Int.natCast_add] at e7
  refine⟨q6,_,rfl,SqT.of e7,rfl,_,_,rfl,_,_,rfl,rfl,?_⟩
  refine⟨_,?_,_,i+sz1 sc1,j+sz2 sc1,us++[vc],w++[sc1],rfl,g1,g2,rfl,p5.same s7,o5.trans (.of s7),s7 _ _ e5,d5.same s7,by rw [List.length_append,List.length_singleton];omega,fun w' h=>?_,?_⟩
  ·omega
  ·rw [List.append_assoc]
   exact hw _ ⟨gc,h⟩
  ·rw [List.map_append,List.sum_append,List.map_cons,List.map_nil,List.sum_cons,List.sum_nil]
   omega
 ·have heq:i=xs.length/\j=ys.length:=by
   by_cases h:i=xs.length/\j=ys.length
   ·exact h
   ·rw [Ed h] at z
    exact absurd rfl z
  have hth:=hw [] heq
  rw [List.append_nil] at hth
  rw [heq.1,heq.2] at hsum
  have hopt:=CV hO hth hsum
  have hG2:=hG.old o2 hgb nb
  have hle:∀ {w:List Stp},lJ xs.length ys.length 0 0 w->G 0 0<=(w.map (aY ns xs ys ps)).sum:=fun h=>Ai hO h (Nat.zero_le _) (Nat.zero_le _)
  clear hG hS hO z hw hsum hk
  have hsm:=dW hth (Nat.zero_le _) (Nat.zero_le _)
  refine⟨_,rfl,g,rfl,⟨_,SqL.of hG2.e⟩,fun lo hlo=>?_⟩
  have nlo:lo≠b:=p2.ne hlo
  have ndo:ld≠lo:=aF e2 hlo
  refine eY (J:=Itl K0 g) (l:=lo) ras.length (fun x σ' H'=>∃(v:Option V)(gus:List V),σ'=[some (.ref g),v]/\Same H2 H'/\H' lo=some (.lst gus)/\gus.length=x/\∀(y:Nat)(u:V),gus[y]?=some u->∃ a:Addr,u=.ref a/\H2 a=none/\a≠lo/\H' a=some (.lst (((List.range (ys.length+1)).map fun j=>G 0 0 - G y j).map V.int))) ⟨none,[],rfl,aq hlo _,ak,rfl,fun y u h=>by cases h⟩ ?_ ?_
  rotate_left
  ·rintro x σ' H4 hx ⟨v,gus,rfl,s4,e4,hgl,hgr⟩
   have hat:(ras.map V.ref)[x]?=some (.ref ras[x]):=by rw [List.getElem?_map,aZ hx];rfl
   refine⟨⟨_,_,SqL.of (s4 _ _ hG2.e),hat⟩,?_⟩
   rintro N1 hN1 y H5 ⟨rfl,hy⟩
   have ey:y=.ref ras[x]:=Option.some.inj ((hy _ (SqL.of (s4 _ _ hG2.e))).symm.trans hat)
   have hrow:=hG2.r x _ (aZ hx)
   generalize ras[x]=rx at ey hrow
   subst ey
   have hG4:=hG2.same s4
   have hrow4:=s4 _ _ hrow
   refine gN (iM (eZ ⟨_,rfl,rx,rfl,⟨_,SqL.of hrow4⟩,fun li hli=>?_⟩))
   have nli:li≠lo:=(aF e4 hli).symm
   have hli2:H2 li=none:=by
    cases z:H2 li with
    | none=>rfl
    | some u=>rw [s4 _ _ z] at hli;cases hli
   refine eY (J:=Itl K0 rx) (l:=li) (ys.length+1) (fun z σ'' H''=>∃ v:Option V,σ''=[some (.ref g),v]/\Same H5 H''/\H'' li=some (.lst (((List.range z).map fun j=>G 0 0 - G x j).map V.int))) ⟨none,rfl,aq hli _,ak⟩ ?_ ?_
   ·rintro σ'' H6' ⟨v',rfl,s6',e6'⟩
    refine⟨⟨_,SqL.of (s6' _ _ hrow4),by rw [List.length_map,List.length_map,List.length_range];exact Nat.le_refl _⟩,?_⟩
    have e47:=s6' _ _ e4
    have hx':=hx
    rw [hG2.l] at hx'
    refine⟨_,e47,aK (by omega),hN1 _ _ ⟨_,gus++[.ref li],rfl,aU (s4.trans s6') hlo,ak,by rw [List.length_append,hgl];rfl,fun y u hu=>?_⟩⟩
    rcases Nat.lt_or_ge y gus.length with hy | hy
    ·rw [List.getElem?_append_left hy] at hu
     obtain⟨a',h1,h2,h3,h4⟩:=hgr y u hu
     exact⟨a',h1,h2,h3,by rw [aL h3];exact s6' _ _ h4⟩
    ·rw [List.getElem?_append_right hy] at hu
     have hy0:y - gus.length=0:=by
      have:=(List.getElem?_eq_some_iff.mp hu).1
      rw [List.length_singleton] at this
      omega
     rw [hy0] at hu
     have hyx:y=x:=by omega
     rw [hyx]
     exact⟨li,(Option.some.inj hu).symm,hli2,nli,by rw [aL nli];exact e6'⟩
   ·rintro z σ'' H6' hz ⟨v',rfl,s6',e6'⟩
    have hat:(((List.range (ys.length+1)).map (G x)).map V.int)[z]?=some (.int (G x z)):=qU (by omega)
    refine⟨⟨_,_,SqL.of (s6' _ _ hrow4),hat⟩,?_⟩
    rintro N2 hN2 y H7 ⟨rfl,hy⟩
    have ey:y=.int (G x z):=Option.some.inj ((hy _ (SqL.of (s6' _ _ hrow4))).symm.trans hat)
    subst ey
    have hG7:=hG4.same s6'
    obtain⟨ra,row,_,u1,u2,_,_,u3⟩:=hG7.get (i:=0) (j:=0) (Nat.zero_le _) (Nat.zero_le _)
    refine gN (iM (eZ ⟨_,rfl,ixL (p:=g) rfl rfl (SqL.of hG7.e) (u1) (ixL (p:=ra) rfl rfl (SqL.of u2) (u3) (⟨ _,rfl,_,_,rfl,rfl,?_⟩))⟩))
    refine⟨_,e6',aK (by rw [List.length_map,List.length_map,List.length_range];omega),hN2 _ _ ⟨_,rfl,aU s6' hli,?_⟩⟩
    rw [ak,List.range_succ,List.map_append,List.map_append]
    rfl
  rintro σ' H4 ⟨v,gus,rfl,s4,e4,hgl,hgr⟩
  refine⟨⟨_,SqL.of (s4 _ _ hG2.e),by rw [List.length_map];exact Nat.le_refl _⟩,?_⟩
  have hR:m5 H4 lo xs.length ys.length (fun i j=>G 0 0 - G i j) gus:=⟨e4,by rw [hgl,hG2.l],fun i u hu=>by
   obtain⟨a',h1,_,_,h4⟩:=hgr i u hu
   exact⟨a',h1,h4⟩⟩
  have hab:∀(i:Nat)(a:Addr),gus[i]?=some (.ref a)->a≠b:=fun i a' hu=>by
   obtain⟨a2,h1,h2,_⟩:=hgr i _ hu
   cases h1
   exact p2.ne h2
  have p4:=p2.same s4
  have hG4:=hG2.same s4
  have e2:=s4 _ _ e2
  have d2:=d2.same s4
  have o4:cY b H6 H4:=o2.trans (.of s4)
  clear hgr hG2 s4 e4
  refine nxP (fun σ H'=>∃(lr:Addr)(gus:List V)(F:Nat->Nat->Int),σ=[some (.ref b),some (.ref l),some (.ref qw),some (.ref qp),some (.int (xs.length:Nat)),some (.int (ys.length:Nat)),some (.ref g),some (.ref d),some (.ref ld),some (.int (i:Nat)),some (.int (j:Nat)),v11,some (.ref lr)]/\bM b H'/\cY b H6 H'/\m8 H' g xs.length ys.length G ras/\H' ld=some (.lst us)/\cj H' us (w.map stD)/\m5 H' lr xs.length ys.length F gus/\vP xs.length ys.length (aY ns xs ys ps) (G 0 0) w F) (fun N hN=>?_) ?_
  ·refine⟨_,rfl,b,2,rfl,p4,by decide,by decide,fun r H5 p5 o5 _ _=>⟨rfl,_,rfl,?_⟩⟩
   have hG5:=hG4.old o5 hgb nb
   have e5:=o5 _ _ e2 nlb
   have d5:=d2.keepT (o5.tup p4)
   have o05:=o4.trans o5
   have hR5:m5 H5 lo xs.length ys.length (fun i j=>G 0 0 - G i j) gus:=⟨o5 _ _ hR.e nlo,hR.l,fun i u hu=>by
    obtain⟨a',h1,h2⟩:=hR.r i u hu
    exact⟨a',h1,o5 _ _ h2 (hab i a' (by rw [hu,h1]))⟩⟩
   refine cU (fun z=>?_) (fun z=>hN _ _ ⟨lo,gus,_,rfl,p5,o05,hG5,e5,d5,hR5,hopt⟩)
   refine⟨_,rfl,_,rfl,_,rfl,_,rfl,_,rfl,l,a,c,qw,qp,xs,ys,uw,ps,ns,rfl,hL6.old p6 o05,hm,hn,fun g' F ras' H6' s6' hV hF0 hFh hFw=>?_⟩
   obtain⟨w2,hw2,hs2⟩:=hFw
   have h1:=hle hw2
   have h2:=zM hFh hth (Nat.zero_le _) (Nat.zero_le _)
   have h3:=hopt.sum
   exact hN _ _ ⟨g',_,F,rfl,p5.same s6',o05.trans (.of s6'),hG5.same s6',s6' _ _ e5,d5.same s6',⟨hV.e,by rw [List.length_map];exact hV.l,fun i u hu=>by
    rw [List.getElem?_map] at hu
    obtain⟨ra,h1,rfl⟩:=Option.map_eq_some_iff.mp hu
    exact⟨ra,rfl,by rw [hV.r i ra h1,List.map_map];rfl⟩⟩,⟨hth,h3,hF0,by omega,hFh⟩⟩
  clear hR hab hG4 e2 d2 o4 p4 hle hopt hL6
  rintro σ H7 ⟨lr,gus,F,rfl,p7,o7,hG7,e7,d7,hR,hSh⟩
  obtain⟨ra,row,_,u1,u2,_,_,u3⟩:=hG7.get (i:=0) (j:=0) (Nat.zero_le _) (Nat.zero_le _)
  refine⟨_,rfl,ixL (p:=g) rfl rfl (SqL.of hG7.e) (u1) (ixL (p:=ra) rfl rfl (SqL.of u2) (u3) (?_))⟩
  refine⟨_,rfl,ld,us,rfl,.inl ⟨SqL.of e7,fun td htd=>?_⟩⟩
  have s8:=aq htd (.tup us)
  have e8:(upd H7 td (.tup us)) td=some (.tup us):=ak
  generalize upd H7 td (.tup us)=H8 at s8 e8 ⊢
  have hR8:=hR.same s8
  have hrl:=hR.l
  refine⟨_,rfl,lr,rfl,⟨_,SqL.of hR8.e⟩,fun lc hlc=>?_⟩
  refine eY (J:=Itl K0 lr) (l:=lc) gus.length (fun x σ' H'=>∃(v:Option V)(tus:List V),σ'=[v]/\Same H8 H'/\H' lc=some (.lst tus)/\tus.length=x/\∀(y:Nat)(u:V),tus[y]?=some u->∃ a:Addr,u=.ref a/\H' a=some (.tup (((List.range (ys.length+1)).map (F y)).map V.int))) ⟨none,[],rfl,aq hlc _,ak,rfl,fun y u h=>by cases h⟩ ?_ ?_
  ·rintro σ' H9 ⟨v,tus,rfl,s9,e9,htl,htr⟩
   refine⟨⟨_,SqL.of (s9 _ _ hR8.e),Nat.le_refl _⟩,lc,_,rfl,.inl ⟨SqL.of e9,fun tq htq=>⟨smn 3,fun t ht=>?_⟩⟩⟩
   have sa:=aq htq (.tup tus)
   have ea:(upd H9 tq (.tup tus)) tq=some (.tup tus):=ak
   generalize upd H9 tq (.tup tus)=Ha at sa ea ht ⊢
   have st:=aq ht (.tup [.int (G 0 0),.ref td,.ref tq])
   have et:(upd Ha t (.tup [.int (G 0 0),.ref td,.ref tq])) t=some (.tup [.int (G 0 0),.ref td,.ref tq]):=ak
   have s8a:=(s9.trans sa).trans st
   refine k t td tq (G 0 0) F w us tus _ ((p7.same s8).same s8a) (o7.trans (.of (s8.trans s8a))) ⟨et,s8a _ _ e8,(d7.same s8).same s8a,fun s hs=>⟨(hsm.2 s hs).2.1,fun p hp=>⟨((hsm.2 s hs).2.2 p hp).la,((hsm.2 s hs).2.2 p hp).lb⟩⟩,⟨st _ _ ea,by omega,fun y u hu=>?_⟩,by omega⟩ hSh
   obtain⟨a',h1,h2⟩:=htr y u hu
   exact⟨a',h1,(sa.trans st) _ _ h2⟩
  ·rintro x σ' H9 hx ⟨v,tus,rfl,s9,e9,htl,htr⟩
   refine⟨⟨_,_,SqL.of (s9 _ _ hR8.e),aZ hx⟩,?_⟩
   rintro N3 hN3 y Ha ⟨rfl,hy⟩
   have ey:y=gus[x]:=Option.some.inj ((hy _ (SqL.of (s9 _ _ hR8.e))).symm.trans (aZ hx))
   obtain⟨ax,h1,h2⟩:=hR8.r x _ (aZ hx)
   rw [h1] at ey
   subst ey
   refine gN (iM (eZ ⟨_,rfl,ax,_,rfl,.inl ⟨SqL.of (s9 _ _ h2),fun tr htn=>?_⟩⟩))
   have sb:=aq htn (.tup (((List.range (ys.length+1)).map (F x)).map V.int))
   have eb:(upd Ha tr (.tup (((List.range (ys.length+1)).map (F x)).map V.int))) tr=some (.tup (((List.range (ys.length+1)).map (F x)).map V.int)):=ak
   generalize upd Ha tr (.tup (((List.range (ys.length+1)).map (F x)).map V.int))=Hb at sb eb ⊢
   have e9b:=sb _ _ e9
   refine⟨_,e9b,aK (by omega),hN3 _ _ ⟨_,tus++[.ref tr],rfl,aU (s9.trans sb) hlc,ak,by rw [List.length_append,htl];rfl,fun y u hu=>?_⟩⟩
   have kt:=dh (ws:=tus++[V.ref tr]) e9b
   rcases Nat.lt_or_ge y tus.length with hy | hy
   ·rw [List.getElem?_append_left hy] at hu
    obtain⟨a',h1,h2⟩:=htr y u hu
    exact⟨a',h1,kt _ _ (sb _ _ h2)⟩
   ·rw [List.getElem?_append_right hy] at hu
    have hy0:y - tus.length=0:=by
     have:=(List.getElem?_eq_some_iff.mp hu).1
     rw [List.length_singleton] at this
     omega
    rw [hy0] at hu
    have hyx:y=x:=by omega
    rw [hyx]
    exact⟨tr,(Option.some.inj hu).symm,kt _ _ eb⟩
end
noncomputable def Ja:Sp:=fun vs H Q _=>∃(t w g l a b qw qp:Addr)(c:Int)(way:List Stp)(F:Nat->Nat->Int)(wus gus:List V)(xs ys:List Str)(us:List V)(ps:List (Str × Str))(ns:List Int),vs=[.ref t,.ref l,.ref qw,.ref qp,.int (xs.length:Nat),.int (ys.length:Nat)]/\eE H t w g xs.length ys.length c way F wus gus/\gk H l a b qw qp xs ys us ps ns/\xs.length<=30/\ys.length<=30 /\
 ∀(b:Bool)(H':Hp),Same H H'->(b=true↔vP xs.length ys.length (aY ns xs ys ps) c way F)->Q (.bl b) H'
noncomputable def Nq:Sp:=fun vs H Q _=>∃(q1 q2 qw qp t w g:Addr)(c:Int)(way:List Stp)(F:Nat->Nat->Int)(wus gus:List V)(xs ys:List Str)(us:List V)(ps:List (Str × Str))(ns:List Int),vs=[.ref q1,.ref q2,.ref qw,.ref qp,.ref t]/\fU H q1 q2 qw qp xs ys us ps ns/\eE H t w g xs.length ys.length c way F wus gus/\∀ H',Same H H'->Q (.bl true) H'
section
open M01
variable {P:Program}{w:World}{K:W.Frag}{mg:Str->Option Value}{base:Heap}
theorem BR:aQ ["_law_told","_law_sides_here","_law_known_here","_law_prices_here","_law_m","_law_n","_law_cost","_law_way","_law_paper"] ["_law_told","_law_sides_here","_law_known_here","_law_prices_here","_law_m","_law_n"] (aB KJ):=⟨rfl,rfl,rfl,by decide +kernel,rfl,by decide +kernel,by decide +kernel⟩
theorem K7(h:Has K mg "_law_due" KJ ["_law_told","_law_sides_here","_law_known_here","_law_prices_here","_law_m","_law_n"])(QT:Cal P w K mg base "_law_through" 2 ["_law_way","_law_m","_law_n"] qO)(Qk:Cal P w K mg base "_law_paid" 3 ["_law_sides_here","_law_known_here","_law_prices_here","_law_way"] uK)(Qn:Cal P w K mg base "_law_grid_holds" 3 ["_law_sides_here","_law_known_here","_law_prices_here","_law_m","_law_n","_law_grid"] yS):Cal P w K mg base "_law_due" 4 ["_law_told","_law_sides_here","_law_known_here","_law_prices_here","_law_m","_law_n"] Ja:=by
 refine h.mk' BR (fun vs H Q E hs=>?_) (fun f cdv A outer s H vs Q E hr hs=>?_)
 ·obtain⟨t,w,g,l,a,b,qw,qp,c,way,F,wus,gus,xs,ys,us,ps,ns,rfl,_⟩:=hs
  rfl
 obtain⟨t,w,g,l,a,b,qw,qp,c,way,F,wus,gus,xs,ys,us,ps,ns,rfl,hT,hL,hm,hn,k⟩:=hs
 refine⟨_,(au (dg (pv 0) (bH (n:=3) rfl (aH (aD (i:=6) BR.nd rfl (Or.inl rfl)) (aH (aD (i:=7) BR.nd rfl (Or.inl rfl)) (aH (aD (i:=8) BR.nd rfl (Or.inl rfl)) bI)))))
  (au (cD (j9 (gG (aG QT hr (by decide) rfl (aj (pv 7) (aj (pv 4) (aj (pv 5) ao))))))
   (aC (aV fJ))
   bF)
  (au (cD (aW yK (aG Qk hr (by decide) rfl (aj (pv 1) (aj (pv 2) (aj (pv 3) (aj (pv 7) ao))))) (pv 6) (bB _))
   (aC (aV fJ))
   bF)
  (au (cD (PW.pt (wI (aW yK (bx bh (bx bh (pv 8) aA (fun _ _=>rfl)) aA (fun _ _=>rfl)) aA (bB _)) (m7 (aW yK (bx bh (bx bh (pv 8) (pv 4) (fun _ _=>rfl)) (pv 5) (fun _ _=>rfl)) (pv 6) (bB _)))))
   (aC (aV fJ))
   bF)
  (aC (aV (aG Qn hr (by decide) rfl (aj (pv 1) (aj (pv 2) (aj (pv 3) (aj (pv 4) (aj (pv 5) (aj (pv 8) ao))))))))))))),?_⟩
 have di:∀ {a b:Int},decide (V.int a=V.int b)=decide (a=b):=fun {a b}=>decide_eq_decide.mpr ⟨fun z=>by injection z,fun z=>by rw [z]⟩
 refine⟨_,rfl,t,_,rfl,SqT.of hT.e,rfl,_,_,rfl,_,_,rfl,_,_,rfl,rfl,?_⟩
 refine⟨_,rfl,_,rfl,_,rfl,w,wus,way,xs.length,ys.length,rfl,hT.ew,hT.d,hT.sm,hT.lw,by omega,by omega,fun b1 H1 s1 hb=>⟨_,rfl,?_⟩⟩
 cases b1 with
 | false=>exact eZ (k false H1 s1 ⟨(fun z=>nomatch z),fun z=>hb.mpr z.thru⟩)
 | true =>
  have hth:=hb.mp rfl
  have hsm:=dW hth (Nat.zero_le _) (Nat.zero_le _)
  have hT1:=hT.same s1
  refine oZ ⟨_,rfl,_,rfl,_,rfl,_,rfl,l,a,b,qw,qp,w,xs,ys,us,ps,ns,wus,way,rfl,hL.same s1,.inl hT1.ew,hT1.d,hsm.2,hT1.lw,fun H2 s2=>⟨_,rfl,rfl,_,rfl,?_⟩⟩
  have s02:=s1.trans s2
  have hT2:=hT1.same s2
  rw [di]
  refine cU (fun cc=>?_) (fun cc=>?_)
  ·refine k false H2 s02 ⟨(fun z=>nomatch z),fun z=>?_⟩
   rw [decide_eq_true z.sum] at cc
   cases cc
  have hsum:(way.map (aY ns xs ys ps)).sum=c:=by
   by_cases z:(way.map (aY ns xs ys ps)).sum=c
   ·exact z
   ·rw [decide_eq_false z] at cc
    exact absurd rfl cc
  obtain⟨ra,row,u1,u2,u3,u4⟩:=hT2.g.get (i:=0) (j:=0) (Nat.zero_le _) (Nat.zero_le _)
  obtain⟨rb,rol,w1,w2,w3,w4⟩:=hT2.g.get (i:=xs.length) (j:=ys.length) (Nat.le_refl _) (Nat.le_refl _)
  refine⟨_,rfl,ixT (p:=g) rfl rfl (SqT.of hT2.g.e) (aO (j:=0) u1) (ixT (p:=ra) rfl rfl (SqT.of u2) (aO (j:=0) u4) (⟨ rfl,_,rfl,?_⟩))⟩
  rw [di]
  refine cU (fun c1=>?_) (fun c1=>?_)
  ·refine k false H2 s02 ⟨(fun z=>nomatch z),fun z=>?_⟩
   rw [decide_eq_true z.z] at c1
   cases c1
  have h0:F 0 0=0:=by
   by_cases z:F 0 0=0
   ·exact z
   ·rw [decide_eq_false z] at c1
    exact absurd rfl c1
  refine⟨_,rfl,_,rfl,ixT (p:=g) rfl rfl (SqT.of hT2.g.e) (aO w1) (⟨ _,rfl,ixT (p:=rb) rfl rfl (SqT.of w2) (aO w4) (⟨ _,rfl,rfl,_,rfl,?_⟩)⟩)⟩
  rw [di]
  refine cU (fun c2=>?_) (fun c2=>?_)
  ·refine k false H2 s02 ⟨(fun z=>nomatch z),fun z=>?_⟩
   rw [decide_eq_true z.e] at c2
   cases c2
  have h1:F xs.length ys.length=c:=by
   by_cases z:F xs.length ys.length=c
   ·exact z
   ·rw [decide_eq_false z] at c2
    exact absurd rfl c2
  exact⟨_,rfl,_,rfl,_,rfl,_,rfl,_,rfl,_,rfl,l,a,b,qw,qp,g,xs,ys,us,ps,ns,F,gus,rfl,hL.same s02,hT2.g,hm,hn,fun b3 H3 s3 hb3=>k b3 H3 (s02.trans s3) ⟨fun z=>⟨hth,hsum,h0,h1,hb3.mp z⟩,fun z=>hb3.mpr z.holds⟩⟩
theorem mz:aQ ["_law_ones","_law_others","_law_known_here","_law_prices_here","_law_told","_law_shown","_law_sides_here"] ["_law_ones","_law_others","_law_known_here","_law_prices_here","_law_told"] (aB lH):=⟨rfl,rfl,rfl,by decide +kernel,rfl,by decide +kernel,by decide +kernel⟩
theorem wF(h:Has K mg "_law_shown_so" lH ["_law_ones","_law_others","_law_known_here","_law_prices_here","_law_told"])(Pu:Cal P w K mg base "shows_found" 7 ["ones","others","words","prices","told"] rZ)(Qu:Cal P w K mg base "_law_sides" 2 ["_law_ones","_law_others"] rY)(Sv:Cal P w K mg base "_law_due" 4 ["_law_told","_law_sides_here","_law_known_here","_law_prices_here","_law_m","_law_n"] Ja)(Pk:mg "isinstance" = none)(QK:mg "bool" = none)(Ph:mg "len" = none):Cal P w K mg base "_law_shown_so" 8 ["_law_ones","_law_others","_law_known_here","_law_prices_here","_law_told"] Nq:=by
 refine h.mk' mz (fun vs H Q E hs=>?_) (fun f cdv A outer s H vs Q E hr hs=>?_)
 ·obtain⟨q1,q2,qw,qp,t,w,g,c,way,F,wus,gus,xs,ys,us,ps,ns,rfl,_⟩:=hs
  rfl
 obtain⟨q1,q2,qw,qp,t,w,g,c,way,F,wus,gus,xs,ys,us,ps,ns,rfl,hD,hT,k⟩:=hs
 refine⟨_,(au (aR (i:=5) mz.nd rfl (Or.inl rfl) (aG Pu hr (by decide) rfl (aj (pv 0) (aj (pv 1) (aj (pv 2) (aj (pv 3) (aj (pv 4) ao)))))))
  (au (cD (j9 (gG (aJ c7 rfl Pk boot_isinstance (aj (pv 5) (aj (iT (v:=.ty "bool") rfl QK boot_bool rfl) ao)))))
   (aC (aV fJ))
   bF)
  (au (aR (i:=6) mz.nd rfl (Or.inl rfl) (aG Qu hr (by decide) rfl (aj (pv 0) (aj (pv 1) ao))))
  (aC (aV (fG dR (pv 5) (aG Sv hr (by decide) rfl (aj (pv 4) (aj (pv 6) (aj (pv 2) (aj (pv 3) (aj (aJ aN rfl Ph PySem.boot_len (aj (pv 0) ao)) (aj (aJ aN rfl Ph PySem.boot_len (aj (pv 1) ao)) ao))))))) (bB _))))))),?_⟩
 have l1:=hD.l1
 have l2:=hD.l2
 have lu:=hD.ul
 have lx:∀ x∈xs,x.length<=1000:=fun x h=>(hD.a1 x h).l
 have ly:∀ x∈ys,x.length<=1000:=fun x h=>(hD.a2 x h).l
 refine⟨_,rfl,_,rfl,_,rfl,_,rfl,_,rfl,q1,q2,qw,qp,t,w,g,xs,ys,us,ps,ns,c,way,F,wus,gus,rfl,hD.e1,hD.e2,by omega,by omega,lx,ly,hD.ew,by omega,hD.P,hD.ep,hD.n5,hT,fun b1 H1 s1 hb1=>gN ?_⟩
 refine⟨_,rfl,_,_,_,true,rfl,.bl _,oM K,_,rfl,oZ ?_⟩
 have hD1:=hD.same s1
 refine⟨_,rfl,_,rfl,q1,q2,xs,ys,rfl,hD1.e1,hD1.e2,by omega,by omega,hD1.a1,hD1.a2,fun ls la lb H2 s2 el sa1 sb1=>gN ?_⟩
 have hD2:=hD1.same s2
 refine⟨_,rfl,_,rfl,_,rfl,_,rfl,_,rfl,_,rfl,q1,_,rfl,.inr (SqT.of hD2.e1),_,rfl,q2,_,rfl,.inr (SqT.of hD2.e2),?_⟩
 rw [List.length_map,List.length_map]
 refine⟨t,w,g,ls,la,lb,qw,qp,c,way,F,wus,gus,xs,ys,us,ps,ns,rfl,hT.same (s1.trans s2),⟨el,sa1,sb1,lx,ly,hD2.ew,by omega,hD2.P,hD2.ep,hD2.n5⟩,by omega,by omega,fun b2 H3 s3 hb2=>⟨rfl,?_⟩⟩
 have e:b1=b2:=by
  have h:=hb1.trans hb2.symm
  cases b1 <;> cases b2 <;> simp_all
 rw [e,decide_eq_true rfl]
 exact k H3 ((s1.trans s2).trans s3)
end
theorem sU{α:Type}(l:List α)(i:Nat)(v:α)(h:i < l.length):l.take i++[v]++l.drop (i+1)=l.set i v:=by
 rw [List.set_eq_take_append_cons_drop,if_pos h]
 simp
theorem uX{α:Type}{l:List α}{k:Nat}(v:α)(h:l.length=k+1):l.take k++[v]=l.set k v:=by
 rw [← sU l k v (by omega),List.drop_of_length_le (by omega),List.append_nil]
theorem jk{H:Hp}:∀ {vs:List V}{ds:List D} (k:Nat),cj H vs ds->cj H (vs.take k) (ds.take k)
 | [],[],0,_=>trivial
 | [],[],_+1,_=>trivial
 | _ :: _,_ :: _,0,_=>trivial
 | _ :: _,_ :: _,k+1,h=>⟨h.1,jk k h.2⟩
 | [],_ :: _,_,h=>h.elim
 | _ :: _,[],_,h=>h.elim
theorem lV{H:Hp}:∀ {vs:List V}{ds:List D} (k:Nat),cj H vs ds->cj H (vs.drop k) (ds.drop k)
 | _,_,0,h=>h
 | [],[],_+1,_=>trivial
 | _ :: _,_ :: _,k+1,h=>lV k h.2
 | [],_ :: _,_,h=>h.elim
 | _ :: _,[],_,h=>h.elim
theorem Kr{xs:List V}{r:Nat}(h:r<=xs.length):je xs none (some (r:Int))=xs.take r:=by
 unfold je
 rw [HT.nZ,HT.jr,Nat.min_eq_left h]
 simp
theorem KY{xs:List V}{r:Nat}(h:r<=xs.length):je xs (some (r:Int)) none=xs.drop r:=by
 unfold je
 rw [HT.nZ,HT.jr,Nat.min_eq_left h]
 exact List.take_of_length_le (by rw [List.length_drop];omega)
theorem Np{xs:List V}(h:xs≠[]):je xs none (some (-1))=xs.take (xs.length - 1):=by
 have hl:=List.length_pos_iff.mpr h
 unfold je
 have e:HT.sIx xs.length xs.length (some (-1))=xs.length - 1:=by
  show (if (-1:Int) < 0 then ((-1:Int)+(xs.length:Int)).toNat else min (-1:Int).toNat xs.length)=_
  rw [if_pos (by omega)]
  omega
 rw [e,HT.jr]
 simp
theorem eE.old{H H':Hp}{b t w g:Addr}{m n:Nat}{c:Int}{way:List Stp}{F:Nat->Nat->Int}{wus gus:List V}(hp:bM b H)(o:cY b H H')(h:eE H t w g m n c way F wus gus):eE H' t w g m n c way F wus gus:=⟨o.tup hp _ _ h.e,o.tup hp _ _ h.ew,h.d.keepT (o.tup hp),h.sm,h.g.old hp o,h.lw⟩
theorem vg{H:Hp}{g g' a:Addr}{m n i j:Nat}{F:Nat->Nat->Int}{gus:List V}{v:Int}(h:iU H g m n F gus)(hi:i<=m)(hj:j<=n)(e:H g'=some (.tup (gus.set i (.ref a))))(ea:H a=some (.tup ((((List.range (n+1)).map (F i)).map V.int).set j (.int v)))):iU H g' m n (rQ F i j v) (gus.set i (.ref a)):=by
 refine⟨e,by rw [List.length_set,h.l],fun y u hu=>?_⟩
 rw [List.getElem?_set] at hu
 split at hu
 ·rename_i z
  subst z
  rw [if_pos (by rw [h.l];omega)] at hu
  exact⟨a,(Option.some.inj hu).symm,by rw [ea,yJ v hj]⟩
 ·rename_i z
  obtain⟨a',h1,h2⟩:=h.r y u hu
  refine⟨a',h1,?_⟩
  rw [h2]
  congr 3
  exact List.map_congr_left fun k _=>(fY fun q=>z q.1.symm).symm
noncomputable def Bs:Sp:=fun vs H Q _=>∃(bp t w g l a b qw qp:Addr)(c:Int)(way:List Stp)(F:Nat->Nat->Int)(wus gus:List V)(xs ys:List Str)(us:List V)(ps:List (Str × Str))(ns:List Int),vs=[.ref bp,.ref t,.ref l,.ref qw,.ref qp,.int (xs.length:Nat),.int (ys.length:Nat)]/\bM bp H/\eE H t w g xs.length ys.length c way F wus gus/\gk H l a b qw qp xs ys us ps ns/\lJ xs.length ys.length 0 0 way/\xs.length<=30/\ys.length<=30 /\
 ∀(t w g:Addr)(c:Int)(way:List Stp)(F:Nat->Nat->Int)(wus gus:List V)(H':Hp),bM bp H'->cY bp H H'->eE H' t w g xs.length ys.length c way F wus gus->Q (.ref t) H'
theorem Ej{m n:Nat}{w:List Stp}(h:lJ m n 0 0 w):rH w:=fun s hs=>by
 have hsm:=(dW h (Nat.zero_le _) (Nat.zero_le _)).2 s hs
 exact⟨hsm.2.1,fun p hp=>⟨(hsm.2.2 p hp).la,(hsm.2.2 p hp).lb⟩⟩
theorem Ml{r:Int}(h0:0<=r)(h1:r < 6):∃ x:Int,atI [V.int 1,.int (-1),.int 2,.int (-7),.int 40,.int (-1000)] r=some (.int x):=by
 obtain⟨k,rfl⟩:=Int.eq_ofNat_of_zero_le h0
 have hk:k < 6:=by omega
 have e:=aO (xs:=[V.int 1,.int (-1),.int 2,.int (-7),.int 40,.int (-1000)]) (j:=k) (aZ hk)
 have:∀ v∈[V.int 1,.int (-1),.int 2,.int (-7),.int 40,.int (-1000)],∃ x,v=V.int x:=by
  intro v hv
  simp only [List.mem_cons,List.not_mem_nil,or_false] at hv
  rcases hv with rfl | rfl | rfl | rfl | rfl | rfl <;> exact⟨_,rfl⟩
 obtain⟨x,hx⟩:=this _ (List.getElem_mem hk)
 exact⟨x,by rw [e,hx]⟩
noncomputable def Jd(H:Hp)(bp t l qw qp w g q:Addr)(m n:Nat)(c r:Int)(ous:List V)(ow:List Stp)(σ:L2.St)(H':Hp):Prop:=σ=[some (.ref bp),some (.ref t),some (.ref l),some (.ref qw),some (.ref qp),some (.int (m:Nat)),some (.int (n:Nat)),some (.int c),some (.ref w),some (.ref g),some (.int r),some (.ref q),none,none,none,none,none,none,none]/\bM bp H'/\cY bp H H'/\H' q=some (.tup ous)/\cj H' ous (ow.map stD)
section
open M01
variable {P:Program}{w:World}{K:W.Frag}{mg:Str->Option Value}{base:Heap}
theorem bU:aQ ["_law_pot","_law_told","_law_sides_here","_law_known_here","_law_prices_here","_law_m","_law_n","_law_cost","_law_way","_law_paper","_law_kind","_law_other","_law_at","_law_turned","_law_paid_here","_law_i","_law_j","_law_more","_law_row"] ["_law_pot","_law_told","_law_sides_here","_law_known_here","_law_prices_here","_law_m","_law_n"] (aB iJ):=⟨rfl,rfl,rfl,by decide +kernel,rfl,by decide +kernel,by decide +kernel⟩
theorem sX(h:Has K mg "_law_otherwise" iJ ["_law_pot","_law_told","_law_sides_here","_law_known_here","_law_prices_here","_law_m","_law_n"])(Pj:Cal P w K mg base "_law_next" 1 ["_law_pot","_law_many"] iu)(QV:Cal P w K mg base "_law_any_way" 2 ["_law_pot","_law_i","_law_j","_law_m","_law_n"] vq)(Qk:Cal P w K mg base "_law_paid" 3 ["_law_sides_here","_law_known_here","_law_prices_here","_law_way"] uK)(Ph:mg "len" = none):Cal P w K mg base "_law_otherwise" 4 ["_law_pot","_law_told","_law_sides_here","_law_known_here","_law_prices_here","_law_m","_law_n"] Bs:=by
 refine h.mk' bU (fun vs H Q E hs=>?_) (fun f cdv A outer s H vs Q E hr hs=>?_)
 ·obtain⟨bp,t,w,g,l,a,b,qw,qp,c,way,F,wus,gus,xs,ys,us,ps,ns,rfl,_⟩:=hs
  rfl
 obtain⟨bp,t,w,g,l,a,b,qw,qp,c,way,F,wus,gus,xs,ys,us,ps,ns,rfl,hp,hT,hL,hTh,hm,hn,k⟩:=hs
 refine⟨_,(au (dg (pv 1) (bH (n:=3) rfl (aH (aD (i:=7) bU.nd rfl (Or.inl rfl)) (aH (aD (i:=8) bU.nd rfl (Or.inl rfl)) (aH (aD (i:=9) bU.nd rfl (Or.inl rfl)) bI)))))
  (au (aR (i:=10) bU.nd rfl (Or.inl rfl) (aG Pj hr (by decide) rfl (aj (pv 0) (aj aA ao))))
  (au (aR (i:=11) bU.nd rfl (Or.inl rfl) (aG QV hr (by decide) rfl (aj (pv 0) (aj aA (aj aA (aj (pv 5) (aj (pv 6) ao)))))))
  (au (cD (aW dR (pv 10) aA (bB _))
   (aC (aV (aM (aj (aP fB (aP bA (pv 7) aA) (aP iy aA (aG Pj hr (by decide) rfl (aj (pv 0) (aj aA ao))))) (aj (pv 8) (aj (pv 9) ao))))))
   bF)
  (au (cD (aW dR (pv 10) aA (bB _))
   (aC (aV (aM (aj (aG Qk hr (by decide) rfl (aj (pv 2) (aj (pv 3) (aj (pv 4) (aj (pv 11) ao))))) (aj (pv 11) (aj (pv 9) ao))))))
   bF)
  (au (cD (aW dR (pv 10) aA (bB _))
   (aC (aV (aM (aj (pv 7) (aj (pv 11) (aj (pv 9) ao))))))
   bF)
  (au (cD (PW.pt (iz (aW dR (pv 10) aA (bB _)) (fV (aW HJ (aJ aN rfl Ph PySem.boot_len (aj (pv 8) ao)) aA (bB _)))))
   (au (aR (i:=12) bU.nd rfl (Or.inl rfl) (aG Pj hr (by decide) rfl (aj (pv 0) (aj (aP fB (aJ aN rfl Ph PySem.boot_len (aj (pv 8) ao)) aA) ao))))
  (au (aR (i:=13) bU.nd rfl (Or.inl rfl) (aM (aj (bx bh (pv 8) (aP bA (pv 12) aA) (fun _ _=>rfl)) (aj (bx bh (pv 8) (pv 12) (fun _ _=>rfl)) ao))))
  (aC (aV (aM (aj (pv 7) (aj (aP fM (aP fM (cH fX (pv 8) cW (cX (pv 12))) (pv 13)) (cH fX (pv 8) (cX (aP bA (pv 12) aA)) cW)) (aj (pv 9) ao))))))))
   bF)
  (au (cD (PW.pt (iz (aW dR (pv 10) aA (bB _)) (fV (aW (Ci hr.units0) (pv 8) (aM ao) (bB _)))))
   (au (aR (i:=14) bU.nd rfl (Or.inl rfl) (aG Qk hr (by decide) rfl (aj (pv 2) (aj (pv 3) (aj (pv 4) (aj (cH fX (pv 8) cW (cX (jy fL aA))) ao))))))
  (aC (aV (aM (aj (pv 14) (aj (cH fX (pv 8) cW (cX (jy fL aA))) (aj (aP fM (cH fX (pv 9) cW (cX (pv 5))) (aM (aj (aP fM (cH fX (bx bh (pv 9) (pv 5) (fun _ _=>rfl)) cW (cX (pv 6))) (aM (aj (pv 14) ao))) ao))) ao)))))))
   bF)
  (au (zq (i:=15) (j:=16) rfl bU.nd rfl rfl (by decide) rfl rfl (aj (aG Pj hr (by decide) rfl (aj (pv 0) (aj (aP bA (pv 5) aA) ao))) (aj (aG Pj hr (by decide) rfl (aj (pv 0) (aj (aP bA (pv 6) aA) ao))) ao)) rfl)
  (au (aR (i:=17) bU.nd rfl (Or.inl rfl) (bx aX (cQ (aj aA (aj (jy fL aA) (aj aA (aj (jy fL aA) (aj aA (aj (jy fL aA) ao))))))) (aG Pj hr (by decide) rfl (aj (pv 0) (aj aA ao))) (fun _ _=>rfl)))
  (au (aR (i:=18) bU.nd rfl (Or.inl rfl) (aP fM (aP fM (cH fX (bx bh (pv 9) (pv 15) (fun _ _=>rfl)) cW (cX (pv 16))) (aM (aj (aP bA (bx bh (bx bh (pv 9) (pv 15) (fun _ _=>rfl)) (pv 16) (fun _ _=>rfl)) (pv 17)) ao))) (cH fX (bx bh (pv 9) (pv 15) (fun _ _=>rfl)) (cX (aP bA (pv 16) aA)) cW)))
  (aC (aV (aM (aj (pv 7) (aj (pv 8) (aj (aP fM (aP fM (cH fX (pv 9) cW (cX (pv 15))) (aM (aj (pv 18) ao))) (cH fX (pv 9) (cX (aP bA (pv 15) aA)) cW)) ao))))))))))))))))),?_⟩
 have hsm:=dW hTh (Nat.zero_le _) (Nat.zero_le _)
 have hwl:=hT.d.len
 rw [List.length_map] at hwl
 have kk:∀(t' w' g':Addr)(c':Int)(way':List Stp)(F':Nat->Nat->Int)(wus' gus':List V)(H':Hp),bM bp H'->cY bp H H'->H' t'=none->H' w'=some (.tup wus')->cj H' wus' (way'.map stD)->rH way'->way'.length<=900->iU H' g' xs.length ys.length F' gus'->Q (.ref t') (upd H' t' (.tup [.int c',.ref w',.ref g'])):=fun t' w' g' c' way' F' wus' gus' H' p o ht h1 h2 h3 h4 h5=>by
  have s:=aq ht (.tup [.int c',.ref w',.ref g'])
  exact k t' w' g' c' way' F' wus' gus' _ (p.same s) (o.trans (.of s)) ⟨ak,s _ _ h1,h2.same s,h3,h5.same s,h4⟩
 refine⟨_,rfl,t,_,rfl,SqT.of hT.e,rfl,_,_,rfl,_,_,rfl,_,_,rfl,rfl,?_⟩
 refine⟨_,rfl,bp,7,rfl,hp,by decide,by decide,fun r H1 p1 o1 r0 r1=>gN ?_⟩
 refine⟨_,rfl,_,rfl,_,rfl,bp,xs.length,ys.length,rfl,p1,by omega,by omega,fun q ous ow H2 p2 o2 eq dq hq=>?_⟩
 have o02:=o1.trans o2
 have hosm:=dW hq (Nat.zero_le _) (Nat.zero_le _)
 refine nxP (Jd H bp t l qw qp w g q xs.length ys.length c r ous ow) (fun N hN=>?_) ?_
 ·refine⟨_,rfl,rfl,_,rfl,?_⟩
  refine cU (fun z=>?_) (fun z=>hN _ _ ⟨rfl,p2,o02,eq,dq⟩)
  refine⟨_,rfl,_,_,rfl,rfl,_,rfl,bp,2,rfl,p2,by decide,by decide,fun r' H3 p3 o3 _ _=>⟨_,_,rfl,rfl,.inl ⟨by decide,by decide⟩,_,_,rfl,rfl,_,rfl,_,rfl,smn 3,fun t' ht'=>?_⟩⟩
  have o03:=o02.trans o3
  have hT3:=hT.old hp o03
  exact kk t' w g _ way F wus gus H3 p3 o03 ht' hT3.ew hT3.d hT.sm hT.lw hT3.g
 clear eq dq p2 o2 o02 p1 o1 H2 H1
 rintro σ H2 ⟨rfl,p2,o02,eq,dq⟩
 refine Kz (Jd H bp t l qw qp w g q xs.length ys.length c r ous ow) (fun N hN=>?_) ?_
 ·refine⟨_,rfl,rfl,_,rfl,?_⟩
  refine cU (fun z=>?_) (fun z=>hN _ _ ⟨rfl,p2,o02,eq,dq⟩)
  refine⟨_,rfl,_,rfl,_,rfl,_,rfl,l,a,b,qw,qp,q,xs,ys,us,ps,ns,ous,ow,rfl,hL.old hp o02,.inl eq,dq,hosm.2,by omega,fun H3 s3=>⟨_,rfl,_,rfl,smn 3,fun t' ht'=>?_⟩⟩
  exact kk t' q g _ ow F ous gus H3 (p2.same s3) (o02.trans (.of s3)) ht' (s3 _ _ eq) (dq.same s3) (Ej hq) (by omega) ((hT.old hp o02).g.same s3)
 clear eq dq p2 o02 H2
 rintro σ H2 ⟨rfl,p2,o02,eq,dq⟩
 refine Kz (Jd H bp t l qw qp w g q xs.length ys.length c r ous ow) (fun N hN=>?_) ?_
 ·refine⟨_,rfl,rfl,_,rfl,?_⟩
  refine cU (fun z=>?_) (fun z=>hN _ _ ⟨rfl,p2,o02,eq,dq⟩)
  refine⟨_,rfl,_,rfl,_,rfl,smn 3,fun t' ht'=>?_⟩
  exact kk t' q g _ ow F ous gus H2 p2 o02 ht' eq dq (Ej hq) (by omega) (hT.old hp o02).g
 clear eq dq p2 o02 H2
 rintro σ H2 ⟨rfl,p2,o02,eq,dq⟩
 refine Kz (Jd H bp t l qw qp w g q xs.length ys.length c r ous ow) (fun N hN=>?_) ?_
 ·refine⟨_,rfl,rfl,_,rfl,?_⟩
  refine cU (fun z=>?_) (fun z=>hN _ _ ⟨rfl,p2,o02,eq,dq⟩)
  have hT2:=hT.old hp o02
  refine⟨_,rfl,w,_,rfl,.inr (SqT.of hT2.ew),_,_,rfl,rfl,_,rfl,?_⟩
  refine cU (fun z2=>?_) (fun z2=>hN _ _ ⟨rfl,p2,o02,eq,dq⟩)
  have h2:1 < wus.length:=by
   have:=of_decide_eq_true z2
   omega
  have hw9:=hT.lw
  refine⟨_,rfl,_,rfl,w,_,rfl,.inr (SqT.of hT2.ew),_,_,rfl,rfl,bp,_,rfl,p2,by omega,by omega,fun r' H3 p3 o3 r0' r1'=>gN ?_⟩
  obtain⟨x,rfl⟩:=Int.eq_ofNat_of_zero_le r0'
  have hx:x+1 < wus.length:=by omega
  have o03:=o02.trans o3
  have hT3:=hT.old hp o03
  have ax:atI wus (((x:Nat):Int)+1)=some wus[x+1]:=aO (j:=x+1) (aZ hx)
  refine⟨_,rfl,_,rfl,_,_,rfl,rfl,ixT (p:=w) rfl rfl (SqT.of hT3.ew) (ax) (⟨ _,rfl,_,rfl,ixT (p:=w) rfl rfl (SqT.of hT3.ew) (aO (aZ (show x < wus.length by omega))) (⟨ smn 2,fun tu htu=>gN ?_⟩)⟩)⟩
  have s4:=aq htu (.tup [wus[x+1],wus[x]])
  have e4:(upd H3 tu (.tup [wus[x+1],wus[x]])) tu=some (.tup [wus[x+1],wus[x]]):=ak
  generalize upd H3 tu (.tup [wus[x+1],wus[x]])=H4 at s4 e4 ⊢
  refine⟨_,rfl,_,rfl,_,rfl,_,rfl,w,wus,rfl,s4 _ _ hT3.ew,fun p5 H5 s5 e5=>?_⟩
  rw [Kr (by omega)] at e5
  refine⟨_,rfl,p5,tu,_,_,rfl,rfl,e5,s5 _ _ e4,small (by rw [List.length_take];show _+2<=1000;omega),fun p6 H6 s6 e6=>?_⟩
  have s46:=s5.trans s6
  refine⟨_,rfl,_,rfl,_,_,rfl,rfl,_,rfl,w,wus,rfl,s46 _ _ (s4 _ _ hT3.ew),fun p7 H7 s7 e7=>?_⟩
  have e7':H7 p7=some (.tup (wus.drop (x+2))):=by
   have e:je wus (some (((x:Nat):Int)+2)) none=wus.drop (x+2):=KY (r:=x+2) (by omega)
   rw [← e]
   exact e7
  refine⟨p6,p7,_,_,rfl,rfl,s7 _ _ e6,e7',small (by rw [List.length_append,List.length_take,List.length_drop];show _+2+_<=1000;omega),fun p8 H8 s8 e8=>⟨_,rfl,smn 3,fun t' ht'=>?_⟩⟩
  have s38:=s4.trans (s46.trans (s7.trans s8))
  have d8:=hT3.d.same s38
  have hxw:x+1 < way.length:=by omega
  have d9:cj H8 [wus[x+1],wus[x]] ([way[x+1],way[x]].map stD):=⟨at_of d8 (aZ hx) (by rw [List.getElem?_map,aZ hxw];rfl),at_of d8 (aZ (show x < wus.length by omega)) (by rw [List.getElem?_map,aZ (show x < way.length by omega)];rfl),trivial⟩
  have dd:=jB (jB (jk x d8) d9) (lV (x+2) d8)
  rw [← List.map_take,← List.map_drop,← List.map_append,← List.map_append] at dd
  refine kk t' p8 g _ _ F _ gus H8 (p3.same s38) (o03.trans (.of s38)) ht' e8 dd (fun s hs=>?_) (by rw [List.length_append,List.length_append,List.length_take,List.length_drop];show _+2+_<=900;omega) (hT3.g.same s38)
  rcases List.mem_append.mp hs with hs | hs
  ·rcases List.mem_append.mp hs with hs | hs
   ·exact hT.sm s (List.mem_of_mem_take hs)
   ·simp only [List.mem_cons,List.not_mem_nil,or_false] at hs
    rcases hs with rfl | rfl
    ·exact hT.sm _ (List.getElem_mem hxw)
    ·exact hT.sm _ (List.getElem_mem _)
  ·exact hT.sm s (List.mem_of_mem_drop hs)
 clear eq dq p2 o02 H2
 rintro σ H2 ⟨rfl,p2,o02,eq,dq⟩
 refine Kz (Jd H bp t l qw qp w g q xs.length ys.length c r ous ow) (fun N hN=>?_) ?_
 ·refine⟨_,rfl,rfl,_,rfl,?_⟩
  refine cU (fun z=>?_) (fun z=>hN _ _ ⟨rfl,p2,o02,eq,dq⟩)
  have hT2:=hT.old hp o02
  refine⟨_,rfl,smn 0,fun te hte=>?_⟩
  have s3:=aq hte (.tup [])
  have e3:(upd H2 te (.tup [])) te=some (.tup []):=ak
  generalize upd H2 te (.tup [])=H3 at s3 e3
  refine⟨w,te,wus,rfl,rfl,SqT.of (s3 _ _ hT2.ew),SqT.of e3,_,rfl,?_⟩
  refine cU (fun z2=>?_) (fun z2=>hN _ _ ⟨rfl,p2.same s3,o02.trans (.of s3),s3 _ _ eq,dq.same s3⟩)
  have hne:wus≠[]:=fun z=>by rw [z] at z2;cases z2
  have hT3:=hT2.same s3
  have hw9:=hT.lw
  refine⟨_,rfl,_,rfl,_,rfl,_,rfl,_,rfl,_,rfl,w,wus,rfl,hT3.ew,fun p4 H4 s4 e4=>?_⟩
  rw [Np hne] at e4
  have o04:cY bp H H4:=o02.trans (.of (s3.trans s4))
  have p4':=p2.same (s3.trans s4)
  have hdt:∀ {H':Hp},Same H4 H'->cj H' (wus.take (wus.length - 1)) ((way.take (wus.length - 1)).map stD):=fun s=>by
   rw [List.map_take]
   exact jk _ ((hT3.d.same s4).same s)
  refine⟨l,a,b,qw,qp,p4,xs,ys,us,ps,ns,_,way.take (wus.length - 1),rfl,hL.old hp o04,.inl e4,hdt (Same.refl _),fun s hs=>hsm.2 s (List.mem_of_mem_take hs),by rw [List.length_take];omega,fun H5 s5=>gN ?_⟩
  generalize ((way.take (wus.length - 1)).map (aY ns xs ys ps)).sum=pd
  have hT5:=(hT3.same s4).same s5
  refine⟨_,rfl,_,rfl,_,rfl,_,rfl,w,wus,rfl,hT5.ew,fun p6 H6 s6 e6=>?_⟩
  rw [Np hne] at e6
  have hT6:=hT5.same s6
  refine⟨_,rfl,_,rfl,_,rfl,g,gus,rfl,hT6.g.e,fun p7 H7 s7 e7=>?_⟩
  rw [Kr (by rw [hT.g.l];omega)] at e7
  have hT7:=hT6.same s7
  obtain⟨ra,row,w1,w2,w3,_⟩:=hT7.g.get (i:=xs.length) (j:=ys.length) (Nat.le_refl _) (Nat.le_refl _)
  have w2':H7 ra=some (.tup (((List.range (ys.length+1)).map (F xs.length)).map V.int)):=by
   obtain⟨a',h1,h2⟩:=hT7.g.r _ _ w1
   cases h1
   exact h2
  refine⟨_,rfl,_,rfl,ixT (p:=g) rfl rfl (SqT.of hT7.g.e) (aO w1) (⟨ _,rfl,_,rfl,ra,_,rfl,w2',fun p8 H8 s8 e8=>?_⟩)⟩
  rw [Kr (by rw [List.length_map,List.length_map,List.length_range];omega)] at e8
  refine⟨_,rfl,smn 1,fun p9 hp9=>?_⟩
  have s9:=aq hp9 (.tup [.int pd])
  have e9:(upd H8 p9 (.tup [.int pd])) p9=some (.tup [.int pd]):=ak
  generalize upd H8 p9 (.tup [.int pd])=H9 at s9 e9 ⊢
  refine⟨p8,p9,_,_,rfl,rfl,s9 _ _ e8,e9,small (by rw [List.length_take];show _+1<=1000;omega),fun pa Ha sa ea=>⟨smn 1,fun pb hpb=>?_⟩⟩
  rw [uX _ (by rw [List.length_map,List.length_map,List.length_range])] at ea
  have sb:=aq hpb (.tup [.ref pa])
  have eb:(upd Ha pb (.tup [.ref pa])) pb=some (.tup [.ref pa]):=ak
  generalize upd Ha pb (.tup [.ref pa])=Hb at sb eb ⊢
  have s7b:=((s8.trans s9).trans sa).trans sb
  refine⟨p7,pb,_,_,rfl,rfl,s7b _ _ e7,eb,small (by rw [List.length_take,hT.g.l];show _+1<=1000;omega),fun pc Hc sc ec=>⟨smn 3,fun t' ht'=>?_⟩⟩
  rw [uX _ hT.g.l] at ec
  have s7c:=s7b.trans sc
  have s4c:=((s5.trans s6).trans s7).trans s7c
  exact kk t' p6 pc _ _ _ _ _ Hc (p4'.same s4c) (o04.trans (.of s4c)) ht' ((s7.trans s7c) _ _ e6) (hdt s4c) (fun s hs=>hT.sm s (List.mem_of_mem_take hs)) (by rw [List.length_take];omega) (vg (hT7.g.same s7c) (Nat.le_refl _) (Nat.le_refl _) ec ((sb.trans sc) _ _ ea))
 clear eq dq p2 o02 H2
 rintro σ H2 ⟨rfl,p2,o02,eq,dq⟩
 refine⟨_,rfl,_,rfl,_,_,rfl,rfl,bp,_,rfl,p2,by omega,by omega,fun r1 H3 p3 o3 i0 i1=>?_⟩
 refine⟨_,rfl,_,rfl,_,_,rfl,rfl,bp,_,rfl,p3,by omega,by omega,fun r2 H4 p4 o4 j0 j1=>?_⟩
 obtain⟨i,rfl⟩:=Int.eq_ofNat_of_zero_le i0
 obtain⟨j,rfl⟩:=Int.eq_ofNat_of_zero_le j0
 have hi:i<=xs.length:=by omega
 have hj:j<=ys.length:=by omega
 have o04:=(o02.trans o3).trans o4
 refine⟨_,_,rfl,?_⟩
 refine⟨_,rfl,_,rfl,_,rfl,smn 6,fun l5 hl5=>?_⟩
 have n5:l5≠bp:=p4.ne hl5
 have s5:=aq hl5 (.lst [.int 1,.int (-1),.int 2,.int (-7),.int 40,.int (-1000)])
 have e5:(upd H4 l5 (.lst [.int 1,.int (-1),.int 2,.int (-7),.int 40,.int (-1000)])) l5=some (.lst [.int 1,.int (-1),.int 2,.int (-7),.int 40,.int (-1000)]):=ak
 generalize upd H4 l5 (.lst [.int 1,.int (-1),.int 2,.int (-7),.int 40,.int (-1000)])=H5 at s5 e5
 refine⟨_,rfl,bp,6,rfl,p4.same s5,by decide,by decide,fun r3 H6 p6 o6 k0 k1=>?_⟩
 obtain⟨mo,hmo⟩:=Ml k0 k1
 refine (ixL (p:=l5) rfl rfl (SqL.of (o6 _ _ e5 n5)) (hmo) (gN ?_))
 have o06:cY bp H H6:=(o04.trans (.of s5)).trans o6
 have hT6:=hT.old hp o06
 obtain⟨ra,row,w1,w2,w3,w4⟩:=hT6.g.get hi hj
 have w2':H6 ra=some (.tup (((List.range (ys.length+1)).map (F i)).map V.int)):=by
  obtain⟨a',h1,h2⟩:=hT6.g.r _ _ w1
  cases h1
  exact h2
 have wat:(((List.range (ys.length+1)).map (F i)).map V.int)[j]?=some (.int (F i j)):=qU hj
 have hrl:(((List.range (ys.length+1)).map (F i)).map V.int).length=ys.length+1:=by rw [List.length_map,List.length_map,List.length_range]
 refine⟨_,rfl,_,rfl,ixT (p:=g) rfl rfl (SqT.of hT6.g.e) (aO w1) (⟨ _,rfl,_,rfl,ra,_,rfl,w2',fun p7 H7 s7 e7=>?_⟩)⟩
 rw [Kr (by omega)] at e7
 have hT7:=hT6.same s7
 refine⟨_,rfl,_,rfl,ixT (p:=g) rfl rfl (SqT.of hT7.g.e) (aO w1) (⟨ _,rfl,ixT (p:=ra) rfl rfl (SqT.of (s7 _ _ w2')) (aO wat) (⟨ _,rfl,_,_,rfl,rfl,smn 1,fun p8 hp8=>?_⟩)⟩)⟩
 have s8:=aq hp8 (.tup [.int (F i j+mo)])
 have e8:(upd H7 p8 (.tup [.int (F i j+mo)])) p8=some (.tup [.int (F i j+mo)]):=ak
 generalize upd H7 p8 (.tup [.int (F i j+mo)])=H8 at s8 e8 ⊢
 refine⟨p7,p8,_,_,rfl,rfl,s8 _ _ e7,e8,small (by rw [List.length_take];show _+1<=1000;omega),fun p9 H9 s9 e9=>?_⟩
 have s69:=(s7.trans s8).trans s9
 have hT9:=hT6.same s69
 refine⟨_,rfl,_,rfl,ixT (p:=g) rfl rfl (SqT.of hT9.g.e) (aO w1) (⟨ _,rfl,_,_,rfl,rfl,_,rfl,ra,_,rfl,s69 _ _ w2',fun pa Ha sa ea=>?_⟩)⟩
 have ea':Ha pa=some (.tup ((((List.range (ys.length+1)).map (F i)).map V.int).drop (j+1))):=by
  have e:je (((List.range (ys.length+1)).map (F i)).map V.int) (some (((j:Nat):Int)+1)) none=_:=KY (r:=j+1) (by omega)
  rw [← e]
  exact ea
 refine⟨p9,pa,_,_,rfl,rfl,sa _ _ e9,ea',small (by rw [List.length_append,List.length_take,List.length_drop];show _+1+_<=1000;omega),fun pr Hb sb eb=>gN ?_⟩
 rw [sU _ _ _ (by omega)] at eb
 have s6b:=s69.trans (sa.trans sb)
 have hTb:=hT6.same s6b
 have hgl:=hT.g.l
 refine⟨_,rfl,_,rfl,_,rfl,_,rfl,_,rfl,g,gus,rfl,hTb.g.e,fun pc Hc sc ec=>?_⟩
 rw [Kr (by omega)] at ec
 refine⟨_,rfl,smn 1,fun pd hpd=>?_⟩
 have sd:=aq hpd (.tup [.ref pr])
 have ed:(upd Hc pd (.tup [.ref pr])) pd=some (.tup [.ref pr]):=ak
 generalize upd Hc pd (.tup [.ref pr])=Hd at sd ed ⊢
 refine⟨pc,pd,_,_,rfl,rfl,sd _ _ ec,ed,small (by rw [List.length_take];show _+1<=1000;omega),fun pe He se ee=>?_⟩
 have sbe:=(sc.trans sd).trans se
 refine⟨_,rfl,_,rfl,_,_,rfl,rfl,_,rfl,g,gus,rfl,sbe _ _ hTb.g.e,fun pf Hf sf ef=>?_⟩
 have ef':Hf pf=some (.tup (gus.drop (i+1))):=by
  have e:je gus (some (((i:Nat):Int)+1)) none=_:=KY (r:=i+1) (by omega)
  rw [← e]
  exact ef
 refine⟨pe,pf,_,_,rfl,rfl,sf _ _ ee,ef',small (by rw [List.length_append,List.length_take,List.length_drop];show _+1+_<=1000;omega),fun pg Hg sg eg=>⟨smn 3,fun t' ht'=>?_⟩⟩
 rw [sU _ _ _ (by omega)] at eg
 have sbg:=(sbe.trans sf).trans sg
 have s6g:=s6b.trans sbg
 have hTg:=hT6.same s6g
 exact kk t' w pg _ way _ wus _ Hg (p6.same s6g) (o06.trans (.of s6g)) ht' hTg.ew hTg.d hT.sm hT.lw (vg hTg.g hi hj eg (sbg _ _ eb))
end
noncomputable def qH:Sp:=fun vs H Q _=>∃(b l a c qw qp:Addr)(xs ys:List Str)(us:List V)(ps:List (Str × Str))(ns:List Int),vs=[.ref b,.ref l,.ref qw,.ref qp,.int (xs.length:Nat),.int (ys.length:Nat)]/\bM b H/\gk H l a c qw qp xs ys us ps ns/\xs.length<=30/\ys.length<=30 /\
 ∀(t w g:Addr)(c:Int)(way:List Stp)(F:Nat->Nat->Int)(wus gus:List V)(H':Hp),bM b H'->cY b H H'->eE H' t w g xs.length ys.length c way F wus gus->Q (.ref t) H'
noncomputable def M7(H6:Hp)(b l qw qp g d ld:Addr)(m n:Nat)(x:Nat)(σ:L2.St)(H2:Hp):Prop:=∃(v11:Option V)(i j:Nat)(us:List V)(w:List Stp),x=(m - i)+(n - j)/\i<=m/\j<=n /\
 σ=[some (.ref b),some (.ref l),some (.ref qw),some (.ref qp),some (.int (m:Nat)),some (.int (n:Nat)),some (.ref g),some (.ref d),some (.ref ld),some (.int (i:Nat)),some (.int (j:Nat)),v11,none,none] /\
 bM b H2/\cY b H6 H2/\H2 ld=some (.lst us)/\cj H2 us (w.map stD)/\us.length<=i+j/\∀ s∈w,1<=s.length/\s.length<=2/\∀ q∈s,wW m n q
section
open M01
variable {P:Program}{w:World}{K:W.Frag}{mg:Str->Option Value}{base:Heap}
theorem cO:aQ ["_law_pot","_law_sides_here","_law_known_here","_law_prices_here","_law_m","_law_n","_law_grid","_law_steps_here","_law_way","_law_i","_law_j","_law_some","_law_at","_law_paper"] ["_law_pot","_law_sides_here","_law_known_here","_law_prices_here","_law_m","_law_n"] (aB ju):=⟨rfl,rfl,rfl,by decide +kernel,rfl,by decide +kernel,by decide +kernel⟩
theorem zT(h:Has K mg "_law_strange" ju ["_law_pot","_law_sides_here","_law_known_here","_law_prices_here","_law_m","_law_n"])(QM:Cal P w K mg base "_law_left" 3 ["_law_sides_here","_law_known_here","_law_prices_here","_law_m","_law_n","_law_loose_here"] yQ)(Pj:Cal P w K mg base "_law_next" 1 ["_law_pot","_law_many"] iu)(Qj:Cal P w K mg base "_law_on" 1 ["_law_step_here","_law_i","_law_j"] Es)(Qk:Cal P w K mg base "_law_paid" 3 ["_law_sides_here","_law_known_here","_law_prices_here","_law_way"] uK)(Ph:mg "len" = none)(Ro:mg "int" = none)(Pb:mg "tuple" = none):Cal P w K mg base "_law_strange" 4 ["_law_pot","_law_sides_here","_law_known_here","_law_prices_here","_law_m","_law_n"] qH:=by
 refine h.mk' cO (fun vs H Q E hs=>?_) (fun f cdv A outer s H vs Q E hr hs=>?_)
 ·obtain⟨b,l,a,c,qw,qp,xs,ys,uw,ps,ns,rfl,_⟩:=hs
  rfl
 obtain⟨b,l,a,c,qw,qp,xs,ys,uw,ps,ns,rfl,hp,hL,hm,hn,k⟩:=hs
 refine⟨_,(au (dg (aG QM hr (by decide) rfl (aj (pv 1) (aj (pv 2) (aj (pv 3) (aj (pv 4) (aj (pv 5) (aj fJ ao))))))) (bH (n:=2) rfl (aH (aD (i:=6) cO.nd rfl (Or.inr rfl)) (aH (aD (i:=7) cO.nd rfl (Or.inl rfl)) bI))))
  (au (aR (i:=8) cO.nd rfl (Or.inl rfl) (cQ ao))
  (au (dg (aM (aj aA (aj aA ao))) (bH (n:=2) rfl (aH (aD (i:=9) cO.nd rfl (Or.inl rfl)) (aH (aD (i:=10) cO.nd rfl (Or.inl rfl)) bI))))
  (au (jo PassesOwn.never (aW (tK hr.units) (aM (aj (pv 9) (aj (pv 10) ao))) (aM (aj (pv 4) (aj (pv 5) ao))) (bB _))
   (au (aR (i:=11) cO.nd rfl (Or.inl rfl) (Bj (vN hr) (pv 7) (aM (aj (pv 9) (aj (pv 10) ao))) (fun _ _=>rfl)))
  (au (cI (cZ PySem.F.plainAttrs_list PySem.F.slot_list_append PySem.F.type_list_append bN (pv 8) (aj (bx aX (pv 11) (aP iy (aG Pj hr (by decide) rfl (aj (pv 0) (aj (aJ aN rfl Ph PySem.boot_len (aj (pv 11) ao)) ao))) (bV xP rfl Ro boot_int (aj (fG dR (aG Pj hr (by decide) rfl (aj (pv 0) (aj aA ao))) aA (bB _)) ao))) (fun _ _=>rfl)) ao)))
  (aC (dg (aG Qj hr (by decide) rfl (aj (bx aX (pv 8) (jy fL aA) (fun _ _=>rfl)) (aj (pv 9) (aj (pv 10) ao)))) (bH (n:=2) rfl (aH (aD (i:=9) cO.nd rfl (Or.inl rfl)) (aH (aD (i:=10) cO.nd rfl (Or.inl rfl)) bI))))))))
  (au (cD (aW dR (aG Pj hr (by decide) rfl (aj (pv 0) (aj aA ao))) aA (bB _))
   (au (aR (i:=12) cO.nd rfl (Or.inl rfl) (aG Pj hr (by decide) rfl (aj (pv 0) (aj (aP bA (aJ aN rfl Ph PySem.boot_len (aj (pv 8) ao)) aA) ao))))
  (aC (cI (cZ PySem.F.plainAttrs_list PySem.F.slot_list_insert PySem.F.type_list_insert yr (pv 8) (aj (pv 12) (aj (aM (aj (aM (aj (aM ao) (aj (aM ao) ao))) ao)) ao))))))
   bF)
  (au (aR (i:=13) cO.nd rfl (Or.inl rfl) (bV bJ rfl Pb boot_tuple (aj (bD ["_law_pot","_law_sides_here","_law_known_here","_law_prices_here","_law_m","_law_n","_law_grid","_law_steps_here","_law_way","_law_i","_law_j","_law_some","_law_at","_law_paper"] (aB ju) ["_law_grid","_law_row"] [some 6,none] rfl rfl rfl (bY (pv 6)) rfl (by decide +kernel) (by decide +kernel) (by decide +kernel) (by decide +kernel) (hg:=fun cl C s H ex pn E=>(aD (i:=1) (by decide +kernel:(["_law_grid","_law_row"]:List Str).Nodup) rfl (Or.inl rfl))) (ht:=fun cl C s H ex pn E=>bC) (he:=fun cl C s H ex pn E=>(bV (bJ) rfl Pb boot_tuple (aj (bD ["_law_grid","_law_row"] _ ["_law_grid","_law_cost"] [some 0,none] rfl rfl rfl (bY (pv 1)) rfl (by decide +kernel) (by decide +kernel) (rJ (by decide +kernel)) (by decide +kernel) (hg:=fun cl C s H ex pn E=>(aD (i:=1) (by decide +kernel:(["_law_grid","_law_cost"]:List Str).Nodup) rfl (Or.inl rfl))) (ht:=fun cl C s H ex pn E=>bC) (he:=fun cl C s H ex pn E=>(aP fB (bx (aX) (bx (aX) (pv 0) aA (fun _ _=>rfl)) aA (fun _ _=>rfl)) (pv 1)))) ao)))) ao)))
  (aC (aV (aM (aj (aG Qk hr (by decide) rfl (aj (pv 1) (aj (pv 2) (aj (pv 3) (aj (pv 8) ao))))) (aj (bV bJ rfl Pb boot_tuple (aj (pv 8) ao)) (aj (pv 13) ao)))))))))))),?_⟩
 refine⟨_,rfl,_,rfl,_,rfl,_,rfl,_,rfl,true,l,a,c,qw,qp,xs,ys,uw,ps,ns,rfl,hL,hm,hn,fun t6 g d G ras kvs H6 s6 e6 hG hS hO hfr=>?_⟩
 refine⟨t6,_,rfl,SqT.of e6,rfl,_,_,rfl,_,_,rfl,rfl,?_⟩
 have hL6:=hL.same s6
 have p6:=hp.same s6
 have nb:b ∉ ras:=fun z=>by
  obtain⟨_,_,e,_⟩:=hp
  rw [hfr b z] at e
  cases e
 have k:∀(t w g:Addr)(c:Int)(way:List Stp)(F:Nat->Nat->Int)(wus gus:List V)(H':Hp),bM b H'->cY b H6 H'->eE H' t w g xs.length ys.length c way F wus gus->Q (.ref t) H':=fun t w g c way F wus gus H' p o=>k t w g c way F wus gus H' p (cY.trans (.of s6) o)
 have hgb:g≠b:=by
  have h0:0 < ras.length:=by rw [hG.l];omega
  exact ux (a:=ras[0]) p6 hG.e (by rw [List.getElem?_map,List.getElem?_eq_getElem h0];rfl)
 have hdb:d≠b:=fun z=>by
  obtain⟨_,_,e,_⟩:=p6
  have:=hS.e
  rw [z,e] at this
  cases this
 clear hfr e6 s6 hp
 refine⟨smn 0,fun ld hld=>gN ?_⟩
 have nlb:ld≠b:=p6.ne hld
 refine⟨smn 2,fun tz htz=>⟨tz,_,rfl,SqT.of ak,rfl,_,_,rfl,_,_,rfl,rfl,?_⟩⟩
 have s0:=(aq hld (.lst [])).trans (aq htz (.tup [.int 0,.int 0]))
 have e0:(upd (upd H6 ld (.lst [])) tz (.tup [.int 0,.int 0])) ld=some (.lst []):=aq htz _ _ _ ak
 generalize upd (upd H6 ld (.lst [])) tz (.tup [.int 0,.int 0])=H0 at s0 e0
 refine⟨M7 H6 b l qw qp g d ld xs.length ys.length,⟨_,_,0,0,[],[],rfl,Nat.zero_le _,Nat.zero_le _,rfl,p6.same s0,.of s0,e0,trivial,Nat.zero_le _,fun s hs=>nomatch hs⟩,?_⟩
 clear e0 s0 htz
 rintro kk σ H1 ⟨v11,i,j,us,w,hk,him,hjn,rfl,p1,o1,e1,d1,hwl,hw⟩
 refine⟨_,rfl,_,rfl,smn 2,fun ta hta=>⟨_,rfl,_,rfl,smn 2,fun tb htb=>?_⟩⟩
 have t1:=aq hta (.tup [.int (i:Nat),.int (j:Nat)])
 have t2:=aq htb (.tup [.int (xs.length:Nat),.int (ys.length:Nat)])
 have da:Den (upd H1 ta (.tup [.int (i:Nat),.int (j:Nat)])) (.ref ta) (.tup [.int (i:Nat),.int (j:Nat)]):=⟨ta,_,rfl,ak,rfl,rfl,trivial⟩
 generalize upd H1 ta (.tup [.int (i:Nat),.int (j:Nat)])=Ha at t1 t2 da
 have db:Den (upd Ha tb (.tup [.int (xs.length:Nat),.int (ys.length:Nat)])) (.ref tb) (.tup [.int (xs.length:Nat),.int (ys.length:Nat)]):=⟨tb,_,rfl,ak,rfl,rfl,trivial⟩
 have da2:=da.same t2
 have t:=t1.trans t2
 generalize upd Ha tb (.tup [.int (xs.length:Nat),.int (ys.length:Nat)])=H2 at t2 t db da2
 refine⟨_,_,0,da2,db,gQ _ _,gQ _ _,by decide,vI _ _ _ _,_,rfl,?_⟩
 have p2:=p1.same t
 have e2:=t _ _ e1
 have d2:=d1.same t
 have o2:cY b H6 H2:=o1.trans (.of t)
 have hul:=d2.len
 rw [List.length_map] at hul
 clear da db da2 t1 t2 t hta htb p1 o1 e1 d1
 refine cU (fun z=>?_) (fun z=>?_)
 ·have hne:¬ (i=xs.length/\j=ys.length):=fun h=>by
   rw [h.1,h.2,gD] at z
   exact absurd z (by decide)
  refine⟨fun σ' H'=>∃ m',m' < kk/\M7 H6 b l qw qp g d ld xs.length ys.length m' σ' H',fun _ _ q=>q,?_⟩
  have htn:=Ad hO him hjn hne
  refine⟨_,rfl,_,rfl,_,rfl,smn 2,fun tk htk=>?_⟩
  have sc:=aq htk (.tup [.int (i:Nat),.int (j:Nat)])
  have ec:(upd H2 tk (.tup [.int (i:Nat),.int (j:Nat)])) tk=some (.tup [.int (i:Nat),.int (j:Nat)]):=ak
  generalize upd H2 tk (.tup [.int (i:Nat),.int (j:Nat)])=H3 at sc ec ⊢
  obtain⟨l3,us3,v1,_,e3,d3⟩:=hS.v i j him hjn trivial
  have hu3:=d3.len
  rw [List.length_map] at hu3
  have hpos:0 < (ni true (aY ns xs ys ps) G i j xs.length ys.length).length:=List.length_pos_iff.mpr htn
  have h8:(ni true (aY ns xs ys ps) G i j xs.length ys.length).length<=15:=Nat.le_trans (List.length_filter_le _ _) (xr true i j xs.length ys.length)
  have n3b:l3≠b:=by
   have h0:0 < us3.length:=by omega
   obtain⟨q,_,eq,_⟩:=bO (at_of d3 (aZ h0) (by rw [List.getElem?_map,aZ hpos];rfl:((ni true (aY ns xs ys ps) G i j xs.length ys.length).map stD)[0]?=some (.tup _)))
   exact ux (a:=q) p6 e3 (by rw [aZ h0,eq])
  have o3:cY b H6 H3:=o2.trans (.of sc)
  have e3:=o3 _ _ e3 n3b
  have d3:=d3.keepT (o3.tup p6)
  have hdg:vA H3 d (.ref tk) (some (.ref l3)):=by rw [← v1];exact vA.t (o3 _ _ hS.e hdb) ec
  have p3:=p2.same sc
  refine⟨d,_,rfl,hdg,gN ?_⟩
  refine⟨_,rfl,.inl ⟨rfl,_,SqL.of (sc _ _ e2)⟩,_,rfl,_,rfl,_,rfl,l3,_,rfl,.inl (SqL.of e3),b,_,rfl,p3,by omega,by omega,fun r Hx px ox r0 r1=>?_⟩
  refine⟨_,rfl,b,4,rfl,px,by decide,by decide,fun r' H4 p4 ox2 _ _=>⟨rfl,.inr ⟨_,rfl,_,_,rfl,rfl,.inl ⟨by omega,by omega⟩,?_⟩⟩⟩
  have o4:=ox.trans ox2
  clear ox ox2 px
  have e4:=o4 _ _ e3 n3b
  obtain⟨ix,hr,hix⟩:∃ ix:Nat,ix < us3.length/\r * (if decide (V.int r'=V.int 0)=true then 1 else 0)=((ix:Nat):Int):=by
   by_cases z:decide (V.int r'=V.int 0)=true
   ·exact⟨r.toNat,by omega,by rw [if_pos z];omega⟩
   ·exact⟨0,by omega,by rw [if_neg z];omega⟩
  have hat:atI us3 (r * (if decide (V.int r'=V.int 0)=true then 1 else 0))=some us3[ix]:=by
   rw [hix]
   exact aO (aZ hr)
  have hrs:ix < (ni true (aY ns xs ys ps) G i j xs.length ys.length).length:=by omega
  have kt4:∀(c:Addr)(vs:List V),H3 c=some (.tup vs)->H4 c=some (.tup vs):=o4.tup p3
  have dc:Den H3 us3[ix] (stD (ni true (aY ns xs ys ps) G i j xs.length ys.length)[ix]):=at_of d3 (aZ hr) (by rw [List.getElem?_map,aZ hrs];rfl)
  obtain⟨gc,gt⟩:=List.mem_filter.mp (List.getElem_mem hrs)
  generalize us3[ix]=vc at hat dc
  generalize (ni true (aY ns xs ys ps) G i j xs.length ys.length)[ix]=sc1 at dc gc gt
  clear gt
  obtain⟨g1,g2,g3⟩:=Hj gc
  have gsm:=uI gc
  have gl:=gsm.2.1
  have dc4:=dc.keepT kt4
  have el4:H4 ld=some (.lst us):=o4 _ _ (sc _ _ e2) nlb
  have d4:cj H4 us (w.map stD):=(d2.same sc).keepT kt4
  refine (ixL (p:=l3) rfl rfl (SqL.of e4) (hat) (⟨ ld,_,_,rfl,rfl,el4,aK (by omega),?_⟩))
  have e5:(upd H4 ld (.lst (us++[vc]))) ld=some (.lst (us++[vc])):=ak
  have kt5:=dh (ws:=us++[vc]) el4
  have p5:bM b (upd H4 ld (.lst (us++[vc]))):=Em p4 nlb
  have o5:cY b H6 (upd H4 ld (.lst (us++[vc]))):=fun c o q h=>by
   rw [aL (aF q hld)]
   exact o4 _ _ (o3 c o q h) h
  have d5:=bZ (d4.keepT kt5) (dc4.keepT kt5)
  have dc5:=dc4.keepT kt5
  generalize upd H4 ld (.lst (us++[vc]))=H5 at e5 p5 o5 d5 dc5
  refine⟨_,rfl,_,rfl,ixL (p:=ld) rfl rfl (SqL.of e5) (pB us vc) (⟨ _,rfl,_,rfl,vc,sc1,_,_,rfl,dc5,gl,fun q6 H7 s7 e7=>?_⟩)⟩
  rw [← Int.natCast_add,← Int.natCast_add] at e7
  refine⟨q6,_,rfl,SqT.of e7,rfl,_,_,rfl,_,_,rfl,rfl,?_⟩
  refine⟨_,?_,_,i+sz1 sc1,j+sz2 sc1,us++[vc],w++[sc1],rfl,g1,g2,rfl,p5.same s7,o5.trans (.of s7),s7 _ _ e5,d5.same s7,by rw [List.length_append,List.length_singleton];omega,fun s hs=>?_⟩
  ·omega
  ·rcases List.mem_append.mp hs with hs | hs
   ·exact hw s hs
   ·rw [List.mem_singleton.mp hs]
    exact gsm
 ·have heq:i=xs.length/\j=ys.length:=by
   by_cases h:i=xs.length/\j=ys.length
   ·exact h
   ·rw [Ed h] at z
    exact absurd rfl z
  have hG2:=hG.old o2 hgb nb
  refine nxP (fun σ H'=>∃(v12:Option V)(us:List V)(w:List Stp),σ=[some (.ref b),some (.ref l),some (.ref qw),some (.ref qp),some (.int (xs.length:Nat)),some (.int (ys.length:Nat)),some (.ref g),some (.ref d),some (.ref ld),some (.int (i:Nat)),some (.int (j:Nat)),v11,v12,none]/\bM b H'/\cY b H6 H'/\m8 H' g xs.length ys.length G ras/\H' ld=some (.lst us)/\cj H' us (w.map stD)/\us.length<=100/\∀ s∈w,1<=s.length/\s.length<=2/\∀ q∈s,wW xs.length ys.length q) (fun N hN=>?_) ?_
  ·refine⟨_,rfl,b,8,rfl,p2,by decide,by decide,fun r H5 p5 o5 _ _=>⟨rfl,_,rfl,?_⟩⟩
   have e5:=o5 _ _ e2 nlb
   have d5:=d2.keepT (o5.tup p2)
   have o05:=o2.trans o5
   have hG5:=hG2.old o5 hgb nb
   refine cU (fun z=>?_) (fun z=>hN _ _ ⟨_,us,w,rfl,p5,o05,hG5,e5,d5,by omega,hw⟩)
   refine⟨_,rfl,_,rfl,ld,_,rfl,.inl (SqL.of e5),_,_,rfl,rfl,b,_,rfl,p5,by omega,by omega,fun r2 H7 p7 o7 r0 r1=>gN ?_⟩
   obtain⟨at',rfl⟩:=Int.eq_ofNat_of_zero_le r0
   have e7:=o7 _ _ e5 nlb
   have d7:=d5.keepT (o7.tup p5)
   have o07:=o05.trans o7
   have hG7:=hG5.old o7 hgb nb
   have hul:=d7.len
   rw [List.length_map] at hul
   have ngl:g≠ld:=aF hG.e hld
   have nlr:ld ∉ ras:=fun z=>by
    obtain⟨q,hq⟩:=List.mem_iff_getElem?.mp z
    have:=hG.r q ld hq
    rw [hld] at this
    cases this
   refine⟨_,rfl,.inl ⟨rfl,_,SqL.of e7⟩,_,rfl,smn 0,fun a1 h1=>⟨smn 0,fun a2 h2=>⟨smn 2,fun a3 h3=>⟨smn 1,fun a4 h4=>?_⟩⟩⟩⟩
   have s1:=aq h1 (.tup [])
   have f1:(upd H7 a1 (.tup [])) a1=some (.tup []):=ak
   generalize upd H7 a1 (.tup [])=Ha at *
   have s2:=aq h2 (.tup [])
   have f2:(upd Ha a2 (.tup [])) a2=some (.tup []):=ak
   generalize upd Ha a2 (.tup [])=Hb at *
   have s3:=aq h3 (.tup [.ref a1,.ref a2])
   have f3:(upd Hb a3 (.tup [.ref a1,.ref a2])) a3=some (.tup [.ref a1,.ref a2]):=ak
   generalize upd Hb a3 (.tup [.ref a1,.ref a2])=Hc at *
   have s4:=aq h4 (.tup [.ref a3])
   have f4:(upd Hc a4 (.tup [.ref a3])) a4=some (.tup [.ref a3]):=ak
   generalize upd Hc a4 (.tup [.ref a3])=Hd at *
   have s:=((s1.trans s2).trans s3).trans s4
   have dn:Den Hd (.ref a4) (stD [([],[])]):=⟨a4,_,rfl,f4,(lQ f3 (bK (is:=[]) ((s2.trans s3) _ _ f1)) (bK (is:=[]) (s3 _ _ f2))).same s4,trivial⟩
   have ed:=s _ _ e7
   have dd:=d7.same s
   refine⟨ld,us,_,.ref a4,at',rfl,rfl,rfl,ed,by omega,by omega,?_⟩
   have kt:=dh (ws:=us.take at'++.ref a4 :: us.drop at') ed
   refine hN _ _ ⟨_,_,w.take at'++[([],[])] :: w.drop at',rfl,Em (p7.same s) nlb,fun c o q h=>?_,(hG7.same s).old (b:=ld) (fun c u q h=>by rw [aL h];exact q) ngl nlr,ak,?_,by rw [List.length_append,List.length_cons,List.length_take,List.length_drop];omega,fun s' hs=>?_⟩
   ·rw [aL (aF q hld)]
    exact s _ _ (o07 c o q h)
   ·rw [List.map_append,List.map_cons,List.map_take,List.map_drop]
    exact jB (jk _ (dd.keepT kt)) ⟨dn.keepT kt,lV _ (dd.keepT kt)⟩
   ·rcases List.mem_append.mp hs with hs | hs
    ·exact hw s' (List.mem_of_mem_take hs)
    ·rcases List.mem_cons.mp hs with rfl | hs
     ·exact⟨Nat.le_refl _,by decide,fun q hq=>by
       rw [List.mem_singleton.mp hq]
       exact⟨(fun k hk=>nomatch hk),(fun k hk=>nomatch hk),Nat.zero_le _,Nat.zero_le _⟩⟩
     ·exact hw s' (List.mem_of_mem_drop hs)
  rintro σ H3 ⟨v12,us,w,rfl,p3,o3,hG3,e3,d3,hul,hw⟩
  have hll:=d3.len
  rw [List.length_map] at hll
  refine⟨_,rfl,g,rfl,⟨_,SqL.of hG3.e⟩,fun lo hlo=>?_⟩
  refine eY (J:=Itl K0 g) (l:=lo) ras.length (fun x σ' H'=>∃(v:Option V)(gus:List V),σ'=[some (.ref g),v]/\Same H3 H'/\H' lo=some (.lst gus)/\gus.length=x/\∀(y:Nat)(u:V),gus[y]?=some u->∃ a:Addr,u=.ref a/\H' a=some (.tup (((List.range (ys.length+1)).map fun j=>G 0 0 - G y j).map V.int))) ⟨none,[],rfl,aq hlo _,ak,rfl,fun y u h=>by cases h⟩ ?_ ?_
  rotate_left
  ·rintro x σ' H4 hx ⟨v,gus,rfl,s4,e4,hgl,hgr⟩
   have hat:(ras.map V.ref)[x]?=some (.ref ras[x]):=by rw [List.getElem?_map,aZ hx];rfl
   refine⟨⟨_,_,SqL.of (s4 _ _ hG3.e),hat⟩,?_⟩
   rintro N1 hN1 y H5 ⟨rfl,hy⟩
   have ey:y=.ref ras[x]:=Option.some.inj ((hy _ (SqL.of (s4 _ _ hG3.e))).symm.trans hat)
   have hrow:=hG3.r x _ (aZ hx)
   generalize ras[x]=rx at ey hrow
   subst ey
   have hG4:=hG3.same s4
   have hrow4:=s4 _ _ hrow
   refine gN (iM (eZ ⟨_,rfl,rx,rfl,⟨_,SqL.of hrow4⟩,fun li hli=>?_⟩))
   refine eY (J:=Itl K0 rx) (l:=li) (ys.length+1) (fun z σ'' H''=>∃ v:Option V,σ''=[some (.ref g),v]/\Same H5 H''/\H'' li=some (.lst (((List.range z).map fun j=>G 0 0 - G x j).map V.int))) ⟨none,rfl,aq hli _,ak⟩ ?_ ?_
   ·rintro σ'' H6' ⟨v',rfl,s6',e6'⟩
    refine⟨⟨_,SqL.of (s6' _ _ hrow4),by rw [List.length_map,List.length_map,List.length_range];exact Nat.le_refl _⟩,li,_,rfl,.inl ⟨SqL.of e6',fun tr htr=>?_⟩⟩
    have s7:=aq htr (.tup (((List.range (ys.length+1)).map fun j=>G 0 0 - G x j).map V.int))
    have e7:(upd H6' tr (.tup (((List.range (ys.length+1)).map fun j=>G 0 0 - G x j).map V.int))) tr=some (.tup (((List.range (ys.length+1)).map fun j=>G 0 0 - G x j).map V.int)):=ak
    generalize upd H6' tr (.tup (((List.range (ys.length+1)).map fun j=>G 0 0 - G x j).map V.int))=H7 at s7 e7 ⊢
    have s47:=s6'.trans s7
    have e47:=s47 _ _ e4
    have hx':=hx
    rw [hG3.l] at hx'
    refine⟨_,e47,aK (by omega),hN1 _ _ ⟨_,gus++[.ref tr],rfl,aU (s4.trans s47) hlo,ak,by rw [List.length_append,hgl];rfl,fun y u hu=>?_⟩⟩
    have kt:=dh (ws:=gus++[V.ref tr]) e47
    rcases Nat.lt_or_ge y gus.length with hy | hy
    ·rw [List.getElem?_append_left hy] at hu
     obtain⟨a',h1,h2⟩:=hgr y u hu
     exact⟨a',h1,kt _ _ (s47 _ _ h2)⟩
    ·rw [List.getElem?_append_right hy] at hu
     have hy0:y - gus.length=0:=by
      have:=(List.getElem?_eq_some_iff.mp hu).1
      rw [List.length_singleton] at this
      omega
     rw [hy0] at hu
     have hyx:y=x:=by omega
     rw [hyx]
     exact⟨tr,(Option.some.inj hu).symm,kt _ _ e7⟩
   ·rintro z σ'' H6' hz ⟨v',rfl,s6',e6'⟩
    have hat:(((List.range (ys.length+1)).map (G x)).map V.int)[z]?=some (.int (G x z)):=qU (by omega)
    refine⟨⟨_,_,SqL.of (s6' _ _ hrow4),hat⟩,?_⟩
    rintro N2 hN2 y H7 ⟨rfl,hy⟩
    have ey:y=.int (G x z):=Option.some.inj ((hy _ (SqL.of (s6' _ _ hrow4))).symm.trans hat)
    subst ey
    have hG7:=hG4.same s6'
    obtain⟨ra,row,_,u1,u2,_,_,u3⟩:=hG7.get (i:=0) (j:=0) (Nat.zero_le _) (Nat.zero_le _)
    refine gN (iM (eZ ⟨_,rfl,ixL (p:=g) rfl rfl (SqL.of hG7.e) (u1) (ixL (p:=ra) rfl rfl (SqL.of u2) (u3) (⟨ _,rfl,_,_,rfl,rfl,?_⟩))⟩))
    refine⟨_,e6',aK (by rw [List.length_map,List.length_map,List.length_range];omega),hN2 _ _ ⟨_,rfl,aU s6' hli,?_⟩⟩
    rw [ak,List.range_succ,List.map_append,List.map_append]
    rfl
  rintro σ' H4 ⟨v,gus,rfl,s4,e4,hgl,hgr⟩
  refine⟨⟨_,SqL.of (s4 _ _ hG3.e),by rw [List.length_map];exact Nat.le_refl _⟩,lo,_,rfl,.inl ⟨SqL.of e4,fun tq htq=>gN ?_⟩⟩
  have s5:=aq htq (.tup gus)
  have e5:(upd H4 tq (.tup gus)) tq=some (.tup gus):=ak
  generalize upd H4 tq (.tup gus)=H5 at s5 e5 ⊢
  have s35:=s4.trans s5
  have o5:cY b H6 H5:=o3.trans (.of s35)
  refine⟨_,rfl,_,rfl,_,rfl,_,rfl,l,a,c,qw,qp,ld,xs,ys,uw,ps,ns,us,w,rfl,hL6.old p6 o5,.inr (s35 _ _ e3),d3.same s35,hw,by omega,fun H7 s7=>?_⟩
  refine⟨_,rfl,ld,us,rfl,.inl ⟨SqL.of (s7 _ _ (s35 _ _ e3)),fun td htd=>⟨_,rfl,smn 3,fun t ht=>?_⟩⟩⟩
  have s8:=aq htd (.tup us)
  have e8:(upd H7 td (.tup us)) td=some (.tup us):=ak
  generalize upd H7 td (.tup us)=H8 at s8 e8 ht ⊢
  have st:=aq ht (.tup [.int (w.map (aY ns xs ys ps)).sum,.ref td,.ref tq])
  have s58:=(s7.trans s8).trans st
  refine k t td tq _ w (fun i j=>G 0 0 - G i j) us gus _ ((p3.same s35).same s58) (o5.trans (.of s58)) ⟨ak,st _ _ e8,(d3.same s35).same s58,fun s hs=>⟨(hw s hs).2.1,fun p hp=>⟨((hw s hs).2.2 p hp).la,((hw s hs).2.2 p hp).lb⟩⟩,⟨s58 _ _ e5,by rw [hgl,hG3.l],fun y u hu=>?_⟩,by omega⟩
  obtain⟨a',h1,h2⟩:=hgr y u hu
  exact⟨a',h1,(s5.trans s58) _ _ h2⟩
end
noncomputable def Dl(K:W.Frag):Sp:=fun vs H Q _=>∃(a:Addr)(ns:List Int),vs=[.ref a]/\SqL K H a (ns.map V.int)/\ns.length<=63/\∀ H',Q (.bl true) H'
theorem zV{r:Int}(h0:0<=r)(h1:r < 4):∃ m:Nat,atI [V.int 3,.int 4,.int 4,.int 7] r=some (.int (m:Nat))/\m<=7:=by
 obtain⟨k,rfl⟩:=Int.eq_ofNat_of_zero_le h0
 have hk:k < 4:=by omega
 rcases k with _ | _ | _ | _ | k
 ·exact⟨3,aO (xs:=[V.int 3,.int 4,.int 4,.int 7]) (j:=0) rfl,by decide⟩
 ·exact⟨4,aO (xs:=[V.int 3,.int 4,.int 4,.int 7]) (j:=1) rfl,by decide⟩
 ·exact⟨4,aO (xs:=[V.int 3,.int 4,.int 4,.int 7]) (j:=2) rfl,by decide⟩
 ·exact⟨7,aO (xs:=[V.int 3,.int 4,.int 4,.int 7]) (j:=3) rfl,by decide⟩
 ·omega
structure LL(H:Hp)(b q1 q2 qw qp t w g ls la lb:Addr)(xs ys:List Str)(us:List V)(ps:List (Str × Str))(ns:List Int)(c:Int)(way:List Stp)(F:Nat->Nat->Int)(wus gus:List V):Prop where
 p:bM b H
 d:fU H q1 q2 qw qp xs ys us ps ns
 l:gk H ls la lb qw qp xs ys us ps ns
 t:eE H t w g xs.length ys.length c way F wus gus
theorem LL.old{H H':Hp}{b q1 q2 qw qp t w g ls la lb:Addr}{xs ys:List Str}{us:List V}{ps:List (Str × Str)}{ns:List Int}{c:Int}{way:List Stp}{F:Nat->Nat->Int}{wus gus:List V}(h:LL H b q1 q2 qw qp t w g ls la lb xs ys us ps ns c way F wus gus)(p:bM b H')(o:cY b H H'):LL H' b q1 q2 qw qp t w g ls la lb xs ys us ps ns c way F wus gus:=⟨p,h.d.old h.p o,h.l.old h.p o,h.t.old h.p o⟩
theorem LL.same{H H':Hp}{b q1 q2 qw qp t w g ls la lb:Addr}{xs ys:List Str}{us:List V}{ps:List (Str × Str)}{ns:List Int}{c:Int}{way:List Stp}{F:Nat->Nat->Int}{wus gus:List V}(h:LL H b q1 q2 qw qp t w g ls la lb xs ys us ps ns c way F wus gus)(s:Same H H'):LL H' b q1 q2 qw qp t w g ls la lb xs ys us ps ns c way F wus gus:=h.old (h.p.same s) (.of s)
theorem Ln{b:Bool}{A B:Prop}(h:b=false)(k:B):if b=true then A else B:=by
 rw [h]
 exact oZ k
section
open M01
variable {P:Program}{w:World}{K:W.Frag}{mg:Str->Option Value}{base:Heap}
theorem jt:aQ ["_law_script","_law_pot","_law_ones","_law_others","_law_known_here","_law_prices_here","_law_m","_law_n","_law_sides_here","_law_told","_law_turn","_law_other","_law_dear","_law_strange_here"] ["_law_script"] (aB Dk):=⟨rfl,rfl,rfl,by decide +kernel,rfl,by decide +kernel,by decide +kernel⟩
theorem JH{f:Addr}{fd:FuncData}(F:Fun K "law" "law" Dk f fd)(Rz:Cal P w K mg base "_law_state" 1 ["_law_script"] (Bt K))(RB:Cal P w K mg base "_law_drawn" 4 ["_law_pot","_law_most"] zX)(Pj:Cal P w K mg base "_law_next" 1 ["_law_pot","_law_many"] iu)(Qu:Cal P w K mg base "_law_sides" 2 ["_law_ones","_law_others"] rY)(RD:Cal P w K mg base "_law_right" 4 ["_law_pot","_law_sides_here","_law_known_here","_law_prices_here","_law_m","_law_n"] Bo)(Pu:Cal P w K mg base "shows_found" 7 ["ones","others","words","prices","told"] rZ)(Qs:Cal P w K mg base "_law_otherwise" 4 ["_law_pot","_law_told","_law_sides_here","_law_known_here","_law_prices_here","_law_m","_law_n"] Bs)(Qo:Cal P w K mg base "_law_shown_so" 8 ["_law_ones","_law_others","_law_known_here","_law_prices_here","_law_told"] Nq)(QW:Cal P w K mg base "_law_strange" 4 ["_law_pot","_law_sides_here","_law_known_here","_law_prices_here","_law_m","_law_n"] qH)(Ph:mg "len" = none)(Pg:mg "range" = none):oR P w K mg base CX0 9 f fd ["_law_script"] (Dl K):=by
 refine F.ok jt (fun vs H Q E hs=>?_) (fun cdv A outer s H vs Q E hr hs=>?_)
 ·obtain⟨a,ns,rfl,_⟩:=hs
  rfl
 obtain⟨a,ns,rfl,hS,h63,k⟩:=hs
 refine qex ⟨_,(cL ⟨(aR (i:=1) jt.nd rfl (Or.inl rfl) (aG Rz hr (by decide) rfl (aj (pv 0) ao)))⟩
  (cL (Iw (Jp RB hr (by decide) rfl (Ii ⟨(pv 1)⟩ (Ii (Lh aX (J3 (Ii ⟨aA⟩ (Ii ⟨aA⟩ (Ii ⟨aA⟩ (Ii ⟨aA⟩ Ez))))) ⟨(aG Pj hr (by decide) rfl (aj (pv 1) (aj aA ao)))⟩ (fun _ _=>rfl)) Ez))) (bH (n:=4) rfl (aH (aD (i:=2) jt.nd rfl (Or.inl rfl)) (aH (aD (i:=3) jt.nd rfl (Or.inl rfl)) (aH (aD (i:=4) jt.nd rfl (Or.inl rfl)) (aH (aD (i:=5) jt.nd rfl (Or.inl rfl)) bI))))))
  (cL ⟨(zq (i:=6) (j:=7) rfl jt.nd rfl rfl (by decide) rfl rfl (aj (aJ aN rfl Ph PySem.boot_len (aj (pv 2) ao)) (aj (aJ aN rfl Ph PySem.boot_len (aj (pv 3) ao)) ao)) rfl)⟩
  (cL ⟨(aR (i:=8) jt.nd rfl (Or.inl rfl) (aG Qu hr (by decide) rfl (aj (pv 2) (aj (pv 3) ao))))⟩
  (cL ⟨(aR (i:=9) jt.nd rfl (Or.inl rfl) (aG RD hr (by decide) rfl (aj (pv 1) (aj (pv 8) (aj (pv 4) (aj (pv 5) (aj (pv 6) (aj (pv 7) ao))))))))⟩
  (cL ⟨(cD (aW sO (aG Pu hr (by decide) rfl (aj (pv 2) (aj (pv 3) (aj (pv 4) (aj (pv 5) (aj (pv 9) ao)))))) fJ (bB _))
   (aC (aV fJ))
   bF)⟩
  (cL ⟨(cG PassesOwn.never rfl (cC rfl Pg (aj aA ao)) (aD (i:=10) jt.nd rfl (Or.inl rfl))
   (au (aR (i:=11) jt.nd rfl (Or.inl rfl) (aG Qs hr (by decide) rfl (aj (pv 1) (aj (pv 9) (aj (pv 8) (aj (pv 4) (aj (pv 5) (aj (pv 6) (aj (pv 7) ao)))))))))
  (aC (cD (j9 (gG (aG Qo hr (by decide) rfl (aj (pv 2) (aj (pv 3) (aj (pv 4) (aj (pv 5) (aj (pv 11) ao))))))))
   (aC (aV fJ))
   bF))))⟩
  (cL ⟨(aR (i:=12) jt.nd rfl (Or.inl rfl) (pv 5))⟩
  (cL ⟨(cD (aW dR (aG Pj hr (by decide) rfl (aj (pv 1) (aj aA ao))) aA (bB _))
   (aC (aR (i:=12) jt.nd rfl (Or.inl rfl) (aM (aj (aP bA (aP lB (bx bh (pv 5) aA (fun _ _=>rfl)) aA) aA) (aj aA (aj (aP bA (aP lB (bx bh (pv 5) aA (fun _ _=>rfl)) aA) aA) (aj aA (aj aA ao))))))))
   bF)⟩
  (cL ⟨(aR (i:=13) jt.nd rfl (Or.inl rfl) (aG QW hr (by decide) rfl (aj (pv 1) (aj (pv 8) (aj (pv 4) (aj (pv 12) (aj (pv 6) (aj (pv 7) ao))))))))⟩
  (cL ⟨(cD (j9 (gG (aG Qo hr (by decide) rfl (aj (pv 2) (aj (pv 3) (aj (pv 4) (aj (pv 12) (aj (pv 13) ao))))))))
   (aC (aV fJ))
   bF)⟩
  (xq ⟨(aV (fG CT (aG Pu hr (by decide) rfl (aj (pv 2) (aj (pv 3) (aj (pv 4) (aj (pv 5) (aj (pv 9) ao)))))) fJ (bB _)))⟩)))))))))))),?_⟩
 refine⟨_,rfl,a,ns,rfl,hS,h63,fun b H1 s1 p1=>gN ?_⟩
 refine⟨_,rfl,smn 4,fun l1 hl1=>?_⟩
 have s2:=aq hl1 (.lst [.int 3,.int 4,.int 4,.int 7])
 have e2:(upd H1 l1 (.lst [.int 3,.int 4,.int 4,.int 7])) l1=some (.lst [.int 3,.int 4,.int 4,.int 7]):=ak
 have nl1:l1≠b:=p1.ne hl1
 generalize upd H1 l1 (.lst [.int 3,.int 4,.int 4,.int 7])=H2 at s2 e2 ⊢
 refine⟨_,rfl,b,4,rfl,p1.same s2,by decide,by decide,fun r H3 p3 o3 r0 r1=>?_⟩
 obtain⟨mo,hmo,hm7⟩:=zV r0 r1
 refine (ixL (p:=l1) rfl rfl (SqL.of (o3 _ _ e2 nl1)) (hmo) (⟨ b,mo,rfl,p3,hm7,fun t q1 q2 qw qp xs ys us ps ns' H4 p4 et hD=>?_⟩))
 refine⟨t,_,rfl,SqT.of et,rfl,_,_,rfl,_,_,rfl,_,_,rfl,_,_,rfl,rfl,?_⟩
 clear p1 p3 o3 r0 r1 hmo hm7 e2 nl1 s2 s1 hS et
 refine⟨_,rfl,q1,_,rfl,.inr (SqT.of hD.e1),_,rfl,q2,_,rfl,.inr (SqT.of hD.e2),_,_,rfl,?_⟩
 rw [List.length_map,List.length_map]
 have hl1:=hD.l1
 have hl2:=hD.l2
 have hul:=hD.ul
 have lx:∀ x∈xs,x.length<=1000:=fun x h=>(hD.a1 x h).l
 have ly:∀ x∈ys,x.length<=1000:=fun x h=>(hD.a2 x h).l
 refine⟨_,rfl,_,rfl,q1,q2,xs,ys,rfl,hD.e1,hD.e2,by omega,by omega,hD.a1,hD.a2,fun ls la lb H5 s5 el sa1 sb1=>gN ?_⟩
 have hD5:=hD.same s5
 have p5:=p4.same s5
 have hL5:gk H5 ls la lb qw qp xs ys us ps ns':=⟨el,sa1,sb1,lx,ly,hD5.ew,by omega,hD5.P,hD5.ep,hD5.n5⟩
 refine⟨_,rfl,_,rfl,_,rfl,_,rfl,_,rfl,_,rfl,b,ls,la,lb,qw,qp,xs,ys,us,ps,ns',rfl,p5,hL5,by omega,by omega,fun t6 w6 g6 c F way wus gus H6 p6 o6 hT hSh=>gN ?_⟩
 have hA:LL H6 b q1 q2 qw qp t6 w6 g6 ls la lb xs ys us ps ns' c way F wus gus:=⟨p6,hD5.old p5 o6,hL5.old p5 o6,hT⟩
 clear hT hL5 hD5 hD p4 p5 p6 o6 el sa1 sb1 s5
 refine⟨_,rfl,_,rfl,_,rfl,_,rfl,_,rfl,q1,q2,qw,qp,t6,w6,g6,xs,ys,us,ps,ns',c,way,F,wus,gus,rfl,hA.d.e1,hA.d.e2,by omega,by omega,lx,ly,hA.d.ew,by omega,hA.d.P,hA.d.ep,hA.d.n5,hA.t,fun b2 H7 s7 hb=>⟨_,_,rfl,rfl,_,rfl,Ln (by rw [hb.mpr hSh];rfl) ?_⟩⟩
 clear hb
 replace hA:=hA.same s7
 clear s7
 refine⟨2,rfl,by omega,by omega,?_⟩
 refine dj (lo:=0) (n:=2) (fun y σ H8=>∃ v10 v11:Option V,σ=[some (.ref a),some (.ref b),some (.ref q1),some (.ref q2),some (.ref qw),some (.ref qp),some (.int (xs.length:Nat)),some (.int (ys.length:Nat)),some (.ref ls),some (.ref t6),v10,v11,none,none]/\LL H8 b q1 q2 qw qp t6 w6 g6 ls la lb xs ys us ps ns' c way F wus gus) ⟨_,_,rfl,hA⟩ ?_ ?_
 ·rintro y σ H8 hy ⟨v10,v11,rfl,hA⟩
  refine gN ⟨_,rfl,_,rfl,_,rfl,_,rfl,_,rfl,_,rfl,_,rfl,b,t6,w6,g6,ls,la,lb,qw,qp,c,way,F,wus,gus,xs,ys,us,ps,ns',rfl,hA.p,hA.t,hA.l,hSh.thru,by omega,by omega,fun t' w' g' c' way' F' wus' gus' H9 p9 o9 hT'=>gN ?_⟩
  have hA9:=hA.old p9 o9
  exact⟨_,rfl,_,rfl,_,rfl,_,rfl,_,rfl,q1,q2,qw,qp,t',w',g',c',way',F',wus',gus',xs,ys,us,ps,ns',rfl,hA9.d,hT',fun Ha sa=>⟨_,rfl,oZ ⟨_,_,rfl,hA9.same sa⟩⟩⟩
 clear hA
 rintro σ H8 ⟨v10,v11,rfl,hA⟩
 refine⟨_,rfl,?_⟩
 refine nxP (fun σ H'=>∃(qd:Addr)(nd:List Int),σ=[some (.ref a),some (.ref b),some (.ref q1),some (.ref q2),some (.ref qw),some (.ref qp),some (.int (xs.length:Nat)),some (.int (ys.length:Nat)),some (.ref ls),some (.ref t6),v10,v11,some (.ref qd),none]/\LL H' b q1 q2 qw qp t6 w6 g6 ls la lb xs ys us ps ns' c way F wus gus/\H' qd=some (.tup (nd.map V.int))/\nd.length=5) (fun N hN=>?_) ?_
 ·refine⟨_,rfl,b,2,rfl,hA.p,by decide,by decide,fun r H9 p9 o9 _ _=>⟨rfl,_,rfl,?_⟩⟩
  have hA9:=hA.old p9 o9
  refine cU (fun z=>?_) (fun z=>hN _ _ ⟨qp,ns',rfl,hA9,hA9.d.ep,hA9.d.n5⟩)
  have h5:=hA9.d.n5
  have a0:atI (ns'.map V.int) 0=some (.int ns'[0]):=aO (j:=0) (by rw [List.getElem?_map,aZ (show 0 < ns'.length by omega)];rfl)
  have a2:atI (ns'.map V.int) 2=some (.int ns'[2]):=aO (j:=2) (by rw [List.getElem?_map,aZ (show 2 < ns'.length by omega)];rfl)
  refine⟨_,rfl,ixT (p:=qp) rfl rfl (SqT.of hA9.d.ep) (a0) (⟨ _,_,rfl,rfl,⟨by decide,by decide⟩,_,_,rfl,rfl,_,rfl,ixT (p:=qp) rfl rfl (SqT.of hA9.d.ep) (a2) (⟨ _,_,rfl,rfl,⟨by decide,by decide⟩,_,_,rfl,rfl,smn 5,fun qd hqd=>hN _ _ ⟨qd,[ns'[0] / 2+2000,0,ns'[2] / 2+2000,1,0],rfl,hA9.same (aq hqd _),ak,rfl⟩⟩)⟩)⟩
 clear hA
 rintro σ H9 ⟨qd,nd,rfl,hA,ed,hd5⟩
 refine⟨_,rfl,_,rfl,_,rfl,_,rfl,_,rfl,_,rfl,b,ls,la,lb,qw,qd,xs,ys,us,ps,nd,rfl,hA.p,⟨hA.l.el,hA.l.sa,hA.l.sb,lx,ly,hA.l.qw,hA.l.ul,hA.l.P,ed,hd5⟩,by omega,by omega,fun t' w' g' c' way' F' wus' gus' Ha pa oa hT'=>gN ?_⟩
 have hAa:=hA.old pa oa
 have hdd:=oa.tup hA.p _ _ ed
 refine⟨_,rfl,_,rfl,_,rfl,_,rfl,_,rfl,q1,q2,qw,qd,t',w',g',c',way',F',wus',gus',xs,ys,us,ps,nd,rfl,⟨hAa.d.e1,hAa.d.e2,hl1,hl2,hAa.d.a1,hAa.d.a2,hAa.d.ew,hul,hAa.d.P,hdd,hd5⟩,hT',fun Hb sb=>⟨_,rfl,oZ ?_⟩⟩
 have hAb:=hAa.same sb
 refine⟨_,rfl,_,rfl,_,rfl,_,rfl,_,rfl,q1,q2,qw,qp,t6,w6,g6,xs,ys,us,ps,ns',c,way,F,wus,gus,rfl,hAb.d.e1,hAb.d.e2,by omega,by omega,lx,ly,hAb.d.ew,by omega,hAb.d.P,hAb.d.ep,hAb.d.n5,hAb.t,fun b2 Hc sc hb=>⟨_,_,rfl,rfl,?_⟩⟩
 have e:(b2 == true)=true:=by rw [hb.mpr hSh];rfl
 rw [e]
 exact k Hc
end
theorem all_mk{l:W.OpenLaw}{w:World}{K:W.Frag}{h:Heap}{mg:Str->Option Value}{fa f56:Addr}(X:K.In h)(G:h.Ns mainGlobals mg)(hfa:mg "law" = some (.ref fa))
  {od56 an56:Option Addr}{sl56:Array (Option Value)}{oc56 kV56 dc56 pm56 cd56 ct56:Value}
  (i1:FnI K "is_number" jH)
  (i2:FnI K "is_row_of" lA)
  (i3:FnI K "are_numbers" fH)
  (i4:FnI K "is_grid" lZ)
  (i5:FnI K "is_word_sign" Js)
  (i6:FnI K "words_of" m9)
  (i7:FnI K "cores_of" jz)
  (i8:FnI K "size_of" ou)
  (i9:FnI K "cores_among" gB)
  (i10:FnI K "places_known" eN)
  (i11:FnI K "hits_of_places" eU)
  (i12:FnI K "one_link" lF)
  (i13:FnI K "crossed" lM)
  (i14:FnI K "passed" j4)
  (i15:FnI K "steps_from" gj)
  (i16:FnI K "is_link_of_places" dM)
  (i17:FnI K "is_row_of_links" dD)
  (i18:FnI K "is_way" qN)
  (i19:FnI K "measured" iB)
  (i20:FnI K "size_of_all" gn)
  (i21:FnI K "places_of_all" fO)
  (i22:FnI K "measured_cost" eX)
  (i23:FnI K "link_cost" gq)
  (i24:FnI K "step_cost" gJ)
  (i25:FnI K "way_cost" jq)
  (i26:FnI K "priced_steps" fK)
  (i27:FnI K "is_found" lD)
  (i28:FnI K "no_step_is_short" dZ)
  (i29:FnI K "shows_found" gw)
  (i30:FnI K "_law_next" DK)
  (i31:FnI K "_law_state" qj)
  (i32:FnI K "_law_list" yq)
  (i33:FnI K "_law_text" Di)
  (i34:FnI K "_law_texts" rz)
  (i35:FnI K "_law_known" uZ)
  (i36:FnI K "_law_prices" mF)
  (i37:FnI K "_law_drawn" u6)
  (i38:FnI K "_law_cores" uV)
  (i39:FnI K "_law_sides" qx)
  (i40:FnI K "_law_link" mQ)
  (i41:FnI K "_law_step" Ah)
  (i42:FnI K "_law_steps" uq)
  (i43:FnI K "_law_on" sOn)
  (i44:FnI K "_law_loose" uO)
  (i45:FnI K "_law_left" tU)
  (i46:FnI K "_law_ahead" rE)
  (i47:FnI K "_law_any_way" oE)
  (i48:FnI K "_law_paid" yp)
  (i49:FnI K "_law_through" lE)
  (i50:FnI K "_law_grid_holds" iG)
  (i51:FnI K "_law_right" nu)
  (i52:FnI K "_law_otherwise" iJ)
  (i53:FnI K "_law_strange" ju)
  (i54:FnI K "_law_due" KJ)
  (i55:FnI K "_law_shown_so" lH)
  (a56:W.nsIn K mainGlobals "law" = some (some (.ref f56)))(l56:K.lookup f56=some ⟨oc56,od56,.func (W.fnOf "law" "law" (gU Dk) (fQ Dk) (aB Dk) .none kV56 dc56 pm56 an56 cd56 ct56),sl56⟩)(c56:W.codeIn K cd56 "law" = true)(k56:W.keepIn K (.ref f56)=true)
  {Rt Qt QC R5 Q6:Tok}(p_MORE:W.nsIn K mainGlobals "MORE" = some (some (.int 1 Rt)))(p_STRETCH:W.nsIn K mainGlobals "STRETCH" = some (some (.int 3 Qt)))(p_ANCHOR:W.nsIn K mainGlobals "ANCHOR" = some (some (.int 4 QC)))(p_OUT:W.nsIn K mainGlobals "OUT" = some (some (.int 0 R5)))(p_CROSS:W.nsIn K mainGlobals "CROSS" = some (some (.int 2 Q6)))
  {P0 e0_SHAPES e1_SHAPES e2_SHAPES e3_SHAPES e4_SHAPES e5_SHAPES e6_SHAPES:Addr}{d0_SHAPES d1_SHAPES d2_SHAPES d3_SHAPES d4_SHAPES d5_SHAPES d6_SHAPES d7_SHAPES:Option Addr}{n0_SHAPES n1_SHAPES n2_SHAPES n3_SHAPES n4_SHAPES n5_SHAPES n6_SHAPES n7_SHAPES:Nat}{l0_SHAPES l1_SHAPES l2_SHAPES l3_SHAPES l4_SHAPES l5_SHAPES l6_SHAPES l7_SHAPES:Array (Option Value)}{u0_SHAPES v0_SHAPES u1_SHAPES v1_SHAPES u2_SHAPES v2_SHAPES u3_SHAPES v3_SHAPES u4_SHAPES v4_SHAPES u5_SHAPES v5_SHAPES u6_SHAPES v6_SHAPES:Tok}(p_SHAPES:W.nsIn K mainGlobals "SHAPES" = some (some (.ref P0)))(y7_SHAPES:K.lookup P0=some ⟨.type "tuple",d7_SHAPES,.seq #[.ref e0_SHAPES,.ref e1_SHAPES,.ref e2_SHAPES,.ref e3_SHAPES,.ref e4_SHAPES,.ref e5_SHAPES,.ref e6_SHAPES] n7_SHAPES,l7_SHAPES⟩)(y0_SHAPES:K.lookup e0_SHAPES=some ⟨.type "tuple",d0_SHAPES,.seq #[.int 0 u0_SHAPES,.int 1 v0_SHAPES] n0_SHAPES,l0_SHAPES⟩)(y1_SHAPES:K.lookup e1_SHAPES=some ⟨.type "tuple",d1_SHAPES,.seq #[.int 1 u1_SHAPES,.int 0 v1_SHAPES] n1_SHAPES,l1_SHAPES⟩)(y2_SHAPES:K.lookup e2_SHAPES=some ⟨.type "tuple",d2_SHAPES,.seq #[.int 1 u2_SHAPES,.int 1 v2_SHAPES] n2_SHAPES,l2_SHAPES⟩)(y3_SHAPES:K.lookup e3_SHAPES=some ⟨.type "tuple",d3_SHAPES,.seq #[.int 1 u3_SHAPES,.int 2 v3_SHAPES] n3_SHAPES,l3_SHAPES⟩)(y4_SHAPES:K.lookup e4_SHAPES=some ⟨.type "tuple",d4_SHAPES,.seq #[.int 1 u4_SHAPES,.int 3 v4_SHAPES] n4_SHAPES,l4_SHAPES⟩)(y5_SHAPES:K.lookup e5_SHAPES=some ⟨.type "tuple",d5_SHAPES,.seq #[.int 2 u5_SHAPES,.int 1 v5_SHAPES] n5_SHAPES,l5_SHAPES⟩)(y6_SHAPES:K.lookup e6_SHAPES=some ⟨.type "tuple",d6_SHAPES,.seq #[.int 3 u6_SHAPES,.int 1 v6_SHAPES] n6_SHAPES,l6_SHAPES⟩)
  (z_len:W.nsIn K mainGlobals "len" = some none)(z_int:W.nsIn K mainGlobals "int" = some none)(z_range:W.nsIn K mainGlobals "range" = some none)(z_isinstance:W.nsIn K mainGlobals "isinstance" = some none)(z_tuple:W.nsIn K mainGlobals "tuple" = some none)(z_bool:W.nsIn K mainGlobals "bool" = some none)(z_sum:W.nsIn K mainGlobals "sum" = some none)(z_abs:W.nsIn K mainGlobals "abs" = some none)(z_max:W.nsIn K mainGlobals "max" = some none)(z_set:W.nsIn K mainGlobals "set" = some none)(z_enumerate:W.nsIn K mainGlobals "enumerate" = some none)(z_any:W.nsIn K mainGlobals "any" = some none)(z_sorted:W.nsIn K mainGlobals "sorted" = some none)(z_min:W.nsIn K mainGlobals "min" = some none)(z_all:W.nsIn K mainGlobals "all" = some none) :
  ∃ fd:FuncData,(∀(s:Shared)(v:Value),BindsTo s fd ⟨[v],[]⟩ [("_law_script",v)])/\∀ base:Heap,K.In base->base.Ns mainGlobals mg->oR l.prog w K mg base CX0 9 fa fd ["_law_script"] (Dl K):=by
 have e:=hfa.symm.trans (W.mg_of X G a56)
 cases e
 have RK:Has K mg "is_number" jH ["thing"]:=i1.has X G fun _ _ _ _ _ _ us hl=>len1 us hl fun _=>rfl
 have RL:Has K mg "is_row_of" lA ["thing","count"]:=i2.has X G fun _ _ _ _ _ _ us hl=>len2 us hl fun _ _=>rfl
 have Ri:Has K mg "are_numbers" fH ["thing"]:=i3.has X G fun _ _ _ _ _ _ us hl=>len1 us hl fun _=>rfl
 have R7:Has K mg "is_grid" lZ ["thing","rows","columns"]:=i4.has X G fun _ _ _ _ _ _ us hl=>wX us hl fun _ _ _=>rfl
 have Tt:Has K mg "is_word_sign" Js ["sign"]:=i5.has X G fun _ _ _ _ _ _ us hl=>len1 us hl fun _=>rfl
 have SN:Has K mg "words_of" m9 ["text"]:=i6.has X G fun _ _ _ _ _ _ us hl=>len1 us hl fun _=>rfl
 have SQ:Has K mg "cores_of" jz ["text"]:=i7.has X G fun _ _ _ _ _ _ us hl=>len1 us hl fun _=>rfl
 have R8:Has K mg "size_of" ou ["text"]:=i8.has X G fun _ _ _ _ _ _ us hl=>len1 us hl fun _=>rfl
 have Rj:Has K mg "cores_among" gB ["texts"]:=i9.has X G fun _ _ _ _ _ _ us hl=>len1 us hl fun _=>rfl
 have Rg:Has K mg "places_known" eN ["texts","words","side"]:=i10.has X G fun _ _ _ _ _ _ us hl=>wX us hl fun _ _ _=>rfl
 have QX:Has K mg "hits_of_places" eU ["left","right"]:=i11.has X G fun _ _ _ _ _ _ us hl=>len2 us hl fun _ _=>rfl
 have RW:Has K mg "one_link" lF ["i","j","shape"]:=i12.has X G fun _ _ _ _ _ _ us hl=>wX us hl fun _ _ _=>rfl
 have R9:Has K mg "crossed" lM ["i","j"]:=i13.has X G fun _ _ _ _ _ _ us hl=>len2 us hl fun _ _=>rfl
 have Sw:Has K mg "passed" j4 ["step"]:=i14.has X G fun _ _ _ _ _ _ us hl=>len1 us hl fun _=>rfl
 have RG:Has K mg "steps_from" gj ["i","j","m","n"]:=i15.has X G fun _ _ _ _ _ _ us hl=>Ak us hl fun _ _ _ _=>rfl
 have Qv:Has K mg "is_link_of_places" dM ["thing"]:=i16.has X G fun _ _ _ _ _ _ us hl=>len1 us hl fun _=>rfl
 have QD:Has K mg "is_row_of_links" dD ["thing"]:=i17.has X G fun _ _ _ _ _ _ us hl=>len1 us hl fun _=>rfl
 have Sy:Has K mg "is_way" qN ["thing","m","n"]:=i18.has X G fun _ _ _ _ _ _ us hl=>wX us hl fun _ _ _=>rfl
 have RX:Has K mg "measured" iB ["texts","words","side"]:=i19.has X G fun _ _ _ _ _ _ us hl=>wX us hl fun _ _ _=>rfl
 have Rk:Has K mg "size_of_all" gn ["texts"]:=i20.has X G fun _ _ _ _ _ _ us hl=>len1 us hl fun _=>rfl
 have QZ:Has K mg "places_of_all" fO ["texts"]:=i21.has X G fun _ _ _ _ _ _ us hl=>len1 us hl fun _=>rfl
 have Q5:Has K mg "measured_cost" eX ["ones","others","prices"]:=i22.has X G fun _ _ _ _ _ _ us hl=>wX us hl fun _ _ _=>rfl
 have RM:Has K mg "link_cost" gq ["link","left","right","prices"]:=i23.has X G fun _ _ _ _ _ _ us hl=>Ak us hl fun _ _ _ _=>rfl
 have RN:Has K mg "step_cost" gJ ["step","left","right","prices"]:=i24.has X G fun _ _ _ _ _ _ us hl=>Ak us hl fun _ _ _ _=>rfl
 have RZ:Has K mg "way_cost" jq ["way","left","right","prices"]:=i25.has X G fun _ _ _ _ _ _ us hl=>Ak us hl fun _ _ _ _=>rfl
 have Rh:Has K mg "priced_steps" fK ["i","j","left","right","prices"]:=i26.has X G fun _ _ _ _ _ _ us hl=>Il us hl fun _ _ _ _ _=>rfl
 have R0:Has K mg "is_found" lD ["thing","m","n"]:=i27.has X G fun _ _ _ _ _ _ us hl=>wX us hl fun _ _ _=>rfl
 have QB:Has K mg "no_step_is_short" dZ ["grid","left","right","prices"]:=i28.has X G fun _ _ _ _ _ _ us hl=>Ak us hl fun _ _ _ _=>rfl
 have Rm:Has K mg "shows_found" gw ["ones","others","words","prices","told"]:=i29.has X G fun _ _ _ _ _ _ us hl=>Il us hl fun _ _ _ _ _=>rfl
 have Tg:Has K mg "_law_next" DK ["_law_pot","_law_many"]:=i30.has X G fun _ _ _ _ _ _ us hl=>len2 us hl fun _ _=>rfl
 have S5:Has K mg "_law_state" qj ["_law_script"]:=i31.has X G fun _ _ _ _ _ _ us hl=>len1 us hl fun _=>rfl
 have Ti:Has K mg "_law_list" yq ["_law_pot"]:=i32.has X G fun _ _ _ _ _ _ us hl=>len1 us hl fun _=>rfl
 have Tj:Has K mg "_law_text" Di ["_law_pot","_law_cores_here"]:=i33.has X G fun _ _ _ _ _ _ us hl=>len2 us hl fun _ _=>rfl
 have S6:Has K mg "_law_texts" rz ["_law_pot","_law_cores_here","_law_many"]:=i34.has X G fun _ _ _ _ _ _ us hl=>wX us hl fun _ _ _=>rfl
 have S7:Has K mg "_law_known" uZ ["_law_pot","_law_lefts","_law_rights"]:=i35.has X G fun _ _ _ _ _ _ us hl=>wX us hl fun _ _ _=>rfl
 have SJ:Has K mg "_law_prices" mF ["_law_pot"]:=i36.has X G fun _ _ _ _ _ _ us hl=>len1 us hl fun _=>rfl
 have S8:Has K mg "_law_drawn" u6 ["_law_pot","_law_most"]:=i37.has X G fun _ _ _ _ _ _ us hl=>len2 us hl fun _ _=>rfl
 have SM:Has K mg "_law_cores" uV ["_law_text_here"]:=i38.has X G fun _ _ _ _ _ _ us hl=>len1 us hl fun _=>rfl
 have S9:Has K mg "_law_sides" qx ["_law_ones","_law_others"]:=i39.has X G fun _ _ _ _ _ _ us hl=>len2 us hl fun _ _=>rfl
 have Tn:Has K mg "_law_link" mQ ["_law_sides_here","_law_link_here","_law_known_here","_law_prices_here"]:=i40.has X G fun _ _ _ _ _ _ us hl=>Ak us hl fun _ _ _ _=>rfl
 have Tp:Has K mg "_law_step" Ah ["_law_sides_here","_law_step_here","_law_known_here","_law_prices_here"]:=i41.has X G fun _ _ _ _ _ _ us hl=>Ak us hl fun _ _ _ _=>rfl
 have Tc:Has K mg "_law_steps" uq ["_law_i","_law_j","_law_m","_law_n"]:=i42.has X G fun _ _ _ _ _ _ us hl=>Ak us hl fun _ _ _ _=>rfl
 have Tw:Has K mg "_law_on" sOn ["_law_step_here","_law_i","_law_j"]:=i43.has X G fun _ _ _ _ _ _ us hl=>wX us hl fun _ _ _=>rfl
 have Td:Has K mg "_law_loose" uO ["_law_i","_law_j","_law_m","_law_n"]:=i44.has X G fun _ _ _ _ _ _ us hl=>Ak us hl fun _ _ _ _=>rfl
 have Tq:Has K mg "_law_left" tU ["_law_sides_here","_law_known_here","_law_prices_here","_law_m","_law_n","_law_loose_here"]:=i45.has X G fun _ _ _ _ _ _ us hl=>Ip us hl fun _ _ _ _ _ _=>rfl
 have Te:Has K mg "_law_ahead" rE ["_law_sides_here","_law_known_here","_law_prices_here","_law_m","_law_n"]:=i46.has X G fun _ _ _ _ _ _ us hl=>Il us hl fun _ _ _ _ _=>rfl
 have Sd:Has K mg "_law_any_way" oE ["_law_pot","_law_i","_law_j","_law_m","_law_n"]:=i47.has X G fun _ _ _ _ _ _ us hl=>Il us hl fun _ _ _ _ _=>rfl
 have Tr:Has K mg "_law_paid" yp ["_law_sides_here","_law_known_here","_law_prices_here","_law_way"]:=i48.has X G fun _ _ _ _ _ _ us hl=>Ak us hl fun _ _ _ _=>rfl
 have Sg:Has K mg "_law_through" lE ["_law_way","_law_m","_law_n"]:=i49.has X G fun _ _ _ _ _ _ us hl=>wX us hl fun _ _ _=>rfl
 have RJ:Has K mg "_law_grid_holds" iG ["_law_sides_here","_law_known_here","_law_prices_here","_law_m","_law_n","_law_grid"]:=i50.has X G fun _ _ _ _ _ _ us hl=>Ip us hl fun _ _ _ _ _ _=>rfl
 have Tf:Has K mg "_law_right" nu ["_law_pot","_law_sides_here","_law_known_here","_law_prices_here","_law_m","_law_n"]:=i51.has X G fun _ _ _ _ _ _ us hl=>Ip us hl fun _ _ _ _ _ _=>rfl
 have RP:Has K mg "_law_otherwise" iJ ["_law_pot","_law_told","_law_sides_here","_law_known_here","_law_prices_here","_law_m","_law_n"]:=i52.has X G fun _ _ _ _ _ _ us hl=>Nu us hl fun _ _ _ _ _ _ _=>rfl
 have Sh:Has K mg "_law_strange" ju ["_law_pot","_law_sides_here","_law_known_here","_law_prices_here","_law_m","_law_n"]:=i53.has X G fun _ _ _ _ _ _ us hl=>Ip us hl fun _ _ _ _ _ _=>rfl
 have Tv:Has K mg "_law_due" KJ ["_law_told","_law_sides_here","_law_known_here","_law_prices_here","_law_m","_law_n"]:=i54.has X G fun _ _ _ _ _ _ us hl=>Ip us hl fun _ _ _ _ _ _=>rfl
 have R3:Has K mg "_law_shown_so" lH ["_law_ones","_law_others","_law_known_here","_law_prices_here","_law_told"]:=i55.has X G fun _ _ _ _ _ _ us hl=>Il us hl fun _ _ _ _ _=>rfl
 have F56:=Fd (st:=Dk) l56 c56 k56
 have Ph:=W.mg_none_of X G z_len
 have Ro:=W.mg_none_of X G z_int
 have Pg:=W.mg_none_of X G z_range
 have Pk:=W.mg_none_of X G z_isinstance
 have Pb:=W.mg_none_of X G z_tuple
 have QK:=W.mg_none_of X G z_bool
 have Px:=W.mg_none_of X G z_sum
 have Qw:=W.mg_none_of X G z_abs
 have Rn:=W.mg_none_of X G z_max
 have R4:=W.mg_none_of X G z_set
 have Pz:=W.mg_none_of X G z_enumerate
 have R6:=W.mg_none_of X G z_any
 have Q9:=W.mg_none_of X G z_sorted
 have Rp:=W.mg_none_of X G z_min
 have Qp:=W.mg_none_of X G z_all
 have RQ:=W.mg_of X G p_MORE
 have QG:=W.mg_of X G p_STRETCH
 have Q8:=W.mg_of X G p_ANCHOR
 have Ss:=W.mg_of X G p_OUT
 have Ru:=W.mg_of X G p_CROSS
 have Ra:=W.mg_of X G p_SHAPES
 have QJ:yG K P0 shapes:=Ay (as:=[e0_SHAPES,e1_SHAPES,e2_SHAPES,e3_SHAPES,e4_SHAPES,e5_SHAPES,e6_SHAPES]) (gY y7_SHAPES (smn 7) (.cons rfl (.cons rfl (.cons rfl (.cons rfl (.cons rfl (.cons rfl (.cons rfl (.nil))))))))) (.cons (gY y0_SHAPES (smn 2) (.cons ⟨_,rfl⟩ (.cons ⟨_,rfl⟩ .nil))) (.cons (gY y1_SHAPES (smn 2) (.cons ⟨_,rfl⟩ (.cons ⟨_,rfl⟩ .nil))) (.cons (gY y2_SHAPES (smn 2) (.cons ⟨_,rfl⟩ (.cons ⟨_,rfl⟩ .nil))) (.cons (gY y3_SHAPES (smn 2) (.cons ⟨_,rfl⟩ (.cons ⟨_,rfl⟩ .nil))) (.cons (gY y4_SHAPES (smn 2) (.cons ⟨_,rfl⟩ (.cons ⟨_,rfl⟩ .nil))) (.cons (gY y5_SHAPES (smn 2) (.cons ⟨_,rfl⟩ (.cons ⟨_,rfl⟩ .nil))) (.cons (gY y6_SHAPES (smn 2) (.cons ⟨_,rfl⟩ (.cons ⟨_,rfl⟩ .nil))) .nil)))))))
 refine⟨W.fnOf "law" "law" (gU Dk) (fQ Dk) (aB Dk) .none kV56 dc56 pm56 an56 cd56 ct56,fun s v=>.of_eq rfl,fun base _ _=>?_⟩
 have Sq:=Le (P:=l.prog) (w:=w) (base:=base) Tt
 have Rq:=Ht (P:=l.prog) (w:=w) (base:=base) SN Sq Pb
 have Rr:=GJ (P:=l.prog) (w:=w) (base:=base) SQ Rq Pb
 have QF:=yP (P:=l.prog) (w:=w) (base:=base) R8 Ph
 have Qi:=oA (P:=l.prog) (w:=w) (base:=base) Rj Rr
 have Qg:=mK (P:=l.prog) (w:=w) (base:=base) Rg Qi Pz
 have Qc:=kE (P:=l.prog) (w:=w) (base:=base) QX Ph R4
 have Qm:=wO (P:=l.prog) (w:=w) (base:=base) RX Qg QF
 have Qd:=nO (P:=l.prog) (w:=w) (base:=base) Rk Px
 have PK:=mG (P:=l.prog) (w:=w) (base:=base) QZ
 have Qe:=mD (P:=l.prog) (w:=w) (base:=base) Q5 Qd Qc PK Rn Ph Qw RQ QG Q8
 have Pj:=J2 (P:=l.prog) (w:=w) (base:=base) Tg Ph
 have Rz:=G9 (P:=l.prog) (w:=w) (base:=base) S5 Qw
 have Rw:=Jv (P:=l.prog) (w:=w) (base:=base) Ti Pj Ph Pg
 have RT:=Iu (P:=l.prog) (w:=w) (base:=base) Tj Pj Pg
 have Q7:=Gn (P:=l.prog) (w:=w) (base:=base) S6 RT Pb Pg
 have Rx:=GX (P:=l.prog) (w:=w) (base:=base) S7 Pj Pg Pb
 have Rf:=Dn (P:=l.prog) (w:=w) (base:=base) SJ Pj Pb Pg
 have Rc:=Du (P:=l.prog) (w:=w) (base:=base) SM
 have Qu:=HX (P:=l.prog) (w:=w) (base:=base) S9 Rc Ph
 have Qx:=wB (P:=l.prog) (w:=w) (base:=base) RW Pb Pg
 have QH:=zN (P:=l.prog) (w:=w) (base:=base) R9
 have Ql:=Dv (P:=l.prog) (w:=w) (base:=base) Sw Px Ph
 have Qq:=tZ (P:=l.prog) (w:=w) (base:=base) RM Qe Ph Ss
 have PN:=sG (P:=l.prog) (w:=w) (base:=base) RN Qq Px Ph Ru
 have PB:=qD (P:=l.prog) (w:=w) (base:=base) RG Qx QH Pb Q9 Ra QJ
 have Qh:=mR (P:=l.prog) (w:=w) (base:=base) Rh PB Ql PN Ph
 have RV:=Kc (P:=l.prog) (w:=w) (base:=base) Tn Ph R6 Qw Px Rn
 have Qf:=Jo (P:=l.prog) (w:=w) (base:=base) Tp RV Px Ph
 have Py:=Gq (P:=l.prog) (w:=w) (base:=base) Tc Pg Rp Pb
 have Qj:=OD (P:=l.prog) (w:=w) (base:=base) Tw Px Ph
 have PX:=su (P:=l.prog) (w:=w) (base:=base) RK Pk QK Ro
 have Pn:=tR (P:=l.prog) (w:=w) (base:=base) RL Ph Pk Pb
 have Pq:=oJ (P:=l.prog) (w:=w) (base:=base) Ri PX Qp Pk Pb
 have QL:=Bm (P:=l.prog) (w:=w) (base:=base) R7 Pq Pn Qp
 have PJ:=jc (P:=l.prog) (w:=w) (base:=base) Qv Pq Pn
 have Qa:=jU (P:=l.prog) (w:=w) (base:=base) QD PJ Qp Pk Pb
 have Rb:=DX (P:=l.prog) (w:=w) (base:=base) Sy Qa PB Ql Qp Pk Pb
 have Qz:=wD (P:=l.prog) (w:=w) (base:=base) RZ PN Px
 have Qy:=wH (P:=l.prog) (w:=w) (base:=base) R0 Pn QL Rb PX
 have PL:=jw (P:=l.prog) (w:=w) (base:=base) QB Qh Pz
 have Pu:=n8 (P:=l.prog) (w:=w) (base:=base) Rm Qy Qm Qz PL Ph
 have Qk:=Kd (P:=l.prog) (w:=w) (base:=base) Tr Qf Px
 have QT:=Ar (P:=l.prog) (w:=w) (base:=base) Sg Py Qj
 have Qn:=qW (P:=l.prog) (w:=w) (base:=base) RJ Py Qj Qf Pg
 have Rv:=Ie (P:=l.prog) (w:=w) (base:=base) Td Pb Pg
 have QM:=Ji (P:=l.prog) (w:=w) (base:=base) Tq Py Rv Qj Qf Pg Rp
 have RB:=Gh (P:=l.prog) (w:=w) (base:=base) S8 Rw Pj Q7 Rf Rx
 have QV:=xQ (P:=l.prog) (w:=w) (base:=base) Sd Py Pj Qj Ph Pb
 have Ry:=Gg (P:=l.prog) (w:=w) (base:=base) Te Py Qj Qf Pg
 have RD:=Ia (P:=l.prog) (w:=w) (base:=base) Tf QM Pj Qj Ry Ph Pb
 have Qs:=sX (P:=l.prog) (w:=w) (base:=base) RP Pj QV Qk Ph
 have QW:=zT (P:=l.prog) (w:=w) (base:=base) Sh QM Pj Qj Qk Ph Ro Pb
 have Sv:=K7 (P:=l.prog) (w:=w) (base:=base) Tv QT Qk Qn
 have Qo:=wF (P:=l.prog) (w:=w) (base:=base) R3 Pu Qu Sv Pk QK Ph
 exact JH F56 Rz RB Pj Qu RD Pu Qs Qo QW Ph Pg
theorem walk{l:W.OpenLaw}{q:Program}{loose:List Str}{XP:(Str->Option Value)->Heap->Prop}{YP:World->Heap->Prop}{d:DefRec}{K:Params->W.Frag}(hn:l.most=some 63)(hdf:d.params.defaults=[])
  (hY:∀(w:World)(h:Heap),YP w h->(K w.params).In h)
  (F:∀(w:World)(mg:Str->Option Value)(fa:Addr)(h:Heap),(K w.params).In h->h.Ns mainGlobals mg->mg d.name=some (.ref fa) ->
   ∃ fd:FuncData,(∀(s:Shared)(u:Value),BindsTo s fd ⟨[u],[]⟩ [("_law_script",u)])/\∀ base:Heap,(K w.params).In base->base.Ns mainGlobals mg->oR l.prog w (K w.params) mg base CX0 9 fa fd ["_law_script"] (Dl (K w.params))) :
  W.WalkO q loose XP YP l.row.toRowW d [] (fun f vs=>PySem.call f vs) :=
 L2.Hw (n:=63) (k:=9) (x:="_law_script") (CX:=fun _=>CX0) (sp:=fun w=>Dl (K w.params)) hn (by decide) hdf ⟨rfl,by decide,by decide⟩ hY F (fun _ _ a ns hl _ hS=>⟨a,ns,rfl,hS,hl,fun _=>rfl⟩) fun _ _ _ _ _ z=>z
end Mine
def PySem.W.Fast.tw15085625358092653016:Unit:=()
def PySem.W.Fast.tw7662642762635278412:Unit:=()
def PySem.W.Fast.tw7005897941051538045:Unit:=()
def PySem.W.Fast.tw5747831917790867406:Unit:=()
def PySem.W.Fast.tw6250880123942206433:Unit:=()
def PySem.W.Fast.tw16006159353291534832:Unit:=()
def PySem.W.Fast.tw7338496087400069104:Unit:=()
def PySem.W.Fast.tw17472674015658961485:Unit:=()
def PySem.W.Fast.tw17169207991313663686:Unit:=()
def PySem.W.Fast.tw4369040062362467701:Unit:=()
def PySem.W.Fast.tw16200064617249147564:Unit:=()
def PySem.W.Fast.tw11658704388437274253:Unit:=()
def PySem.W.Fast.tw1610316405569107675:Unit:=()
def PySem.W.Fast.tw8609867281466806495:Unit:=()
def PySem.W.Fast.tw375042563641805505:Unit:=()
def PySem.W.Fast.tw1046541363668391998:Unit:=()
def PySem.W.Fast.tw9256170647440397043:Unit:=()
def PySem.W.Fast.tw10495289678416123340:Unit:=()
def PySem.W.Fast.tw3406262064953440129:Unit:=()
def PySem.W.Fast.tw6515530637632781970:Unit:=()
def PySem.W.Fast.tw15982992558134104609:Unit:=()
def PySem.W.Fast.tw9189656877834735605:Unit:=()
def PySem.W.Fast.tw2368918301622910295:Unit:=()
def PySem.W.Fast.tw607260046791478128:Unit:=()
def PySem.W.Fast.tw5407427906045261370:Unit:=()
def PySem.W.Fast.tw17779208052555930580:Unit:=()
def PySem.W.Fast.tw6294971136818846299:Unit:=()
def PySem.W.Fast.tw1028055513069308558:Unit:=()
def PySem.W.Fast.tw3476663464634706709:Unit:=()
def PySem.W.Fast.tw7581804111136373800:Unit:=()
def PySem.W.Fast.tw8584447392226415512:Unit:=()
def PySem.W.Fast.tw8926816875068307087:Unit:=()
def PySem.W.Fast.tw8318194855590113515:Unit:=()
def PySem.W.Fast.tw14951842180527643469:Unit:=()
def PySem.W.Fast.tw16058950801502287056:Unit:=()
def PySem.W.Fast.tw6266100576937543893:Unit:=()
def PySem.W.Fast.tw4488711246247460809:Unit:=()
def PySem.W.Fast.tw11300081585035336035:Unit:=()
def PySem.W.Fast.tw10118846872386649082:Unit:=()
def PySem.W.Fast.tw8270452354165008892:Unit:=()
def PySem.W.Fast.tw5219028122357200269:Unit:=()
def PySem.W.Fast.tw5421515604477471933:Unit:=()
def PySem.W.Fast.tw18422186658429996657:Unit:=()
def PySem.W.Fast.tw7773511247081717398:Unit:=()
def PySem.W.Fast.tw1311698886293178434:Unit:=()
def PySem.W.Fast.tw6842108344267163367:Unit:=()
def PySem.W.Fast.tw16655218600983666301:Unit:=()
def PySem.W.Fast.tw3409596716924053143:Unit:=()
def PySem.W.Fast.tw16848604279132078859:Unit:=()
def PySem.W.Fast.tw10295599444184508520:Unit:=()
def PySem.W.Fast.tw13810866438711192720:Unit:=()
def PySem.W.Fast.tw2246572847501538848:Unit:=()
def PySem.W.Fast.tw11440366835660389726:Unit:=()
def PySem.W.Fast.tw2820103694368701020:Unit:=()
def PySem.W.Fast.tw16615534491173024863:Unit:=()
def PySem.W.Fast.tw7984444247050527899:Unit:=()
def PySem.W.Fast.tw5314740344058809563:Unit:=()
def PySem.W.Fast.tw3746811735049718404:Unit:=()
def PySem.W.Fast.tw9494083603093160641:Unit:=()
def PySem.W.Fast.tw14598685644931482091:Unit:=()
def PySem.W.Fast.tw15725899445839279046:Unit:=()
def PySem.W.Fast.tw17110231613316056577:Unit:=()
def PySem.W.Fast.tw6723291244585681084:Unit:=()
def PySem.W.Fast.tw17644637639041220027:Unit:=()
def PySem.W.Fast.tw5169938854737558368:Unit:=()
def PySem.W.Fast.tw3023482437054437871:Unit:=()
def PySem.W.Fast.tw18401163832238785063:Unit:=()
def PySem.W.Fast.tw13941140869868790698:Unit:=()
def PySem.W.Fast.tw6034995633758543532:Unit:=()
def PySem.W.Fast.tw15330372463041635949:Unit:=()
def PySem.W.Fast.tw4515484329509804641:Unit:=()
def PySem.W.Fast.tw10143344482006285860:Unit:=()
def PySem.W.Fast.tw4293973074428099244:Unit:=()
def PySem.W.Fast.tw5749794852296322068:Unit:=()
def PySem.W.Fast.tw2810797518153699102:Unit:=()
def PySem.W.Fast.tw15878498688957526456:Unit:=()
def PySem.W.Fast.tw10183392359726041076:Unit:=()
def PySem.W.Fast.tw18422591707244042901:Unit:=()
def PySem.W.Fast.tw16049387150059526292:Unit:=()
def PySem.W.Fast.tw15220496974991991644:Unit:=()
def PySem.W.Fast.tw2798913880167816044:Unit:=()
def PySem.W.Fast.tw2236911854850466189:Unit:=()
def PySem.W.Fast.tw1427936213291900740:Unit:=()
def PySem.W.Fast.tw13765821882679680333:Unit:=()
def PySem.W.Fast.tw10368261633094938460:Unit:=()
def PySem.W.Fast.tw14781056935308671631:Unit:=()
def PySem.W.Fast.tw16724662580208490094:Unit:=()
def PySem.W.Fast.tw2164674692094948703:Unit:=()
def PySem.W.Fast.tw7680423080679847990:Unit:=()
def PySem.W.Fast.tw8187676026477646258:Unit:=()
def PySem.W.Fast.tw5449218931499763568:Unit:=()
def PySem.W.Fast.tw8879681847837434611:Unit:=()
def PySem.W.Fast.tw1820926290698766707:Unit:=()
def PySem.W.Fast.tw6329170823257889906:Unit:=()
def PySem.W.Fast.tw6198580851387221648:Unit:=()
def PySem.W.Fast.tw942896070715008664:Unit:=()
def PySem.W.Fast.tw8813338547657020267:Unit:=()
def PySem.W.Fast.tw4178982541670822591:Unit:=()
def PySem.W.Fast.tw4912502411580071493:Unit:=()
def PySem.W.Fast.tw3555074613409746578:Unit:=()
def PySem.W.Fast.tw717802251198516818:Unit:=()
def PySem.W.Fast.tw6336048856360104222:Unit:=()
def PySem.W.Fast.tw7547422809889635910:Unit:=()
def PySem.W.Fast.tw14412252469845287172:Unit:=()
def PySem.W.Fast.tw7475259837569521676:Unit:=()
def PySem.W.Fast.tw12154598379593982660:Unit:=()
def PySem.W.Fast.tw13116511629096031625:Unit:=()
def PySem.W.Fast.tw13746044890878761412:Unit:=()
def PySem.W.Fast.tw16232238918632894412:Unit:=()
def PySem.W.Fast.tw127417097271962026:Unit:=()
def PySem.W.Fast.tw13687131057361317768:Unit:=()
def PySem.W.Fast.tw1520445723957341111:Unit:=()
def PySem.W.Fast.tw14997188687386559699:Unit:=()
def PySem.W.Fast.tw17932055492444326171:Unit:=()
def PySem.W.Fast.tw12645613531412357659:Unit:=()
def PySem.W.Fast.tw821298895572225499:Unit:=()
def PySem.W.Fast.tw15255551318386393523:Unit:=()
def PySem.W.Fast.tw2460893231069497823:Unit:=()
def PySem.W.Fast.tw14825968180579708801:Unit:=()
def PySem.W.Fast.tw9929891994682509403:Unit:=()
def PySem.W.Fast.tw1092910296551231892:Unit:=()
def PySem.W.Fast.tw12697167161005529932:Unit:=()
def PySem.W.Fast.tw2445364569316993585:Unit:=()
def PySem.W.Fast.tw8778123149739273806:Unit:=()
def PySem.W.Fast.tw14606639932370645685:Unit:=()
open PySem PySem.W PyProof.Rows
set_option maxRecDepth 100000 in
set_option maxHeartbeats 0 in
theorem PySem.Challenge.cw_twainkeep_k56_shown_by_a_grid_holds : PySem.Challenge.rw_twainkeep_k56_shown_by_a_grid.Holds := by
 w_on;o_law;k_head;(case hw=>w_witness2)
 k_fill
 refine Mine.walk (l:=PySem.Challenge.rw_twainkeep_k56_shown_by_a_grid) rfl rfl (fun w h Y=>PySem.W.kIn_of Y) ?F
 case F =>
  intro w mg fa h KX G hmg
  refine' Mine.all_mk KX G hmg ?i1 ?i2 ?i3 ?i4 ?i5 ?i6 ?i7 ?i8 ?i9 ?i10 ?i11 ?i12 ?i13 ?i14 ?i15 ?i16 ?i17 ?i18 ?i19 ?i20 ?i21 ?i22 ?i23 ?i24 ?i25 ?i26 ?i27 ?i28 ?i29 ?i30 ?i31 ?i32 ?i33 ?i34 ?i35 ?i36 ?i37 ?i38 ?i39 ?i40 ?i41 ?i42 ?i43 ?i44 ?i45 ?i46 ?i47 ?i48 ?i49 ?i50 ?i51 ?i52 ?i53 ?i54 ?i55 ?a56 ?l56 ?c56 ?k56 ?p_MORE ?p_STRETCH ?p_ANCHOR ?p_OUT ?p_CROSS ?p_SHAPES ?y7_SHAPES ?y0_SHAPES ?y1_SHAPES ?y2_SHAPES ?y3_SHAPES ?y4_SHAPES ?y5_SHAPES ?y6_SHAPES ?z_len ?z_int ?z_range ?z_isinstance ?z_tuple ?z_bool ?z_sum ?z_abs ?z_max ?z_set ?z_enumerate ?z_any ?z_sorted ?z_min ?z_all
  case i1 | i2 | i3 | i4 | i5 | i6 | i7 | i8 | i9 | i10 | i11 | i12 | i13 | i14 | i15 | i16 | i17 | i18 | i19 | i20 | i21 | i22 | i23 | i24 | i25 | i26 | i27 | i28 | i29 | i30 | i31 | i32 | i33 | i34 | i35 | i36 | i37 | i38 | i39 | i40 | i41 | i42 | i43 | i44 | i45 | i46 | i47 | i48 | i49 | i50 | i51 | i52 | i53 | i54 | i55=>refine' L2.fni ?a ?l ?c ?k;(case a=>k_is);(case l=>k_is);(case c=>k_is);(case k=>k_is)
  case a56 | l56 | c56 | k56 | p_MORE | p_STRETCH | p_ANCHOR | p_OUT | p_CROSS | p_SHAPES | y7_SHAPES | y0_SHAPES | y1_SHAPES | y2_SHAPES | y3_SHAPES | y4_SHAPES | y5_SHAPES | y6_SHAPES | z_len | z_int | z_range | z_isinstance | z_tuple | z_bool | z_sum | z_abs | z_max | z_set | z_enumerate | z_any | z_sorted | z_min | z_all=>k_is
