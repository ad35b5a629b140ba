import PyProof.Rows.All
import Wide.All
import OpenK.AllK
import Wide.FinOn
import Lean
import PyProof.EqAt
import PyProof.EqKinds
import PyProof.TupleCall
import PyProof.ZipIter
import PyProof.TupleIter
import PyProof.WalksMore
import KE.KWords
import PyProof.MinMaxWalk
import PyProof.SeqI3
import PyProof.MaxThree
import PyProof.AttrMissHeap
import PyProof.DictList
import PyProof.DictIter
import KE.KDictOf
import KE.KDictList
import PyProof.Rows.CallKwBuiltin
import PyProof.Rows.Range3
import PyProof.Rows.StrNews2
import PyProof.StrLawsIdx
import PyProof.StrBlockI
import KE.KRevSl
import PyProof.AutoListH
import PyProof.DictWalks
import PyProof.Draws
import PyProof.EnumMake
import PyProof.NeKinds
import PyProof.Rows.SetFrom
import KE.KSortTup
import PyProof.StrBlock2
import PyProof.DictItems
import KE.KPairComp
import PyProof.Rows.SumAny
import PyProof.ListStr
import PyProof.DictValues
import PySem.SetOps
import PyProof.TupleKey
import PyProof.SetKind
import PyProof.IsRules
import PyProof.DictKinds
import PyProof.SetRoads
import PyProof.MeetsSeq2
import KE.KItemsList
import PyProof.DictRoadsH
import OpenK.KRaise
import PyProof.StationsW
import PyProof.ExcClass2
import OpenK.KOwn
import PyProof.Rows.FStr
import PyProof.NsDelKeeps
import PyProof.RulesAs
import KE.KIsNot
import PyProof.ExcArgsOwn
import PyProof.ExcAttrAll.ValueError
import KE.KLam
import PyProof.ListRange
import PyProof.TupleOfSeq
import KE.KSortAsk
import PyProof.DictUpdate
import PyProof.StrCalls2
import PySem.Challenge.RW_twainkeep_k20_taken_out
section
open PySem PySem.Spec PyProof.Rows
def Wo:=@wpAny_bind
def Wq:=@wpAny_pure
def Wr:=@List.getElem?_eq_getElem
def Ws:=@Heap.get?_push_of_some
def Wt:=@List.getElem?_eq_some_iff
def Wu:=@Nat.le_refl
def Wv:=@List.getD_eq_getElem?_getD
def Ww:=@Heap.lt_size
def Wx:=@Nat.ne_of_lt
def Wy:=@Heap.get?_push_size
def Wz:=@Bool.false_ne_true
def WD:=@Array.getElem?_eq_getElem
def WK:=@Array.length_toList
def WM:=@Nat.lt_of_lt_of_le
def WQ:=@List.mem_cons_self
def WR:=@List.mem_cons_of_mem
def WT:=@Option.some.inj
def WW:=@wpAny_holding
def WX:=@decide_eq_false
def WY:=@Heap.size_update
def W0:=@List.length_append
def W2:=@List.mem_of_getElem?
def W3:=@of_decide_eq_true
def W4:=@List.mem_append_right
def W5:=@List.mem_append_left
def W6:=@wpAny_call_entry
def W7:=@Nat.le_trans
def W8:=@List.getElem?_map
def W9:=@decide_eq_true
def Xa:=@List.length_map
def Xb:=@Nat.lt_succ_of_lt
def Xc:=@Heap.get?_push_ne
def Xd:=@List.size_toArray
def Xe:=@wpAny_newObj_type
end
open List (mem_filter mem_range filterMap_cons mem_cons_self mem_cons_of_mem mem_cons mem_append mem_append_left getElem?_set_self getElem?_set_ne mem_append_right append_nil nodup_cons of_mem_zip length_take getElem?_append_right getElem?_append_left getElem?_map mem_of_getElem? length_append length_map length_replicate size_toArray length_drop all_cons any_cons length_singleton take_of_length_le map_nil map_cons lookup_cons all_eq_true getElem?_zip_eq_some getD_eq_getElem?_getD getElem_mem getElem?_eq_getElem length_cons mem_map find?_cons length_nil drop_zero take_length ext_getElem not_lt pairwise_iff_getElem getElem_map mem_iff_getElem length_zip replicate_succ flatten_cons append_assoc nodup_iff_pairwise_ne pairwise_map mem_replicate length_range pairwise_append pairwise_cons mem_erase_of_ne length_pos_of_mem find?_some find?_eq_none map_map perm_middle mem_singleton not_mem_nil ext_getElem? mem_map_of_mem nodup_nil take_zero getElem_zip map_fst_zip take_succ_cons take_add_one map_append any_eq_true filter_append filter_cons_of_pos filter_nil filter_cons_of_neg length_filter_le length_set pairwise_singleton filter_eq_self nodup_append filter_sublist sublist_append_left sublist_append_right filter_map mem_iff_getElem? getElem?_take mem_flatMap)
set_option Elab.async false
set_option linter.all false
set_option maxRecDepth 100000
namespace L2
open PySem PySem.Spec PyProof.Rows
abbrev Key:=Sum Int Str
def zj:Key->Value->Bool
 | .inl k,v=>Value.isInt k v
 | .inr x,v=>Value.isStrOf x v
def RW(w:World):Key->Int
 | .inl k=>hashInt k
 | .inr x=>hashStr w x
def cB:∀ {k:Key}{v:Value},zj k v=true->(∃ i t,k=Sum.inl i/\v=Value.int i t)\/(∃ x t,k=Sum.inr x/\v=Value.str x t)
 | .inl i,v,h=>by
  obtain⟨t,e⟩:=Value.isInt_shape (k:=i) (v:=v) h;exact .inl ⟨i,t,rfl,e⟩
 | .inr x,v,h=>by
  obtain⟨t,e⟩:=Value.isStrOf_shape (x:=x) (v:=v) h;exact .inr ⟨x,t,rfl,e⟩
def Dp(i:Int)(t:Tok):zj (.inl i) (.int i t)=true:=by simp[zj,Value.isInt]
def zU(x:Str)(t:Tok):zj (.inr x) (.str x t)=true:=by simp[zj,Value.isStrOf]
def O1(a b:Int):decide ((Sum.inl a:Key)=Sum.inl b)=(a == b):=by
 by_cases e:a=b
 ·subst e;simp
 ·have h:¬ (Sum.inl a:Key)=Sum.inl b:=fun q=>e (Sum.inl.inj q)
  rw[WX h];exact(beq_eq_false_iff_ne.mpr e).symm
theorem Ph(a b:Str):decide ((Sum.inr a:Key)=Sum.inr b)=decide (a=b):=by
 by_cases e:a=b
 ·subst e;simp
 ·have h:¬ (Sum.inr a:Key)=Sum.inr b:=fun q=>e (Sum.inr.inj q)
  rw[WX h,WX e]
def Ol(a:Int)(b:Str):decide ((Sum.inl a:Key)=Sum.inr b)=false:=WX (fun q=>nomatch q)
def Oq(a:Str)(b:Int):decide ((Sum.inr a:Key)=Sum.inl b)=false:=WX (fun q=>nomatch q)
def cP(prog:Program)(w:World):PySem.KeyKind prog w Key where
 is:=zj
 hash:=RW w
 inj:=fun v a b ha hb=>by
  rcases cB ha with⟨i,t,rfl,rfl⟩ | ⟨x,t,rfl,rfl⟩
  ·rcases cB hb with⟨j,u,rfl,e⟩ | ⟨y,u,rfl,e⟩
   ·injection e with e1 _;rw[e1]
   ·exact nomatch e
  ·rcases cB hb with⟨j,u,rfl,e⟩ | ⟨y,u,rfl,e⟩
   ·exact nomatch e
   ·injection e with e1 _;rw[e1]
 byValue:=fun k v h=>by
  rcases cB h with⟨i,t,rfl,rfl⟩ | ⟨x,t,rfl,rfl⟩ <;> rfl
 pyHash:=fun hv h=>by
  rcases cB hv with⟨i,t,rfl,rfl⟩ | ⟨x,t,rfl,rfl⟩
  ·exact wpAny_pyHash_int h
  ·exact wpAny_pyHash_str h
 eqBool:=fun hu hv h=>by
  rcases cB hu with⟨i,t,rfl,rfl⟩ | ⟨x,t,rfl,rfl⟩
  ·rcases cB hv with⟨j,u,rfl,rfl⟩ | ⟨y,u,rfl,rfl⟩
   ·rw[O1] at h;exact wpAny_eqBool_int h
   ·rw[Ol] at h;exact SeqAt.EqAt.int_str i t y u _ _ _ _ h
  ·rcases cB hv with⟨j,u,rfl,rfl⟩ | ⟨y,u,rfl,rfl⟩
   ·rw[Oq] at h;exact SeqAt.EqAt.str_int x t j u _ _ _ _ h
   ·rw[Ph] at h;exact wpAny_eqBool_str h
 «strs»:=fun k x t v h=>by
  rcases cB h with⟨i,u,rfl,e⟩ | ⟨y,u,rfl,e⟩
  ·exact nomatch e
  ·injection e with e1 _;subst e1;cases v <;> rfl
def uW(prog:Program)(w:World)(i:Int)(t:Tok):(cP prog w).is (.inl i) (.int i t)=true:=Dp i t
def vD(prog:Program)(w:World)(x:Str)(t:Tok):(cP prog w).is (.inr x) (.str x t)=true:=zU x t
inductive V where
 | non | bl (b:Bool) | int (i:Int) | str (x:Str) | byt (b:Array UInt8) | flt (b:UInt64) | ref (a:Addr) | ty (n:String)
 deriving DecidableEq
def RelV:V->Value->Prop
 | .non,u=>u=Value.none
 | .bl b,u=>u=Value.bool b
 | .int i,u=>∃ t,u=Value.int i t
 | .str x,u=>∃ t,u=Value.str x t
 | .byt b,u=>∃ t,u=Value.bytes b t
 | .flt b,u=>∃ t,u=Value.float b t
 | .ref a,u=>u=Value.ref a
 | .ty n,u=>u=Value.type n
abbrev Vals:List V->List Value->Prop:=Paired RelV
def Vals.length(r:Vals xs us):xs.length=us.length:=Paired.length r
theorem Vals.get:∀ {xs:List V}{us:List Value}{i:Nat}{x:V},Vals xs us->xs[i]?=some x->∃ u,us[i]?=some u/\RelV x u
 | _,_,_,_,.nil,e=>by simp at e
 | _,_,0,_,.cons r _,e=>by simp at e;subst e;exact⟨_,rfl,r⟩
 | _,_,i+1,x,.cons _ t,e=>by
  obtain⟨u,h1,h2⟩:=Vals.get (i:=i) (x:=x) t (by simpa using e);exact⟨u,by simpa using h1,h2⟩
theorem Vals.set(r:RelV x u):∀ {xs:List V}{us:List Value} (i:Nat),Vals xs us->Vals (xs.set i x) (us.set i u)
 | _,_,_,.nil=>.nil
 | _,_,0,.cons _ t=>.cons r t
 | _,_,i+1,.cons q t=>.cons q (Vals.set r i t)
theorem Vals.append:∀ {xs ys:List V}{us ws:List Value},Vals xs us->Vals ys ws->Vals (xs++ys) (us++ws)
 | _,_,_,_,.nil,s=>s
 | _,_,_,_,.cons r t,s=>.cons r (Vals.append t s)
theorem Vals.take:∀ {xs:List V}{us:List Value} (n:Nat),Vals xs us->Vals (xs.take n) (us.take n)
 | _,_,0,_=>.nil
 | _,_,_+1,.nil=>.nil
 | _,_,n+1,.cons r t=>.cons r (Vals.take n t)
theorem Vals.drop:∀ {xs:List V}{us:List Value} (n:Nat),Vals xs us->Vals (xs.drop n) (us.drop n)
 | _,_,0,r=>r
 | _,_,_+1,.nil=>.nil
 | _,_,n+1,.cons _ t=>Vals.drop n t
def zW:Option V->Option Value->Prop
 | some v,some u=>RelV v u
 | none,none=>True
 | _,_=>False
def KV{κ:Type}:List (κ × V)->List (κ × Value)->Prop:=Paired fun(p:κ × V) (q:κ × Value)=>p.1=q.1/\RelV p.2 q.2
def kV:Key->V
 | .inl i=>.int i
 | .inr x=>.str x
inductive HO where
 | lst (xs:List V)
 | tup (xs:List V)
 | dK (kvs:List (Key × V)) | dT (kvs:List (List Key × V))
 | set (S:Int->Bool) (n:Nat)
 | ins (C dx:Addr) (fs:List (Str × V))
 | own (x:Addr)
 | xd (fs:List (Str × V))
 | met (f x:Addr)
 | rng (lo hi:Int)
 | frz (o:Obj) (u:HO)
 | tbl (ps:Array Value)
 | ext (φ:Heap->Prop)
abbrev Hp:=Addr->Option HO
def upd(H:Hp)(a:Addr)(o:HO):Hp:=fun b=>if b=a then some o else H b
def ak:upd H a o a=some o:=by unfold upd;rw[if_pos rfl]
def aF(h:b≠a):upd H a o b=H b:=by unfold upd;rw[if_neg h]
def jU:upd (upd H a o) a u=upd H a u:=by
 funext b;unfold upd;split <;> rfl
def lA{H:Hp}{a b:Addr}{o u:HO}(h:H a=some o)(h':H b=some u)(d:o≠u):a≠b:=by
 intro e;subst e;rw[h] at h';exact d (WT h')
def aD{H:Hp}{a b:Addr}{o:HO}(h:H a=some o)(h':H b=none):a≠b:=by
 intro e;subst e;rw[h] at h';cases h'
section
variable (P:Program) (w:World)
def cM(H:Hp)(h:Heap)(a:Addr):HO->Prop
 | .lst xs=>xs.length<=sizeLine/\∃(its:List Value)(n:Nat),Vals xs its/\h.get? a=some { cls:=.type "list",data:=.seq its.toArray n }
 | .tup xs=>xs.length<=sizeLine/\∃ its:List Value,Vals xs its/\IsTup h a its.toArray
 | .dK kvs=>kvs.length<=sizeLine/\(a == sysModules)=false/\∃ vs,KV kvs vs/\h.DictOf (cP P w) a vs
 | .dT kvs=>kvs.length<=sizeLine/\(a == sysModules)=false/\∃ xs:List (List Key × Addr × Value),
   Paired (fun(p:List Key × V) (q:List Key × Addr × Value)=>p.1=q.1/\H q.2.1=some (.tup (p.1.map kV))/\RelV p.2 q.2.2) kvs xs /\
   ∃ o es ep,h.get? a=some o/\o.ExactDict/\o.data=.dict es ep/\es.toList=xs.map (entryOfKey (tupleKind (cP P w)))/\(xs.map (·.1)).Nodup
 | .set S n=>h.SetOf (intKind P w) a S n
 | .ins C dx fs=>H dx=some (.own a)/\fs.length<=1000/\dx≠a/\h.get? a=some (W.instObj C dx) /\
   ∃ mA,h.Ns1 dx mA/\(∀ f,zW (fs.lookup f) (mA f))/\PySem.Within mA (fs.map (·.1))
 | .own _=>∃ o,h.get? a=some o
 | .xd fs=>∃ mA,h.Ns1 a mA/\∀ f,zW (fs.lookup f) (mA f)
 | .rng lo hi=>∃ t u v,h.get? a=some { cls:=.type "range",data:=.fields #[.int lo t,.int hi u,.int 1 v] }
 | .frz o u=>h.get? a=some o/\cM H h a u
 | .tbl ps=>h.get? a=some { cls:=.none,data:=.fields ps }
 | .met f x=>h.get? a=some (W.methodObj (.ref f) (.ref x))
 | .ext φ=>φ h/\(∃ o,h.get? a=some o)/\∀ h1 h2:Heap,φ h1->(∀ o,h1.get? a=some o->h2.get? a=some o)->φ h2
def HOk(H:Hp)(h:Heap):Prop:=∀ a o,H a=some o->cM P w H h a o
end
section
variable {P:Program}{w:World}{H H':Hp}{h h':Heap}{a:Addr}{o:HO}
def cM.lt(x:cM P w H h a o):a<h.objs.size:=by
 cases o with
 | lst xs=>obtain⟨_,_,_,_,e⟩:=x;exact Ww e
 | tup xs=>obtain⟨_,_,_,p⟩:=x;exact p.lt
 | dK kvs=>obtain⟨_,_,_,_,o,_,_,e,_⟩:=x;exact Ww e
 | dT kvs=>obtain⟨_,_,_,_,o,_,_,e,_⟩:=x;exact Ww e
 | set S n=>obtain⟨o,_,_,_,e,_⟩:=x;exact Ww e
 | ins C dx fs=>obtain⟨_,_,_,e,_⟩:=x;exact Ww e
 | own y=>obtain⟨_,e⟩:=x;exact Ww e
 | xd fs=>obtain⟨_,⟨_,_,_,e,_⟩,_⟩:=x;exact Ww e
 | rng lo hi=>obtain⟨_,_,_,e⟩:=x;exact Ww e
 | frz ob u=>obtain⟨e,_⟩:=x;exact Ww e
 | tbl ps=>exact Ww (show h.get? a=some _ from x)
 | met f y=>exact Ww (show h.get? a=some _ from x)
 | ext φ=>obtain⟨_,⟨_,e⟩,_⟩:=x;exact Ww e
theorem Paired.mapP{α β:Type}{F G:α->β->Prop}:∀ {l₁:List α}{l₂:List β},Paired F l₁ l₂->(∀ a b,F a b->G a b)->Paired G l₁ l₂
 | _,_,.nil,_=>.nil
 | _,_,.cons r t,f=>.cons (f _ _ r) (Paired.mapP t f)
def cM.stay(x:cM P w H h a o)(k:∀ b u,(b=a\/H b=some (.own a))->h.get? b=some u->h'.get? b=some u)
  (ho:∀ b,H b=some (.own a)->H' b=some (.own a))(ht:∀ b xs,H b=some (.tup xs)->H' b=some (.tup xs)):cM P w H' h' a o:=by
 induction o with
 | lst xs=>obtain⟨z,its,n,r,e⟩:=x;exact⟨z,its,n,r,k _ _ (.inl rfl) e⟩
 | tup xs=>obtain⟨z,its,r,ob,e,c⟩:=x;exact⟨z,its,r,ob,k _ _ (.inl rfl) e,c⟩
 | dK kvs=>obtain⟨z,y,vs,r,ob,es,ep,e,c⟩:=x;exact⟨z,y,vs,r,ob,es,ep,k _ _ (.inl rfl) e,c⟩
 | dT kvs =>
  obtain⟨z,y,xs,r,ob,es,ep,e,c⟩:=x;exact⟨z,y,xs,Paired.mapP r fun p q z=>⟨z.1,ht _ _ z.2.1,z.2.2⟩,ob,es,ep,k _ _ (.inl rfl) e,c⟩
 | set S n=>obtain⟨ob,es,ep,t,e,c⟩:=x;exact⟨ob,es,ep,t,k _ _ (.inl rfl) e,c⟩
 | ins C dx fs =>
  obtain⟨d,z,ne,e,mA,⟨od,es,ep,e2,c⟩,r⟩:=x;exact⟨ho _ d,z,ne,k _ _ (.inl rfl) e,mA,⟨od,es,ep,k _ _ (.inr d) e2,c⟩,r⟩
 | own y=>obtain⟨ob,e⟩:=x;exact⟨ob,k _ _ (.inl rfl) e⟩
 | xd fs=>obtain⟨mA,⟨od,es,ep,e,c⟩,r⟩:=x;exact⟨mA,⟨od,es,ep,k _ _ (.inl rfl) e,c⟩,r⟩
 | rng lo hi=>obtain⟨t,u,v,e⟩:=x;exact⟨t,u,v,k _ _ (.inl rfl) e⟩
 | frz ob u ih=>obtain⟨e,q⟩:=x;exact⟨k _ _ (.inl rfl) e,ih q⟩
 | tbl ps =>
  have e:h.get? a=some { cls:=.none,data:=.fields ps }:=x;show h'.get? a=some { cls:=.none,data:=.fields ps };exact k a _ (.inl rfl) e
 | met f y =>
  have e:h.get? a=some (W.methodObj (.ref f) (.ref y)):=x;show h'.get? a=some (W.methodObj (.ref f) (.ref y));exact k a _ (.inl rfl) e
 | ext φ=>obtain⟨p,⟨o,e⟩,st⟩:=x;exact⟨st _ _ p fun o q=>k _ _ (.inl rfl) q,⟨o,k _ _ (.inl rfl) e⟩,st⟩
def HOk.lt(x:HOk P w H h)(e:H a=some o):a<h.objs.size:=(x a o e).lt
def HOk.fresh(x:HOk P w H h)(e:h.objs.size<=a):H a=none:=by
 cases q:H a with
 | none=>rfl
 | some u=>exact absurd (WM (x.lt q) e) (Nat.lt_irrefl _)
def HOk.kept(x:HOk P w H h)(k:∀ b u,h.get? b=some u->h'.get? b=some u):HOk P w H h':=fun a o e =>
 (x a o e).stay (fun b u _ q=>k b u q) (fun _ q=>q) fun _ _ q=>q
def HOk.laid(x:HOk P w H h)(k:∀ b u,h.get? b=some u->h'.get? b=some u)(hp:h.objs.size<=a)(new:cM P w (upd H a o) h' a o):HOk P w (upd H a o) h':=fun b u e=>by
 have hn:=x.fresh hp;by_cases hb:b=a
 ·subst hb;rw[ak] at e;cases e;exact new
 ·rw[aF hb] at e;exact(x b u e).stay (fun c v _ q=>k c v q) (fun c q=>by rw[aF (aD q hn)];exact q) fun c xs q=>by rw[aF (aD q hn)];exact q
end
def Rd(H:Hp)(a:Addr)(u:HO):Prop:=H a=some u\/∃ o,H a=some (.frz o u)
def Rd.ok(r:Rd H a u)(x:HOk P w H h):cM P w H h a u:=by
 rcases r with r | ⟨o,r⟩
 ·exact x a u r
 ·obtain⟨_,q⟩:=x a _ r;exact q
def Mut:Option HO->Prop
 | some (.lst _)=>True
 | some (.dK _)=>True
 | some (.dT _)=>True
 | some (.set _ _)=>True
 | some (.ins _ _ _)=>True
 | some (.ext _)=>True
 | _=>False
section
variable {P:Program}{w:World}{H:Hp}{h h':Heap}{x e:Addr}{o':HO}
def HOk.write(ok:HOk P w H h)(mu:Mut (H x))(he:e=x\/H e=some (.own x))(k:∀ b u,b≠e->h.get? b=some u->h'.get? b=some u)(heo:∃ u,h'.get? e=some u)
  (new:cM P w (upd H x o') h' x o'):HOk P w (upd H x o') h':=fun b u q=>by
 have nown:∀ c y,H c=some (.own y)->c≠x:=fun c y r z=>by subst z;rw[r] at mu;exact mu
 have ntup:∀ c xs,H c=some (.tup xs)->c≠x:=fun c xs r z=>by subst z;rw[r] at mu;exact mu
 by_cases hb:b=x
 ·subst hb;rw[ak] at q;cases q;exact new
 ·rw[aF hb] at q;by_cases hbe:b=e
  ·have q':H b=some (.own x):=by
    rcases he with z | z
    ·exact absurd (hbe.trans z) hb
    ·rw[hbe];exact z
   rw[q] at q';cases q';obtain⟨v,hv⟩:=heo;exact⟨v,by rw[hbe];exact hv⟩
  ·refine(ok b u q).stay (fun c v hc r=>k c v ?_ r) (fun c r=>by rw[aF (nown c b r)];exact r) fun c xs r=>by rw[aF (ntup c xs r)];exact r
   rcases hc with rfl | hc
   ·exact hbe
   ·rintro rfl;rcases he with z | z
    ·exact nown c b hc z
    ·rw[hc] at z;cases z;exact hb rfl
end
structure Un(fs ex:List Addr)(H H':Hp)(h h':Heap):Prop where
 keep:∀ b o,h.get? b=some o->H b=none->b ∉ fs->b ∉ ex->h'.get? b=some o
 slot:∀ b o,h.get? b=some o->H b=none->b∈fs->b ∉ ex->∃ sl,h'.get? b=some { o with slots:=sl }
 free:∀ b o,h.get? b=some o->H b=none->b ∉ ex->H' b=none
 there:∀ b o,h.get? b=some o->b ∉ ex->∃ o',h'.get? b=some o'
 tups:∀ b xs,H b=some (.tup xs)->H' b=some (.tup xs)
 frzs:∀ b o u,H b=some (.frz o u)->H' b=some (.frz o u)
 tbls:∀ b ps,H b=some (.tbl ps)->∃ more,H' b=some (.tbl (ps++more))
section
variable {fs fs' ex ex':List Addr}{H H1 H2:Hp}{h h1 h2 h':Heap}{a x e:Addr}{o:HO}
def Un.any(u:Un fs ex H H1 h h1)(q:h.get? b=some ob)(n:H b=none)(hx:b ∉ ex):∃ sl,h1.get? b=some { ob with slots:=sl }:=by
 by_cases hb:b∈fs
 ·exact u.slot b ob q n hb hx
 ·exact⟨ob.slots,u.keep b ob q n hb hx⟩
def Un.trans(a:Un fs ex H H1 h h1)(b:Un fs ex H1 H2 h1 h2):Un fs ex H H2 h h2 where
 keep:=fun c ob q n hc hx=>b.keep c ob (a.keep c ob q n hc hx) (a.free c ob q n hx) hc hx
 slot:=fun c ob q n hc hx=>by
  obtain⟨sl,e1⟩:=a.slot c ob q n hc hx;obtain⟨sl',e2⟩:=b.slot c _ e1 (a.free c ob q n hx) hc hx;exact⟨sl',e2⟩
 free:=fun c ob q n hx=>by
  obtain⟨o',e1⟩:=a.there c ob q hx;exact b.free c o' e1 (a.free c ob q n hx) hx
 there:=fun c ob q hx=>by
  obtain⟨o',e1⟩:=a.there c ob q hx;exact b.there c o' e1 hx
 tups:=fun c xs q=>b.tups c xs (a.tups c xs q)
 frzs:=fun c ob xs q=>b.frzs c ob xs (a.frzs c ob xs q)
 tbls:=fun c ps q=>by
  obtain⟨m1,e1⟩:=a.tbls c ps q;obtain⟨m2,e2⟩:=b.tbls c _ e1;exact⟨m1++m2,by rw[e2,Array.append_assoc]⟩
def Un.kept(k:∀ b u,h.get? b=some u->h'.get? b=some u):Un fs ex H H h h' :=
 ⟨fun b ob q _ _ _=>k b ob q,fun b ob q _ _ _=>⟨ob.slots,k b ob q⟩,fun _ _ _ n _=>n,fun b ob q _=>⟨ob,k b ob q⟩,fun _ _ q=>q,fun _ _ _ q=>q,fun _ ps q=>⟨#[],by rw[q];simp⟩⟩
def Un.refl:Un fs ex H H h h:=Un.kept fun _ _ q=>q
def Un.laid(k:∀ b u,h.get? b=some u->h'.get? b=some u)(hp:h.objs.size<=a)(hn:H a=none):Un fs ex H (upd H a o) h h' where
 keep:=fun b u q _ _ _=>k b u q
 slot:=fun b u q _ _ _=>⟨u.slots,k b u q⟩
 free:=fun b u q n _=>by rw[aF (Wx (WM (Ww q) hp))];exact n
 there:=fun b u q _=>⟨u,k b u q⟩
 tups:=fun b xs q=>by rw[aF (aD q hn)];exact q
 frzs:=fun b u xs q=>by rw[aF (aD q hn)];exact q
 tbls:=fun b ps q=>⟨#[],by rw[aF (aD q hn),q];simp⟩
def Un.write(mu:Mut (H x))(he:e=x\/H e=some (.own x))(k:∀ b u,b≠e->h.get? b=some u->h'.get? b=some u)(heo:∃ u,h'.get? e=some u):Un fs ex H (upd H x o) h h':=by
 have hx:∀ b,H b=none->b≠x:=fun b n z=>by subst z;rw[n] at mu;exact mu
 have hb:∀ b,H b=none->b≠e:=fun b n z=>by
  subst z;rcases he with r | r
  ·exact hx b n r
  ·rw[n] at r;cases r
 have hm:∀ b u,H b=some u->¬ Mut (some u)->b≠x:=fun b u q nm z=>by subst z;rw[q] at mu;exact nm mu
 refine⟨fun b u q n _ _=>k b u (hb b n) q,fun b u q n _ _=>⟨u.slots,k b u (hb b n) q⟩,fun b u q n _=>by rw[aF (hx b n)];exact n,fun b u q _=>?_,
  fun b xs q=>by rw[aF (hm b _ q fun z=>z)];exact q,fun b u xs q=>by rw[aF (hm b _ q fun z=>z)];exact q,fun b ps q=>⟨#[],by rw[aF (hm b _ q fun z=>z),q];simp⟩⟩
 by_cases hbe:b=e
 ·subst hbe;exact heo
 ·exact⟨u,k b u hbe q⟩
def Un.mono(u:Un fs ex H H1 h h1)(hs:∀ b∈fs,b∈fs')(hx:∀ b∈ex,b∈ex'):Un fs' ex' H H1 h h1 :=
 ⟨fun b ob q n hb he=>u.keep b ob q n (fun z=>hb (hs b z)) fun z=>he (hx b z),fun _ _ q n _ he=>u.any q n fun z=>he (hx _ z),fun b ob q n he=>u.free b ob q n fun z=>he (hx b z),fun b ob q he=>u.there b ob q fun z=>he (hx b z),u.tups,u.frzs,u.tbls⟩
end
def trk(h:Heap)(H:Hp):List Addr:=(List.range h.objs.size).filter fun a=>(H a).isSome
def FZ(h:Heap)(H:Hp):Heap:=W.hideAll h (trk h H)
def Ec(h:Heap)(H:Hp):(FZ h H).objs.size=h.objs.size:=W.hideAll_size _ _
def Gb(e:h.get? b=some o)(n:H b=none):(FZ h H).get? b=some o :=
 W.hideAll_get _ e fun hm=>by
  have q:(H b).isSome=true:=(mem_filter.mp hm).2;rw[n] at q;simp at q
def K9(e:(FZ h H).get? b=some o):h.get? b=some o/\H b=none:=by
 have e':h.get? b=some o:=W.of_hideAll (trk h H) e;refine⟨e',?_⟩;cases q:H b with
 | none=>rfl
 | some x =>
  have hm:b∈trk h H:=mem_filter.mpr ⟨mem_range.mpr (Ww e'),by simp[q]⟩;have z:(FZ h H).get? b=none:=W.hideAll_none (trk h H) hm;rw[z] at e;cases e
structure Mod(K:W.Frag)(mg:Str->Option Value)(base:Heap):Prop where
 kin:K.In base
 glob:base.Ns mainGlobals mg
 blt:∃ mb,base.Ns builtinsNs mb/\∀ x:Str,x ≠ "__name__"->mb x=bootBuiltins x
 nolimit:base.NoLimit
structure Cx where
 prog:Program
 w:World
 K:W.Frag
 mg:Str->Option Value
 base:Heap
 A:Around
 N:List Str
 s₀:Shared
 H₀:Hp
 env:Env
 outer:List Env
 stack:List Env
 ex:List Addr
 fn:Str->Bool
 calm:Bool
 pn:List (Addr × Obj)
 xe:Value->Shared->Prop
def frs(l:List Env):List Addr:=l.filterMap (·.frame)
abbrev Cx.fs(X:Cx):List Addr:=frs X.outer
def Vis(sc:Scope)(x:Str):Prop:=sc.names.lookup x=some .local\/sc.names.lookup x=some .cell\/sc.names.lookup x=some .free
def Loc(sc:Scope)(x:Str):Prop:=sc.names.lookup x=some .local\/sc.names.lookup x=some .cell
def Look(env:Env)(h:Heap)(m:Str->Option Value)(x:Str)(u:Value):Prop :=
 (env.kindOf x=some .local/\m x=some u)\/((env.kindOf x=some .cell\/env.kindOf x=some .free)/\∃ c,env.cells.lookup x=some c/\h.IsCell c (some u))
structure Cx.Ok(X:Cx):Prop where
 mod:Mod X.K X.mg X.base
 kind:X.env.scope.kind=.function
 glob:X.env.globals=mainGlobals
 blt:X.env.builtins=builtinsNs
 above:X.s₀.heap.objs.size<=X.env.locals
 inj:∀ x y c,X.env.cells.lookup x=some c->X.env.cells.lookup y=some c->x=y
 has:∀ x,(X.env.kindOf x=some .cell\/X.env.kindOf x=some .free)->∃ c,X.env.cells.lookup x=some c
 cab:∀ x c,X.fn x=true->X.env.cells.lookup x=some c->X.s₀.heap.objs.size<=c
 hd:X.calm=true->X.A.handled=none
 frames:X.A.frames=some X.stack
 stk:X.stack=X.outer\/(X.stack=X.env::X.outer/\X.env.frame=some X.env.locals)
 exf:∀ b∈X.ex,b≠X.env.locals/\∀ x c,X.env.cells.lookup x=some c->c≠b
 bs:∀ b o,X.base.get? b=some o->X.s₀.heap.get? b=some o/\X.H₀ b=none
 bsz:X.base.objs.size<=X.s₀.heap.objs.size
 noex:∀ b o,X.base.get? b=some o->b ∉ X.ex
 exfs:∀ b∈X.ex,b ∉ X.fs
 funs:X.s₀.heap.FunFrames X.base X.outer
 frf:∀ b∈X.fs,X.H₀ b=none
structure Inv(X:Cx)(pins:List (Addr × Obj))(σ:List (Option V))(H:Hp)(s:Shared):Prop where
 ok:X.Ok
 os:s.os=X.s₀.os
 bare:AllBare s.gens
 base:Un X.fs X.ex X.H₀ H X.s₀.heap s.heap
 loc:∃ m,s.heap.Ns X.env.locals m/\∀(i:Nat)(x:Str)(v:V),X.N[i]?=some x->σ[i]?=some (some v)->Vis X.env.scope x->∃ u,RelV v u/\Look X.env s.heap m x u
 cell:∀ x c,X.env.cells.lookup x=some c->∃ v,s.heap.IsCell c v
 free:H X.env.locals=none
 freeC:∀ x c,X.env.cells.lookup x=some c->H c=none
 pin:∀ p∈X.pn++pins,s.heap.get? p.1=some p.2/\H p.1=none/\p.1≠X.env.locals/\p.1 ∉ X.fs/\∀ v,p.2.data≠.cell v
 hok:HOk X.prog X.w H s.heap
 len:σ.length=X.N.length
section
variable {X:Cx}{pins:List (Addr × Obj)}{σ:List (Option V)}{H H':Hp}{s:Shared}{h':Heap}
def Cx.Ok.nofr(ok:X.Ok)(e:X.base.get? b=some o):b ∉ X.fs:=fun hb=>by
 have:=(ok.funs.mem hb).1;rw[e] at this;cases this
def Inv.bs(I:Inv X pins σ H s):∀ b o,X.base.get? b=some o->s.heap.get? b=some o/\H b=none:=fun b o e =>
 ⟨I.base.keep b o (I.ok.bs b o e).1 (I.ok.bs b o e).2 (I.ok.nofr e) (I.ok.noex b o e),I.base.free b o (I.ok.bs b o e).1 (I.ok.bs b o e).2 (I.ok.noex b o e)⟩
def Inv.bk(I:Inv X pins σ H s):∀ b o,X.base.get? b=some o->s.heap.get? b=some o:=fun b o e=>(I.bs b o e).1
def Inv.mod(I:Inv X pins σ H s):Mod X.K X.mg X.base:=I.ok.mod
def Inv.kIn(I:Inv X pins σ H s):X.K.In s.heap:=I.ok.mod.kin.keeps I.bk
def Inv.lt(I:Inv X pins σ H s):X.env.locals<s.heap.objs.size:=let ⟨_,hn,_⟩:=I.loc;hn.lt
def Inv.sz(I:Inv X pins σ H s):X.s₀.heap.objs.size<=s.heap.objs.size:=W7 I.ok.above (Nat.le_of_lt I.lt)
def Inv.nofs(I:Inv X pins σ H s)(h:s.heap.objs.size<=a):a ∉ X.fs:=fun hb=>by
 obtain⟨_,o,ho,_⟩:=I.ok.funs.mem hb;exact absurd (WM (Ww ho) (W7 I.sz h)) (Nat.lt_irrefl _)
def Inv.cne(I:Inv X pins σ H s):∀ x c,X.env.cells.lookup x=some c->c≠X.env.locals:=fun x c e z=>by
 obtain⟨v,o,ho,hd⟩:=I.cell x c e;obtain⟨m,⟨o',es,ep,ho',hd',_⟩,_⟩:=I.loc;rw[z,ho'] at ho;cases ho;rw[hd'] at hd;cases hd
def Inv.funs(I:Inv X pins σ H s):s.heap.FunFrames X.base X.outer:=by
 have all:∀(l:List Env),(∀ b∈frs l,b∈X.fs)->X.s₀.heap.FunFrames X.base l->s.heap.FunFrames X.base l:=by
  intro l
  induction l with
  | nil=>intro _ _;trivial
  | cons env r ih =>
   intro hs hl;obtain⟨hk,⟨L,o,hf,hn,ho,hd⟩,hr⟩:=hl;have hL:L∈X.fs:=hs L (by unfold frs;rw[filterMap_cons,hf];exact WQ);obtain⟨sl,e⟩:=I.base.slot L o ho (I.ok.frf L hL) hL fun z=>I.ok.exfs L z hL
   exact⟨hk,⟨L,_,hf,hn,e,hd⟩,ih (fun b hb=>hs b (by unfold frs;rw[filterMap_cons,hf];exact WR _ hb)) hr⟩
 exact all X.outer (fun _ hb=>hb) I.ok.funs
def Inv.stack(I:Inv X pins σ H s):s.heap.FunFrames X.base X.stack:=by
 rcases I.ok.stk with e | ⟨e,hf⟩
 ·rw[e];exact I.funs
 ·rw[e];obtain⟨m,hn,_⟩:=I.loc;refine .cons (by rw[I.ok.kind];decide) hf hn ?_ I.funs;exact Heap.get?_none_of_le (W7 I.ok.bsz I.ok.above)
def Inv.stkSub(I:Inv X pins σ H s):∀ b∈frs X.stack,b∈X.env.locals::X.fs:=fun b hb=>by
 rcases I.ok.stk with e | ⟨e,hf⟩
 ·rw[e] at hb;exact WR _ hb
 ·rw[e] at hb;unfold frs at hb;rw[filterMap_cons,hf] at hb;exact hb
def Inv.stkFree(I:Inv X pins σ H s):∀ b∈frs X.stack,H b=none:=fun b hb=>by
 rcases mem_cons.mp (I.stkSub b hb) with e | hb
 ·rw[e];exact I.free
 ·obtain⟨_,o,ho,_⟩:=I.ok.funs.mem hb;exact I.base.free b o ho (I.ok.frf b hb) fun z=>I.ok.exfs b z hb
def Inv.step{g':Array GenState}{t':Nat}{d':Drawn}{ch:List Addr}(I:Inv X pins σ H s)
  (hch:∀ b∈ch,(b∈X.ex\/X.s₀.heap.objs.size<=b)/\b≠X.env.locals/\(∀ x c,X.env.cells.lookup x=some c->c≠b)/\∀ p∈X.pn++pins,p.1≠b)
  (keep:∀ b o,b≠X.env.locals->b ∉ X.fs->b ∉ ch->s.heap.get? b=some o->H b=none->h'.get? b=some o)
  (slot:∀ b o,b≠X.env.locals->b∈X.fs->b ∉ ch->s.heap.get? b=some o->H b=none->∃ sl,h'.get? b=some { o with slots:=sl })(free:∀ b o,b ∉ ch->s.heap.get? b=some o->H b=none->H' b=none)
  (there:∀ b o,b ∉ ch->s.heap.get? b=some o->∃ o',h'.get? b=some o')
  (tups:∀ b xs,H b=some (.tup xs)->H' b=some (.tup xs))(frzs:∀ b o u,H b=some (.frz o u)->H' b=some (.frz o u))(tbls:∀ b ps,H b=some (.tbl ps)->∃ more,H' b=some (.tbl (ps++more)))
  (ns:∀ m,s.heap.Ns X.env.locals m->h'.Ns X.env.locals m)(hok:HOk X.prog X.w H' h')(hg:AllBare g') :
  Inv X pins σ H' { s with heap:=h',gens:=g',drawn:=d',toks:=t' }:=by
 have neL:∀ b o,X.s₀.heap.get? b=some o->b≠X.env.locals:=fun b o e=>Wx (WM (Ww e) I.ok.above)
 have neC:∀ b o,X.s₀.heap.get? b=some o->b ∉ X.ex->b ∉ ch:=fun b o e hx hb=>by
  rcases(hch b hb).1 with z | z
  ·exact hx z
  ·exact absurd (WM (Ww e) z) (Nat.lt_irrefl _)
 have cellK:∀ x c,X.env.cells.lookup x=some c->∀ v,s.heap.IsCell c v->h'.IsCell c v:=fun x c e v ⟨o,ho,hd⟩=>by
  have nch:c ∉ ch:=fun z=>(hch c z).2.2.1 x c e rfl
  by_cases hc:c∈X.fs
  ·obtain⟨sl,q⟩:=slot c o (I.cne x c e) hc nch ho (I.freeC x c e);exact⟨_,q,hd⟩
  ·exact⟨o,keep c o (I.cne x c e) hc nch ho (I.freeC x c e),hd⟩
 refine⟨I.ok,I.os,hg,⟨fun b o e n hb hx=>?_,fun b o e n hb hx=>?_,fun b o e n hx=>?_,fun b o e hx=>?_,fun b xs e=>tups b xs (I.base.tups b xs e),fun b o xs e=>frzs b o xs (I.base.frzs b o xs e),fun b ps e=>?_⟩,?_,fun x c e=>?_,?_,fun x c e=>?_,fun p hp=>?_,hok,I.len⟩
 ·exact keep b o (neL b o e) hb (neC b o e hx) (I.base.keep b o e n hb hx) (I.base.free b o e n hx)
 ·obtain⟨sl,e1⟩:=I.base.slot b o e n hb hx;obtain⟨sl',e2⟩:=slot b _ (neL b o e) hb (neC b o e hx) e1 (I.base.free b o e n hx);exact⟨sl',e2⟩
 ·obtain⟨o',e1⟩:=I.base.there b o e hx;exact free b o' (neC b o e hx) e1 (I.base.free b o e n hx)
 ·obtain⟨o',e1⟩:=I.base.there b o e hx;exact there b o' (neC b o e hx) e1
 ·obtain⟨m1,e1⟩:=I.base.tbls b ps e;obtain⟨m2,e2⟩:=tbls b _ e1;exact⟨m1++m2,by rw[e2,Array.append_assoc]⟩
 ·obtain⟨m,hn,hl⟩:=I.loc;refine⟨m,ns m hn,fun i x v e1 e2 e3=>?_⟩;obtain⟨u,r,l⟩:=hl i x v e1 e2 e3;refine⟨u,r,?_⟩;rcases l with l | ⟨k,c,e,z⟩
  ·exact .inl l
  ·exact .inr ⟨k,c,e,cellK x c e _ z⟩
 ·obtain⟨v,z⟩:=I.cell x c e;exact⟨v,cellK x c e v z⟩
 ·obtain⟨m,⟨o,_,_,ho,_⟩,_⟩:=I.loc;exact free _ o (fun z=>(hch _ z).2.1 rfl) ho I.free
 ·obtain⟨v,o,ho,hd⟩:=I.cell x c e;exact free c o (fun z=>(hch c z).2.2.1 x c e rfl) ho (I.freeC x c e)
 ·obtain⟨e,n,ne,nf,d⟩:=I.pin p hp;have nch:p.1 ∉ ch:=fun z=>(hch p.1 z).2.2.2 p hp rfl
  exact⟨keep p.1 p.2 ne nf nch e n,free p.1 p.2 nch e n,ne,nf,d⟩
def Inv.un{t':Nat}(I:Inv X pins σ H s)(u:Un X.fs [] H H' s.heap h')(hok:HOk X.prog X.w H' h'):Inv X pins σ H' { s with heap:=h',toks:=t' }:=by
 obtain⟨m,⟨o,es,ep,ho,r⟩,_⟩:=id I.loc;obtain⟨sl,hL⟩:=u.any ho I.free (by simp);exact I.step (g':=s.gens) (d':=s.drawn) (ch:=[]) (fun _ z=>nomatch z) (fun b o _ hb _ e n=>u.keep b o e n hb (by simp)) (fun b o _ hb _ e n=>u.slot b o e n hb (by simp)) (fun b o _ e n=>u.free b o e n (by simp)) (fun b o _ e=>u.there b o e (by simp)) u.tups u.frzs u.tbls (fun m' hm=>by
  obtain⟨o',es',ep',ho',r'⟩:=hm;rw[ho] at ho';cases ho';exact⟨_,es',ep',hL,r'⟩) hok I.bare
def Inv.call{g':Array GenState}{t':Nat}{d':Drawn}{ch:List Addr}(I:Inv X pins σ H s)(u:Un (frs X.stack) ch H H' s.heap h')(hok:HOk X.prog X.w H' h')(hg:AllBare g')
  (hch:∀ b∈ch,(b∈X.ex\/X.s₀.heap.objs.size<=b)/\b≠X.env.locals/\(∀ x c,X.env.cells.lookup x=some c->c≠b)/\∀ p∈X.pn++pins,p.1≠b) :
  Inv X pins σ H' { s with heap:=h',gens:=g',drawn:=d',toks:=t' }:=by
 obtain⟨m,⟨o,es,ep,ho,r⟩,_⟩:=id I.loc;obtain⟨sl,hL⟩:=u.any ho I.free fun z=>(hch _ z).2.1 rfl
 exact I.step (ch:=ch) hch (fun b o hL hb hc e n=>u.keep b o e n (fun z=>(mem_cons.mp (I.stkSub b z)).elim hL hb) hc) (fun b o _ _ hc e n=>u.any e n hc) (fun b o hc e n=>u.free b o e n hc) (fun b o hc e=>u.there b o e hc) u.tups u.frzs u.tbls (fun m' hm=>by
  obtain⟨o',es',ep',ho',r'⟩:=hm;rw[ho] at ho';cases ho';exact⟨_,es',ep',hL,r'⟩) hok hg
def Inv.turned{t':Nat}{it:Addr}(I:Inv X pins σ H s)(k:∀ b o,b≠it->s.heap.get? b=some o->h'.get? b=some o)(hn:H it=none)(hL:it≠X.env.locals)
  (h1:it∈X.ex\/X.s₀.heap.objs.size<=it)(h2:∀ x c,X.env.cells.lookup x=some c->c≠it)(h3:∀ p∈X.pn++pins,p.1≠it):Inv X pins σ H { s with heap:=h',toks:=t' }:=by
 have nit:∀ b u,H b=some u->b≠it:=fun b u e z=>by rw[z,hn] at e;cases e
 refine I.step (g':=s.gens) (d':=s.drawn) (ch:=[it]) (fun b hb=>?_) (fun b o _ _ hc e _=>k b o (fun z=>hc (by simp[z])) e) (fun b o _ _ hc e _=>⟨o.slots,k b o (fun z=>hc (by simp[z])) e⟩) (fun _ _ _ _ n=>n)
  (fun b o hc e=>⟨o,k b o (fun z=>hc (by simp[z])) e⟩) (fun _ _ e=>e) (fun _ _ _ e=>e) (fun b ps e=>⟨#[],by rw[e];simp⟩) (fun m hm=>?_) (fun b u e=>?_) I.bare
 ·have e:b=it:=by simpa using hb
  subst e;exact⟨h1,hL,h2,h3⟩
 ·obtain⟨o,es,ep,ho,r⟩:=hm;exact⟨o,es,ep,k _ o (Ne.symm hL) ho,r⟩
 ·refine(I.hok b u e).stay (fun c v hc q=>k c v ?_ q) (fun _ q=>q) fun _ _ q=>q
  rcases hc with z | z
  ·rw[z];exact nit b u e
  ·exact nit c _ z
def Inv.tok(I:Inv X pins σ H s)(t:Nat):Inv X pins σ H { s with toks:=t }:=I.un (h':=s.heap) (t':=t) Un.refl I.hok
def Inv.kept(I:Inv X pins σ H s)(k:∀ b u,s.heap.get? b=some u->h'.get? b=some u):Inv X pins σ H { s with heap:=h',toks:=t' }:=I.un (Un.kept k) (I.hok.kept k)
def Inv.laid(I:Inv X pins σ H s)(k:∀ b u,s.heap.get? b=some u->h'.get? b=some u)(hp:s.heap.objs.size<=a)(new:cM X.prog X.w (upd H a o) h' a o) :
  Inv X pins σ (upd H a o) { s with heap:=h',toks:=t' }:=I.un (Un.laid k hp (I.hok.fresh hp)) (I.hok.laid k hp new)
def Inv.write(I:Inv X pins σ H s)(mu:Mut (H x))(he:e=x\/H e=some (.own x))(k:∀ b u,b≠e->s.heap.get? b=some u->h'.get? b=some u)(heo:∃ u,h'.get? e=some u)
  (new:cM X.prog X.w (upd H x o) h' x o):Inv X pins σ (upd H x o) { s with heap:=h',toks:=t' }:=I.un (Un.write mu he k heo) (I.hok.write mu he k heo new)
def Inv.pins_of(I:Inv X pins σ H s)(h:∀ p∈pins',s.heap.get? p.1=some p.2/\H p.1=none/\p.1≠X.env.locals/\p.1 ∉ X.fs/\∀ v,p.2.data≠.cell v):Inv X pins' σ H s :=
 ⟨I.ok,I.os,I.bare,I.base,I.loc,I.cell,I.free,I.freeC,fun p hp=>(mem_append.mp hp).elim (fun z=>I.pin p (W5 _ z)) (h p),I.hok,I.len⟩
def qK{N:List Str}(hN:N.Nodup){i j:Nat}{x:Str}(a:N[i]?=some x)(b:N[j]?=some x):i=j:=by
 obtain⟨h1,e1⟩:=Wt.mp a;obtain⟨h2,e2⟩:=Wt.mp b;exact(List.getElem_inj hN).mp (e1.trans e2.symm)
def tK{M:Model}{A:Around}{E:Value->Shared->Prop}{i:Nat}{x:Str}{v:V}{u:Value}{Q:Unit->Shared->Prop}(I:Inv X pins σ H s)(hN:X.N.Nodup)(hi:X.N[i]?=some x)(hx:Loc X.env.scope x)(r:RelV v u)
  (h:∀ s',Inv X pins (σ.set i (some v)) H s'->(∃ a,Heap.SameBut a s.heap s'.heap/\(a=X.env.locals\/X.env.cells.lookup x=some a))->Q () s')(hf:X.fn x=true\/X.env.scope.names.lookup x=some .local:=by first | exact .inl rfl | exact .inr rfl | assumption):wpAny M A (storeName X.env x u) Q E s:=by
 obtain⟨m,hn,hl⟩:=id I.loc;have hcls:(X.env.scope.kind == .class || (X.env.scope.kind == .module && X.env.locals != X.env.globals))=false:=by rw[I.ok.kind];rfl
 have hiσ:i<σ.length:=by rw[I.len];exact(Wt.mp hi).1
 have cne:=I.cne;have tracked:∀ {a:Addr}{h':Heap},(∃ o,s.heap.get? a=some o/\H a=none)->Heap.SameBut a s.heap h'->HOk X.prog X.w H h':=fun {a h'} ha hs b ob e=>by
  obtain⟨_,_,hfree⟩:=ha;refine(I.hok b ob e).stay (fun c w' hc q=>(hs.2 c ?_).trans q) (fun _ q=>q) fun _ _ q=>q
  rintro rfl;rcases hc with rfl | hc
  ·rw[hfree] at e;cases e
  ·rw[hfree] at hc;cases hc
 rcases hx with hk | hk
 ·refine wpAny_storeName_local hk hn (fun h' hn' hs=>?_) hcls;obtain⟨oL,_,_,hoL,_⟩:=id hn;refine h _ ⟨I.ok,I.os,I.bare,⟨fun b o e n hb hx=>?_,fun b o e n hb hx=>?_,I.base.free,fun b o e hx=>?_,I.base.tups,I.base.frzs,I.base.tbls⟩,⟨_,hn',fun j y v' e1 e2 e3=>?_⟩,fun y c e=>?_,I.free,I.freeC,fun p hp=>?_,tracked ⟨oL,hoL,I.free⟩ hs,by simpa using I.len⟩ ⟨_,hs,.inl rfl⟩
  ·exact(hs.2 b (Wx (WM (Ww e) I.ok.above))).trans (I.base.keep b o e n hb hx)
  ·obtain⟨sl,e1⟩:=I.base.slot b o e n hb hx;exact⟨sl,(hs.2 b (Wx (WM (Ww e) I.ok.above))).trans e1⟩
  ·obtain⟨o',e1⟩:=I.base.there b o e hx;exact⟨o',(hs.2 b (Wx (WM (Ww e) I.ok.above))).trans e1⟩
  ·by_cases hj:j=i
   ·subst hj;rw[hi] at e1;cases e1;rw[getElem?_set_self hiσ] at e2;cases e2;exact⟨u,r,.inl ⟨hk,by simp⟩⟩
   ·rw[getElem?_set_ne (Ne.symm hj)] at e2;obtain⟨u',r',q⟩:=hl j y v' e1 e2 e3;refine⟨u',r',?_⟩;rcases q with⟨k,e⟩ | ⟨k,c,e,z⟩
    ·refine .inl ⟨k,?_⟩;have:y≠x:=fun e=>hj (qK hN e1 (e ▸ hi))
     simp[this,e]
    ·exact .inr ⟨k,c,e,z.sameBut hs (cne y c e)⟩
  ·obtain⟨w',z⟩:=I.cell y c e;exact⟨w',z.sameBut hs (cne y c e)⟩
  ·obtain⟨e,n,ne,nf,d⟩:=I.pin p hp;exact⟨(hs.2 p.1 ne).trans e,n,ne,nf,d⟩
 ·have hfn:X.fn x=true:=by
   rcases hf with z | z
   ·exact z
   ·rw[z] at hk;cases hk
  obtain⟨c,hc⟩:=I.ok.has x (.inl hk);obtain⟨w',z⟩:=I.cell x c hc;refine wpAny_storeName_cell I.ok.kind hk hc z (fun h' hc' hs=>?_);obtain⟨oc,hoc,hocd⟩:=id z;refine h { s with heap:=h' } ⟨I.ok,I.os,I.bare,⟨fun b o e n hb hx=>?_,fun b o e n hb hx=>?_,I.base.free,fun b o e hx=>?_,I.base.tups,I.base.frzs,I.base.tbls⟩,⟨m,hn.sameBut hs (Ne.symm (cne x c hc)),fun j y v' e1 e2 e3=>?_⟩,fun y c' e=>?_,I.free,I.freeC,fun p hp=>?_,tracked ⟨oc,hoc,I.freeC x c hc⟩ hs,by simpa using I.len⟩ ⟨c,hs,.inr hc⟩
  ·exact(hs.2 b (Wx (WM (Ww e) (I.ok.cab x c hfn hc)))).trans (I.base.keep b o e n hb hx)
  ·obtain⟨sl,e1⟩:=I.base.slot b o e n hb hx;exact⟨sl,(hs.2 b (Wx (WM (Ww e) (I.ok.cab x c hfn hc)))).trans e1⟩
  ·obtain⟨o',e1⟩:=I.base.there b o e hx;exact⟨o',(hs.2 b (Wx (WM (Ww e) (I.ok.cab x c hfn hc)))).trans e1⟩
  ·by_cases hj:j=i
   ·subst hj;rw[hi] at e1;cases e1;rw[getElem?_set_self hiσ] at e2;cases e2;exact⟨u,r,.inr ⟨.inl hk,c,hc,hc'⟩⟩
   ·rw[getElem?_set_ne (Ne.symm hj)] at e2;obtain⟨u',r',q⟩:=hl j y v' e1 e2 e3;refine⟨u',r',?_⟩;rcases q with q | ⟨k,c',e,z'⟩
    ·exact .inl q
    ·refine .inr ⟨k,c',e,z'.sameBut hs ?_⟩;rintro rfl;exact hj (qK hN e1 (I.ok.inj _ _ _ e hc ▸ hi))
  ·by_cases hcc:c'=c
   ·subst hcc;exact⟨_,hc'⟩
   ·obtain⟨w2,z2⟩:=I.cell y c' e;exact⟨w2,z2.sameBut hs hcc⟩
  ·obtain⟨e,n,ne,nf,d⟩:=I.pin p hp;refine⟨(hs.2 p.1 ?_).trans e,n,ne,nf,d⟩;intro q;rw[q,hoc] at e;have q':oc=p.2:=WT e;exact d w' (by rw[← q'];exact hocd)
def qg{E:Value->Shared->Prop}{Q:Unit->Shared->Prop}(I:Inv X pins σ H s)(hN:X.N.Nodup)(hi:X.N[i]?=some x)(hx:Loc X.env.scope x)(r:RelV v u)
  (h:∀ s',Inv X pins (σ.set i (some v)) H s'->Q () s')(hf:X.fn x=true\/X.env.scope.names.lookup x=some .local:=by first | exact .inl rfl | exact .inr rfl | assumption):wpAny M A (storeName X.env x u) Q E s :=
 tK I hN hi hx r (fun s' I' _=>h s' I') hf
def Inv.call'(I:Inv X pins σ H s)(ho:s'.os=s.os)(u:Un (frs X.stack) ch H H' s.heap s'.heap)(hok:HOk X.prog X.w H' s'.heap)(hg:AllBare s'.gens)
  (hch:∀ b∈ch,(b∈X.ex\/X.s₀.heap.objs.size<=b)/\b≠X.env.locals/\(∀ x c,X.env.cells.lookup x=some c->c≠b)/\∀ p∈X.pn++pins,p.1≠b):Inv X pins σ H' s':=by
 obtain⟨h',g',d',t',o'⟩:=s';have e:o'=s.os:=ho;subst e;exact I.call (g':=g') (t':=t') (d':=d') u hok hg hch
end
abbrev XK:=Value->Option Addr->Hp->Prop
abbrev St:=List (Option V)
abbrev VK:=V->Hp->Prop
abbrev TE:=St->Hp->VK->Prop
abbrev TT:=St->Hp->(Bool->Hp->Prop)->Prop
abbrev TA:=St->Hp->(List V->Hp->Prop)->Prop
structure Ends where
 nx:St->Hp->Prop
 rt:VK
 bk:St->Hp->Prop:=fun _ _=>False
 ct:St->Hp->Prop:=fun _ _=>False
abbrev TS:=Ends->St->Hp->Prop
def EP(X:Cx)(pins:List (Addr × Obj))(σ:St)(Q:VK)(u:Value)(s':Shared):Prop:=∃ v H',Inv X pins σ H' s'/\RelV v u/\Q v H'
def TP(X:Cx)(pins:List (Addr × Obj))(σ:St)(Q:Bool->Hp->Prop)(b:Bool)(s':Shared):Prop:=∃ H',Inv X pins σ H' s'/\Q b H'
def AP(X:Cx)(pins:List (Addr × Obj))(σ:St)(Q:List V->Hp->Prop)(us:List Value)(s':Shared):Prop:=∃ vs H',Inv X pins σ H' s'/\Vals vs us/\Q vs H'
def SP(X:Cx)(pins:List (Addr × Obj))(D:Ends)(f:Flow)(s':Shared):Prop :=
 match f with
 | .next=>∃ σ' H',Inv X pins σ' H' s'/\D.nx σ' H'
 | .brk=>∃ σ' H',Inv X pins σ' H' s'/\D.bk σ' H'
 | .cont=>∃ σ' H',Inv X pins σ' H' s'/\D.ct σ' H'
 | .ret u=>∃ v σ' H',Inv X pins σ' H' s'/\RelV v u/\D.rt v H'
def PE(X:Cx)(e:Expr)(t:TE):Prop :=
 ∀(pins:List (Addr × Obj))(s:Shared)(σ:St)(H:Hp)(Q:VK),Inv X pins σ H s->t σ H Q->wpAny (model X.prog X.w) X.A (eval e X.env) (EP X pins σ Q) X.xe s
def PT(X:Cx)(e:Expr)(t:TT):Prop :=
 ∀(pins:List (Addr × Obj))(s:Shared)(σ:St)(H:Hp)(Q:Bool->Hp->Prop),Inv X pins σ H s->t σ H Q->wpAny (model X.prog X.w) X.A (isTrue e X.env (eval e X.env)) (TP X pins σ Q) X.xe s
def PW(X:Cx)(e:Expr)(t:TT):Prop :=
 ∀(whole:Sem Value)(pins:List (Addr × Obj))(s:Shared)(σ:St)(H:Hp)(Q:Bool->Hp->Prop),Inv X pins σ H s->t σ H Q->wpAny (model X.prog X.w) X.A (isTrue e X.env whole) (TP X pins σ Q) X.xe s
theorem PW.pt(h:PW X e t):PT X e t:=h _
def PA(X:Cx)(es:List Expr)(t:TA):Prop :=
 ∀(pos:Pos)(pins:List (Addr × Obj))(s:Shared)(σ:St)(H:Hp)(Q:List V->Hp->Prop),Inv X pins σ H s->t σ H Q->wpAny (model X.prog X.w) X.A (spliced (backTo pos (starEach es X.env))) (AP X pins σ Q) X.xe s
def PS(X:Cx)(st:Stmt)(t:TS):Prop :=
 ∀(pins:List (Addr × Obj))(s:Shared)(σ:St)(H:Hp)(D:Ends),Inv X pins σ H s->t D σ H->wpAny (model X.prog X.w) X.A (exec st X.env) (SP X pins D) X.xe s
def PSs(X:Cx)(st:List Stmt)(t:TS):Prop :=
 ∀(pins:List (Addr × Obj))(s:Shared)(σ:St)(H:Hp)(D:Ends),Inv X pins σ H s->t D σ H->wpAny (model X.prog X.w) X.A (execs st X.env) (SP X pins D) X.xe s
def thn{α:Type}{t:Sem α}{Q Q':α->Shared->Prop}{E:Value->Shared->Prop}(h:wpAny M A t Q E s)(hQ:∀ a s,Q a s->Q' a s):wpAny M A t Q' E s:=wpAny_mono h hQ fun _ _ x=>x
section
variable {X:Cx}
def bin(ha:PE X a ta)(hb:PE X b tb){R:V->V->Hp->Prop}(I:Inv X pins σ H s)(h:ta σ H fun x H1=>tb σ H1 fun y H2=>R x y H2)
  {α:Type}{Q:α->Shared->Prop}{f:Value->Value->Sem α}
  (hf:∀ v u s2 x y H2,Inv X pins σ H2 s2->RelV x v->RelV y u->R x y H2->wpAny (model X.prog X.w) X.A (f v u) Q X.xe s2) :
  wpAny (model X.prog X.w) X.A (eval a X.env) (fun v s₁=>wpAny (model X.prog X.w) X.A (eval b X.env) (fun u s₂=>wpAny (model X.prog X.w) X.A (f v u) Q X.xe s₂) X.xe s₁) X.xe s:=by
 refine thn (ha pins s σ H _ I h) fun v s1 ⟨x,H1,I1,r1,q1⟩=>?_
 refine thn (hb pins s1 σ H1 _ I1 q1) fun u s2 ⟨y,H2,I2,r2,q2⟩=>?_
 exact hf v u s2 x y H2 I2 r1 r2 q2
def Py(i:Nat):TE:=fun σ H Q=>∃ v,σ[i]?=some (some v)/\Q v H
def tC(v:V):TE:=fun _ H Q=>Q v H
def O9(hN:X.N[i]?=some x)(hv:Vis X.env.scope x)(hd:(x == ("__debug__" : Str))=false:=by decide)(hcd:(x == ("__classdict__" : Str))=false:=by decide):PE X (.Name x pos) (Py i):=by
 intro pins s σ H Q I h;obtain⟨v,e,h⟩:=h;obtain⟨m,hn,hl⟩:=I.loc;obtain⟨u,r,l⟩:=hl i x v hN e hv;have fin:EP X pins σ Q u s:=⟨v,H,I,r,h⟩
 rcases l with⟨hk,hm⟩ | ⟨hk,c,hc,hcell⟩
 ·exact wpAny_Name (wpAny_loadName_local I.ok.kind hk hn hm fin) hd
 ·rcases hk with hk | hk
  ·exact wpAny_Name (wpAny_loadName_cell I.ok.kind hk hc hcell fin) hd
  ·exact wpAny_Name (wpAny_loadName_free I.ok.kind hk hc hcell fin hcd) hd
def aA{i j pos}:PE X (.Constant (.int i) j pos) (tC (.int i)):=fun _ _ _ H _ I h=>wpAny_Constant_int ⟨.int i,H,I.tok _,⟨_,rfl⟩,h⟩
def yC{b j pos}:PE X (.Constant (.bool b) j pos) (tC (.bl b)):=fun _ _ _ H _ I h=>Constant_bool ⟨.bl b,H,I,rfl,h⟩
def cU{j pos}:PE X (.Constant .none j pos) (tC .non):=fun _ _ _ H _ I h=>Constant_none ⟨.non,H,I,rfl,h⟩
def aG{x j pos}:PE X (.Constant (.str x) j pos) (tC (.str x)):=fun _ _ _ H _ I h=>Calls.Constant_str ⟨.str x,H,I.tok _,⟨_,rfl⟩,h⟩
def Gl(X:Cx)(x:Str):Prop:=X.env.kindOf x=some .globalImplicit
def nY{E:Value->Shared->Prop}{Q:Value->Shared->Prop}(I:Inv X pins σ H s)(hg:Gl X x)(hm:X.mg x=some u)(h:Q u s)
  (hd:(x == ("__debug__" : Str))=false:=by decide):wpAny (model X.prog X.w) X.A (eval (.Name x pos) X.env) Q E s :=
 Calls.Name_function_global I.ok.kind hg (Calls.loadGlobal_global (by rw[I.ok.glob];exact I.mod.glob.keeps I.bk) hm h) hd
def xP{E:Value->Shared->Prop}{Q:Value->Shared->Prop}(I:Inv X pins σ H s)(hg:Gl X x)(hm:X.mg x=none)(hv:bootBuiltins x=some u)(h:Q u s)
  (hn:x ≠ "__name__":=by decide)(hd:(x == ("__debug__" : Str))=false:=by decide):wpAny (model X.prog X.w) X.A (eval (.Name x pos) X.env) Q E s:=by
 obtain⟨mb,h1,h2⟩:=I.mod.blt;exact Calls.Name_function_global I.ok.kind hg (Calls.loadGlobal_builtin (by rw[I.ok.glob];exact I.mod.glob.keeps I.bk) hm (by rw[I.ok.blt];exact h1.keeps I.bk) ((h2 x hn).trans hv) h) hd
def fj(hg:Gl X x)(hm:X.mg x=some u)(r:RelV v u)(hd:(x == ("__debug__" : Str))=false:=by decide):PE X (.Name x pos) (tC v) :=
 fun _ _ _ H _ I h=>nY I hg hm ⟨v,H,I,r,h⟩ hd
def mU(hg:Gl X x)(hm:X.mg x=none)(hv:bootBuiltins x=some u)(r:RelV v u)(hn:x ≠ "__name__":=by decide)(hd:(x == ("__debug__" : Str))=false:=by decide):PE X (.Name x pos) (tC v) :=
 fun _ _ _ H _ I h=>xP I hg hm hv ⟨v,H,I,r,h⟩ hn hd
variable {a b:Expr}{ta tb:TE}{pos:Pos}
def PC(X:Cx)(op:CmpOp)(a b:Expr)(t:TE):Prop :=
 ∀(pins:List (Addr × Obj))(s:Shared)(σ:St)(H:Hp)(Q:VK),Inv X pins σ H s->t σ H Q ->
  wpAny (model X.prog X.w) X.A (eval a X.env) (fun v s₁=>wpAny (model X.prog X.w) X.A (eval b X.env) (fun u s₂=>wpAny (model X.prog X.w) X.A (compareOp op v u) (EP X pins σ Q) X.xe s₂) X.xe s₁) X.xe s
def Gh(b:Expr)(h:op≠.In)(h2:op≠.NotIn):behindInMarks op b=false:=by
 have e1:(op == CmpOp.In)=false:=by cases op <;> first | rfl | exact absurd rfl h
 have e2:(op == CmpOp.NotIn)=false:=by cases op <;> first | rfl | exact absurd rfl h2
 cases b <;> simp[behindInMarks,e1,e2]
def tB(t:TE):TT:=fun σ H Q=>t σ H fun x H1=>∃ c,x=.bl c/\Q c H1
def Rm(h:PC X op a b t)(h1:behindInMarks op b=false:=by first | exact Gh _ (by decide) (by decide) | rfl):PT X (.Compare a [op] [b] pos) (tB t):=by
 intro pins s σ H Q I hw;refine wpAny_isTrue_Compare1 (thn (h pins s σ H _ I hw) fun v s1 h1=>thn h1 fun u s2 h2=>thn h2 fun c s3 ⟨x,H1,I1,r1,q1⟩=>?_) h1;obtain⟨d,rfl,q⟩:=q1;cases r1;exact wpAny_truthy_bool ⟨H1,I1,q⟩
def sO(h:PE X e t)(he:∀ whole,isTrue e X.env whole=(do let v ← whole;standAt e.pos;holding [v] (truthy v)):=by intro _;rfl):PT X e (tB t):=by
 intro pins s σ H Q I hw;refine isTrue_plain (thn (h pins s σ H _ I hw) fun v s1 ⟨x,H1,I1,r1,q1⟩=>?_) (he _);obtain⟨d,rfl,q⟩:=q1;cases r1;exact wpAny_truthy_bool ⟨H1,I1,q⟩
variable {tA tB':TT}{rest:List Expr}
def SQ(t u:TT):TT:=fun σ H Q=>t σ H fun c H1=>if c=true then u σ H1 Q else Q false H1
def tOr(t u:TT):TT:=fun σ H Q=>t σ H fun c H1=>if c=true then Q true H1 else u σ H1 Q
def R8(t:TT):TT:=fun σ H Q=>t σ H fun c H1=>Q (!c) H1
def mO(ha:PT X a tA):PW X (.BoolOp .And [a] pos) tA:=by
 intro wh pins s σ H Q I h;refine isTrue_and (thn (ha pins s σ H Q I h) fun c s1 e=>?_);cases c with
 | true=>exact isTrue_and_nil e
 | false=>exact e
def mR(ha:PT X a tA):PW X (.BoolOp .Or [a] pos) tA:=by
 intro wh pins s σ H Q I h;refine isTrue_or (thn (ha pins s σ H Q I h) fun c s1 e=>?_);cases c with
 | false=>exact isTrue_or_nil e
 | true=>exact e
def uo(ha:PT X a tA)(hb:PW X (.BoolOp .And (b::rest) pos) tB'):PW X (.BoolOp .And (a::b::rest) pos) (SQ tA tB'):=by
 intro wh pins s σ H Q I h;refine isTrue_and (thn (ha pins s σ H _ I h) fun c s1 ⟨H1,I1,q1⟩=>?_);cases c with
 | true=>exact hb wh pins s1 σ H1 Q I1 q1
 | false=>exact⟨H1,I1,q1⟩
def vG(ha:PT X a tA)(hb:PW X (.BoolOp .Or (b::rest) pos) tB'):PW X (.BoolOp .Or (a::b::rest) pos) (tOr tA tB'):=by
 intro wh pins s σ H Q I h;refine isTrue_or (thn (ha pins s σ H _ I h) fun c s1 ⟨H1,I1,q1⟩=>?_);cases c with
 | true=>exact⟨H1,I1,q1⟩
 | false=>exact hb wh pins s1 σ H1 Q I1 q1
def Dg(ha:PT X a tA):PT X (.UnaryOp .Not a pos) (R8 tA):=by
 intro pins s σ H Q I h;exact isTrue_not (ha pins s σ H (fun c H1=>Q (!c) H1) I h)
def Qx(ta tb:TE):TE:=fun σ H Q=>ta σ H fun x H1=>∃ c,x=.bl c/\if c=true then tb σ H1 Q else Q (.bl false) H1
def S9(ta tb:TE):TE:=fun σ H Q=>ta σ H fun x H1=>∃ c,x=.bl c/\if c=true then Q (.bl true) H1 else tb σ H1 Q
def QX(ta:TE):TE:=fun σ H Q=>ta σ H fun x H1=>∃ c,x=.bl c/\Q (.bl (!c)) H1
def HW{op}(h:PE X a t):PE X (.BoolOp op [a] pos) t:=fun pins s σ H Q I hw=>BoolOp_one (h pins s σ H Q I hw)
def M5(ha:PE X a ta)(hb:PE X (.BoolOp .And (b::rest) pos) tb):PE X (.BoolOp .And (a::b::rest) pos) (Qx ta tb):=by
 intro pins s σ H Q I h;refine BoolOp_and (thn (ha pins s σ H _ I h) fun v s1 ⟨x,H1,I1,r1,q1⟩=>?_);obtain⟨c,rfl,q1⟩:=q1;cases r1;refine wpAny_truthy_bool ?_;cases c with
 | true=>exact hb pins s1 σ H1 Q I1 q1
 | false=>exact⟨.bl false,H1,I1,rfl,q1⟩
def QK(ha:PE X a ta)(hb:PE X (.BoolOp .Or (b::rest) pos) tb):PE X (.BoolOp .Or (a::b::rest) pos) (S9 ta tb):=by
 intro pins s σ H Q I h;refine BoolOp_or (thn (ha pins s σ H _ I h) fun v s1 ⟨x,H1,I1,r1,q1⟩=>?_);obtain⟨c,rfl,q1⟩:=q1;cases r1;refine wpAny_truthy_bool ?_;cases c with
 | false=>exact hb pins s1 σ H1 Q I1 q1
 | true=>exact⟨.bl true,H1,I1,rfl,q1⟩
def Oe(ha:PE X a ta):PE X (.UnaryOp .Not a pos) (QX ta):=by
 intro pins s σ H Q I h;refine UnaryOp_ (thn (ha pins s σ H _ I h) fun v s1 ⟨x,H1,I1,r1,q1⟩=>?_);obtain⟨c,rfl,q1⟩:=q1;cases r1;exact not_of (wpAny_truthy_bool ⟨.bl (!c),H1,I1,rfl,q1⟩)
def tIf(t:TT)(ta tb:TE):TE:=fun σ H Q=>t σ H fun c H1=>if c=true then ta σ H1 Q else tb σ H1 Q
def Gg(hc:PT X c tA)(ha:PE X a ta)(hb:PE X b tb):PE X (.IfExp c a b pos) (tIf tA ta tb):=by
 intro pins s σ H Q I h;refine wpAny_IfExp (thn (hc pins s σ H _ I h) fun d s1 ⟨H1,I1,q1⟩=>?_);cases d with
 | true=>exact ha pins s1 σ H1 Q I1 q1
 | false=>exact hb pins s1 σ H1 Q I1 q1
end
def SqL(K:W.Frag)(H:Hp)(a:Addr)(xs:List V):Prop :=
 Rd H a (.lst xs) \/
  ∃(o:Obj)(its:Array Value)(n:Nat),K.lookup a=some o/\o.cls=.type "list"/\o.dict=none/\o.data=.seq its n/\its.size<=sizeLine/\Vals xs its.toList
def SqT(K:W.Frag)(H:Hp)(a:Addr)(xs:List V):Prop :=
 Rd H a (.tup xs) \/
  ∃(o:Obj)(its:Array Value)(n:Nat),K.lookup a=some o/\o.cls=.type "tuple"/\o.data=.seq its n/\its.size<=sizeLine/\Vals xs its.toList
def RV:Value->Option V
 | .none=>some .non
 | .bool b=>some (.bl b)
 | .int i _=>some (.int i)
 | .str x _=>some (.str x)
 | .bytes b _=>some (.byt b)
 | .float b _=>some (.flt b)
 | .ref a=>some (.ref a)
 | .type n=>some (.ty n)
 | _=>none
def RelV.abs(r:RelV x u):RV u=some x:=by
 cases x with
 | non=>cases r;rfl
 | bl _=>cases r;rfl
 | int _=>obtain⟨t,rfl⟩:=r;rfl
 | str _=>obtain⟨t,rfl⟩:=r;rfl
 | byt _=>obtain⟨t,rfl⟩:=r;rfl
 | flt _=>obtain⟨t,rfl⟩:=r;rfl
 | ref _=>cases r;rfl
 | ty _=>cases r;rfl
def RelV.inj(r:RelV x u)(q:RelV y u):x=y:=WT (r.abs.symm.trans q.abs)
theorem Vals.inj:∀ {xs ys:List V}{us:List Value},Vals xs us->Vals ys us->xs=ys
 | _,_,_,.nil,.nil=>rfl
 | _,_,_,.cons r t,.cons r' t'=>by rw[r.inj r',Vals.inj t t']
section
variable {X:Cx}{pins:List (Addr × Obj)}{σ:St}{H:Hp}{s:Shared}{a:Addr}{xs ys:List V}
def SqL.of{K:W.Frag}(h:H a=some (.lst xs)):SqL K H a xs:=.inl (.inl h)
def SqT.of{K:W.Frag}(h:H a=some (.tup xs)):SqT K H a xs:=.inl (.inl h)
def Inv.list(I:Inv X pins σ H s)(h:SqL X.K H a xs):∃ its:List Value,Vals xs its/\PlainL s.heap a its.toArray/\xs.length<=sizeLine:=by
 rcases h with h | ⟨o,its,n,hk,hc,hd,hs,hz,r⟩
 ·obtain⟨z,its,n,r,e⟩:=h.ok I.hok;exact⟨its,r,⟨_,n,e,rfl,rfl,rfl⟩,z⟩
 ·refine⟨its.toList,r,⟨o,n,I.kIn a o hk,hc,hd,by simpa using hs⟩,?_⟩;have e:=r.length;simp only[WK] at e;lia
def Inv.tuple(I:Inv X pins σ H s)(h:SqT X.K H a xs):∃ its:List Value,Vals xs its/\IsTup s.heap a its.toArray/\xs.length<=sizeLine:=by
 rcases h with h | ⟨o,its,n,hk,hc,hs,hz,r⟩
 ·obtain⟨z,its,r,p⟩:=h.ok I.hok;exact⟨its,r,p,z⟩
 ·refine⟨its.toList,r,⟨o,I.kIn a o hk,hc,n,by simpa using hs⟩,?_⟩;have e:=r.length;simp only[WK] at e;lia
def Inv.list_inj(I:Inv X pins σ H s)(h:SqL X.K H a xs)(h':SqL X.K H a ys):xs=ys:=by
 obtain⟨its,r,⟨o,n,e,_,_,d⟩,_⟩:=I.list h;obtain⟨its',r',⟨o',n',e',_,_,d'⟩,_⟩:=I.list h';rw[e] at e';cases e';rw[d] at d';injection d' with d1 _;have:its=its':=by simpa using congrArg Array.toList d1
 subst this;exact r.inj r'
def Inv.tuple_inj(I:Inv X pins σ H s)(h:SqT X.K H a xs)(h':SqT X.K H a ys):xs=ys:=by
 obtain⟨its,r,⟨o,e,_,n,d⟩,_⟩:=I.tuple h;obtain⟨its',r',⟨o',e',_,n',d'⟩,_⟩:=I.tuple h';rw[e] at e';cases e';rw[d] at d';injection d' with d1 _;have:its=its':=by simpa using congrArg Array.toList d1
 subst this;exact r.inj r'
end
abbrev Cx.wish(X:Cx)(E:Value->Shared->Prop):Cx:={ X with xe:=E }
abbrev Cx.nox(X:Cx):Cx:=X.wish fun _ _=>False
def Cx.Ok.wish{X:Cx}(ok:X.Ok)(E:Value->Shared->Prop):(X.wish E).Ok :=
 ⟨ok.mod,ok.kind,ok.glob,ok.blt,ok.above,ok.inj,ok.has,ok.cab,ok.hd,ok.frames,ok.stk,ok.exf,ok.bs,ok.bsz,ok.noex,ok.exfs,ok.funs,ok.frf⟩
def Cx.Ok.unwish{X:Cx}{E:Value->Shared->Prop}(ok:(X.wish E).Ok):X.Ok :=
 ⟨ok.mod,ok.kind,ok.glob,ok.blt,ok.above,ok.inj,ok.has,ok.cab,ok.hd,ok.frames,ok.stk,ok.exf,ok.bs,ok.bsz,ok.noex,ok.exfs,ok.funs,ok.frf⟩
section
variable {X:Cx}{pins:List (Addr × Obj)}{σ:St}{H:Hp}{s:Shared}{E:Value->Shared->Prop}
def Inv.wish(I:Inv X pins σ H s)(E:Value->Shared->Prop):Inv (X.wish E) pins σ H s:=⟨I.ok.wish E,I.os,I.bare,I.base,I.loc,I.cell,I.free,I.freeC,I.pin,I.hok,I.len⟩
def Inv.unwish(I:Inv (X.wish E) pins σ H s):Inv X pins σ H s:=⟨I.ok.unwish,I.os,I.bare,I.base,I.loc,I.cell,I.free,I.freeC,I.pin,I.hok,I.len⟩
def SP.unwish(h:SP (X.wish E) pins D f s'):SP X pins D f s':=by
 cases f with
 | next=>obtain⟨σ',H',I,q⟩:=h;exact⟨σ',H',I.unwish,q⟩
 | brk=>obtain⟨σ',H',I,q⟩:=h;exact⟨σ',H',I.unwish,q⟩
 | cont=>obtain⟨σ',H',I,q⟩:=h;exact⟨σ',H',I.unwish,q⟩
 | ret u=>obtain⟨v,σ',H',I,r,q⟩:=h;exact⟨v,σ',H',I.unwish,r,q⟩
theorem PSs.nox{st:List Stmt}{t:TS}(h:PSs X.nox st t):PSs X st t:=fun pins s σ H D I hw =>
 wpAny_mono (h pins s σ H D (I.wish _) hw) (fun _ _ q=>q.unwish) fun _ _ z=>False.elim z
variable {st:Stmt}{rest:List Stmt}{t u:TS}{e:Expr}{te:TE}{pos:Pos}
def QH:TS:=fun D σ H=>D.nx σ H
def PB(t u:TS):TS:=fun D σ H=>t { D with nx:=u D } σ H
def bB:PSs X [] QH:=fun _ _ σ H _ I h=>wpAny_execs_nil ⟨σ,H,I,h⟩
def au(h1:PS X st t)(h2:PSs X rest u):PSs X (st::rest) (PB t u):=by
 intro pins s σ H D I h;refine wpAny_execs_cons (thn (h1 pins s σ H { D with nx:=u D } I h) fun f s1 q=>?_);cases f with
 | next =>
  obtain⟨σ',H',I',q⟩:=q;exact h2 pins s1 σ' H' D I' q
 | ret v=>exact q
 | brk=>exact q
 | cont=>exact q
def aB(h1:PS X st t):PSs X [st] t:=by
 intro pins s σ H D I h;refine wpAny_execs_cons (thn (h1 pins s σ H D I h) fun f s1 q=>?_);cases f with
 | next=>exact wpAny_execs_nil q
 | ret v=>exact q
 | brk=>exact q
 | cont=>exact q
def Inv.quiet(I:Inv X pins σ H s):interactive X.env=false:=by simp[interactive,I.ok.kind]
def Q7(te:TE):TS:=fun D σ H=>te σ H fun _ H1=>D.nx σ H1
def cQ(he:PE X e te)(hs:swapsWith e none pos.line X.env=pure false:=by rfl):PS X (.Expr e pos) (Q7 te):=by
 intro pins s σ H D I h;exact wpAny_Expr_any (thn (he pins s σ H _ I h) fun v s1 ⟨x,H1,I1,r1,q1⟩=>⟨σ,H1,I1,q1⟩) I.quiet hs
def R9(te:TE):TS:=fun D σ H=>te σ H D.rt
def aW(he:PE X e te):PS X (.Return (some e) pos) (R9 te):=by
 intro pins s σ H D I h;exact wpAny_Return_some (thn (he pins s σ H _ I h) fun v s1 ⟨x,H1,I1,r1,q1⟩=>⟨x,σ,H1,I1,r1,q1⟩)
def Sq(c:TT)(t u:TS):TS:=fun D σ H=>c σ H fun b H1=>if b=true then t D σ H1 else u D σ H1
def cF(hc:PT X c tc)(ha:PSs X a t)(hb:PSs X b u):PS X (.If c a b pos) (Sq tc t u):=by
 intro pins s σ H D I h;refine wpAny_If (thn (hc pins s σ H _ I h) fun d s1 ⟨H1,I1,q1⟩=>?_);cases d with
 | true=>exact ha pins s1 σ H1 D I1 q1
 | false=>exact hb pins s1 σ H1 D I1 q1
end
abbrev TG:=V->St->Hp->(St->Hp->Prop)->Prop
abbrev TGs:=List V->St->Hp->(St->Hp->Prop)->Prop
def PG(X:Cx)(target:Expr)(t:TG):Prop :=
 ∀(pins:List (Addr × Obj))(s:Shared)(σ:St)(H:Hp)(v:V)(u:Value)(Q:St->Hp->Prop),Inv X pins σ H s->RelV v u->t v σ H Q ->
  wpAny (model X.prog X.w) X.A (assign target X.env u) (fun _ s'=>∃ σ' H',Inv X pins σ' H' s'/\Q σ' H') X.xe s
def PGs(X:Cx)(ts:List Expr)(t:TGs):Prop :=
 ∀(pins:List (Addr × Obj))(s:Shared)(σ:St)(H:Hp)(vs:List V)(us:List Value)(Q:St->Hp->Prop),Inv X pins σ H s->Vals vs us->t vs σ H Q ->
  wpAny (model X.prog X.w) X.A (assignInOrder ((assignEach ts X.env).map (·.2)) us) (fun _ s'=>∃ σ' H',Inv X pins σ' H' s'/\Q σ' H') X.xe s
section
variable {X:Cx}{pos:Pos}
def zf(i:Nat):TG:=fun v σ H Q=>Q (σ.set i (some v)) H
def aP(hN:X.N.Nodup)(hi:X.N[i]?=some x)(hx:Loc X.env.scope x)(hf:X.fn x=true\/X.env.scope.names.lookup x=some .local:=by first | exact .inl rfl | exact .inr rfl | assumption):PG X (.Name x pos) (zf i):=by
 intro pins s σ H v u Q I r h;exact wpAny_assign_Name (qg I hN hi hx r (fun s' I'=>⟨_,H,I',h⟩) hf)
def Td:TGs:=fun vs σ H Q=>vs=[]/\Q σ H
def Q0(t:TG)(u:TGs):TGs:=fun vs σ H Q=>∃ v r,vs=v::r/\t v σ H fun σ' H'=>u r σ' H' Q
def jR:PGs X [] Td:=by
 intro pins s σ H vs us Q I r h;obtain⟨e,h⟩:=h;subst e;cases r;exact assignInOrder_nil ⟨σ,H,I,h⟩
def bN(h1:PG X e t)(h2:PGs X es u)
  (hs:(assignEach (e::es) X.env).map (·.2)=assign e X.env::(assignEach es X.env).map (·.2):=by rfl):PGs X (e::es) (Q0 t u):=by
 intro pins s σ H vs us Q I r h;obtain⟨v,vr,e1,h⟩:=h;subst e1;cases r with
 | cons r rr =>
  rw[hs];refine assignInOrder_cons (thn (h1 pins s σ H _ _ _ I r h) fun _ s1 ⟨σ1,H1,I1,q1⟩=>?_);exact h2 pins s1 σ1 H1 _ _ Q I1 rr q1
def Sx(K:W.Frag)(n:Nat)(t:TGs):TG:=fun v σ H Q=>∃ a xs,v=.ref a/\SqT K H a xs/\xs.length=n/\t xs σ H Q
def tX(hc:X.calm=true)(h:PGs X es t)
  (hn:(assignEach es X.env).length=n:=by rfl)(hst:(assignEach es X.env).findIdx? (·.1)=none:=by rfl):PG X (.Tuple es k pos) (Sx X.K n t):=by
 intro pins s σ H v u Q I r hw;obtain⟨a,xs,e1,hq,hl,hw⟩:=hw;subst e1;cases r;obtain⟨its,rv,ht,hz⟩:=I.tuple hq;refine assign_Tuple_tuple (I.ok.hd hc) ht (by simp[hn,← hl,rv.length]) hst fun h' hx=>?_
 have I1:Inv X pins σ H { s with heap:=h' }:=I.kept (t':=s.toks) fun b o e=>hx b o (Wx (Ww e)) e
 exact h pins _ σ H xs _ Q I1 (by simpa using rv) hw
def NP(te:TE)(g:TG):TS:=fun D σ H=>te σ H fun x H1=>g x σ H1 D.nx
def ud(he:PE X e te)(hg:PG X tg g)(hs:swapsWithSole [tg] e pos.line X.env=pure false:=by rfl)(hw:swappedStores [tg] e X.env=pure none:=by rfl)
  (h1:(assignEach [tg] X.env).map (·.2)=[assign tg X.env]:=by rfl):PS X (.Assign [tg] e pos) (NP te g):=by
 intro pins s σ H D I h;refine wpAny_Assign_stores (thn (he pins s σ H _ I h) fun v s1 ⟨x,H1,I1,r1,q1⟩=>?_) hs hw;rw[h1];exact thn (hg pins s1 σ H1 x v _ I1 r1 q1) fun _ s2 q=>q
def aL(hN:X.N.Nodup)(hi:X.N[i]?=some x)(hx:Loc X.env.scope x)(he:PE X e te)(hs:swapsWith e (some (.Name x pos')) pos.line X.env=pure false:=by rfl)(hf:X.fn x=true\/X.env.scope.names.lookup x=some .local:=by first | exact .inl rfl | exact .inr rfl | assumption) :
  PS X (.Assign [.Name x pos'] e pos) (NP te (zf i)):=by
 intro pins s σ H D I h;refine wpAny_Assign_Name (thn (he pins s σ H _ I h) fun v s1 ⟨y,H1,I1,r1,q1⟩=>?_) hs;exact qg I1 hN hi hx r1 (fun s2 I2=>⟨_,H1,I2,q1⟩) hf
end
structure It where
 go:Nat->Hp->Prop
 yld:Nat->Hp->V->Hp->Prop
 stop:Nat->Hp->Prop
def Bj(X:Cx)(pins:List (Addr × Obj))(H:Hp)(b:Addr):Prop :=
 H b=none/\b≠X.env.locals/\b ∉ X.fs/\(b∈X.ex\/X.s₀.heap.objs.size<=b)/\(∀ x c,X.env.cells.lookup x=some c->c≠b)/\∀ p∈X.pn++pins,p.1≠b
def Inv.fpOk(I:Inv X pins σ H s)(hb:s.heap.objs.size<=b)(hn:H' b=none):Bj X pins H' b:=by
 refine⟨hn,Nat.ne_of_gt (WM I.lt hb),I.nofs hb,.inr (W7 I.sz hb),fun x c e z=>?_,fun p hp z=>?_⟩
 ·obtain⟨v,q⟩:=I.cell x c e;exact absurd (WM q.lt (by rw[z];exact hb)) (Nat.lt_irrefl _)
 ·exact absurd (WM (Ww (I.pin p hp).1) (by rw[z];exact hb)) (Nat.lt_irrefl _)
structure Turn(P:Program)(w:World)(K:W.Frag)(tg:Expr)(J:It)(fp:List Addr)(it:Addr)(tn:Nat->Heap->Prop):Prop where
 mem:it∈fp
 obj:∀ i h,tn i h->∀ b∈fp,∃ o,h.get? b=some o/\∀ v,o.data≠.cell v
 keep:∀ i h h',tn i h->(∀ b∈fp,∀ o,h.get? b=some o->h'.get? b=some o)->tn i h'
 item:∀(X:Cx),X.prog=P->X.w=w->X.K=K->X.calm=true->∀(i:Nat)(pins:List (Addr × Obj))(s:Shared)(σ:St)(H:Hp)(E:Value->Shared->Prop),Inv X pins σ H s->(∀ b∈fp,Bj X pins H b)->tn i s.heap->J.go i H ->
  wpAny (model P w) X.A (pyNext (.ref it)) (fun r s1=>∃ u,r=some u /\
   wpAny (model P w) X.A (letOwnedTupleGo tg (.ref it) u) (fun _ s2=>∃ x H',Inv X pins σ H' s2/\RelV x u/\J.yld i H x H'/\tn (i+1) s2.heap/\∀ b∈fp,H' b=none) E s1) E s
 done:∀(X:Cx),X.prog=P->X.w=w->X.K=K->X.calm=true->∀(i:Nat)(pins:List (Addr × Obj))(s:Shared)(σ:St)(H:Hp)(E:Value->Shared->Prop),Inv X pins σ H s->(∀ b∈fp,Bj X pins H b)->tn i s.heap->J.stop i H ->
  wpAny (model P w) X.A (pyNext (.ref it)) (fun r s1=>r=none/\Inv X pins σ H s1) E s
 self:∀(A:Around)(i:Nat)(s:Shared)(Q:Value->Shared->Prop)(E:Value->Shared->Prop),tn i s.heap->Q (.ref it) s->wpAny (model P w) A (pyIter (.ref it)) Q E s
abbrev TI:=St->Hp->(It->Hp->Prop)->Prop
def PIE(X:Cx)(pins:List (Addr × Obj))(σ:St)(tg:Expr)(R:It->Hp->Prop)(itv:Value)(s2:Shared):Prop :=
 ∃(it:Addr)(fp:List Addr)(tn:Nat->Heap->Prop)(J:It)(H':Hp),itv=.ref it/\Inv X pins σ H' s2/\Turn X.prog X.w X.K tg J fp it tn/\tn 0 s2.heap/\(∀ b∈fp,Bj X pins H' b)/\R J H'
def PI(X:Cx)(tg iter:Expr)(wi:TI):Prop :=
 ∀(pins:List (Addr × Obj))(s:Shared)(σ:St)(H:Hp)(R:It->Hp->Prop),Inv X pins σ H s->wi σ H R ->
  wpAny (model X.prog X.w) X.A (eval iter X.env) (fun v s1=>wpAny (model X.prog X.w) X.A (pyIter v) (PIE X pins σ tg R) X.xe s1) X.xe s
def JT{E:Value->Shared->Prop}{Q:Unit->Shared->Prop}(ho:s.heap.get? it=some o)(hc:o.cls=.type n)(hd:o.data=.fields vs)
    (hn:["enumerate","zip","dict_itemiterator","dict_reverseitemiterator","odict_iterator","itertools.zip_longest","itertools.pairwise"].contains n=false)(hQ:Q () s):wpAny M A (letOwnedTupleGo tg (.ref it) u) Q E s:=by
  unfold letOwnedTupleGo;cases tg <;> first
    | exact Wq hQ
    | (cases u <;> first
        | exact Wq hQ
        | (refine Wo (wpAny_load ho ?_)
           rw[hc,hd];show wpAny M A (if (["enumerate","zip","dict_itemiterator","dict_reverseitemiterator","odict_iterator","itertools.zip_longest","itertools.pairwise"].contains n && vs[0]? == some (rawInt _))=true then _ else _) Q E s;rw[if_neg (by intro h;rw[hn,Bool.false_and] at h;cases h)];exact Wq hQ))
def Itl(K:W.Frag)(a:Addr):It :=
 ⟨fun i H=>∃ xs x,SqL K H a xs/\xs[i]?=some x,fun i H x H'=>H'=H/\∀ xs,SqL K H a xs->xs[i]?=some x,fun i H=>∃ xs,SqL K H a xs/\xs.length<=i⟩
def Itt(K:W.Frag)(a:Addr):It :=
 ⟨fun i H=>∃ xs x,SqT K H a xs/\xs[i]?=some x,fun i H x H'=>H'=H/\∀ xs,SqT K H a xs->xs[i]?=some x,fun i H=>∃ xs,SqT K H a xs/\xs.length<=i⟩
def Itr(lo:Int)(n:Nat):It:=⟨fun i _=>i<n,fun i H x H'=>H'=H/\x=.int (lo+i),fun i _=>n<=i⟩
def CV{P:Program}{w:World}{K:W.Frag}{tg:Expr}(a it:Addr):Turn P w K tg (Itl K a) [it] it (fun i h=>h.IsListIter it a i) where
 mem:=by simp
 obj:=fun i h st b hb=>by
  have e:b=it:=by simpa using hb
  subst e;obtain⟨o,e,c,d⟩:=st;exact⟨o,e,fun v z=>by rw[d] at z;cases z⟩
 keep:=fun i h h' st k=>st.at fun o e=>k it (by simp) o e
 item:=by
  intro X hP hw hK hc i pins s σ H E I hf st hg;subst hP hw hK;obtain⟨xs,x,hq,hx⟩:=hg;obtain⟨its,rv,p,hz⟩:=I.list hq;obtain⟨u,hu,ru⟩:=rv.get hx;obtain⟨f0,f1,f2,f3,f4,f5⟩:=hf it (by simp);refine wpAny_pyNext_list_item st p.isList (x:=u) (by simpa using hu) fun h' st' sb=>?_
  have I1:Inv X pins σ H { s with heap:=h' }:=I.turned (t':=s.toks) (fun b o hb e=>(sb.2 b hb).trans e) f0 f1 f3 f4 f5;obtain⟨o,e,c,d⟩:=id st';exact⟨u,rfl,JT (s:={ s with heap:=h' }) e c d (by decide) ⟨x,H,I1,ru,⟨rfl,fun ys hy=>by rw[I.list_inj hy hq];exact hx⟩,st',fun b hb=>(hf b hb).1⟩⟩
 done:=by
  intro X hP hw hK hc i pins s σ H E I hf st hg;subst hP hw hK;obtain⟨xs,hq,hx⟩:=hg;obtain⟨its,rv,p,hz⟩:=I.list hq;obtain⟨f0,f1,f2,f3,f4,f5⟩:=hf it (by simp);have hl:=rv.length;exact wpAny_pyNext_list_end (I.ok.hd hc) st p.isList (by simp;lia) fun h' eb=>⟨rfl,I.turned (t':=s.toks) (fun b o hb e=>eb b o hb e) f0 f1 f3 f4 f5⟩
 self:=fun _ _ _ _ _ st h=>wpAny_pyIter_listiter st h
def yF{P:Program}{w:World}{K:W.Frag}{tg:Expr}(a it:Addr):Turn P w K tg (Itt K a) [it] it (fun i h=>h.IsTupleIter it a i) where
 mem:=by simp
 obj:=fun i h st b hb=>by
  have e:b=it:=by simpa using hb
  subst e;obtain⟨o,e,c,d⟩:=st;exact⟨o,e,fun v z=>by rw[d] at z;cases z⟩
 keep:=fun i h h' st k=>st.at fun o e=>k it (by simp) o e
 item:=by
  intro X hP hw hK hc i pins s σ H E I hf st hg;subst hP hw hK;obtain⟨xs,x,hq,hx⟩:=hg;obtain⟨its,rv,p,hz⟩:=I.tuple hq;obtain⟨u,hu,ru⟩:=rv.get hx;obtain⟨f0,f1,f2,f3,f4,f5⟩:=hf it (by simp);refine wpAny_pyNext_tuple_item st (show s.heap.IsTuple a its.toArray from p) (x:=u) (by simpa using hu) fun h' st' sb=>?_
  have I1:Inv X pins σ H { s with heap:=h' }:=I.turned (t':=s.toks) (fun b o hb e=>(sb.2 b hb).trans e) f0 f1 f3 f4 f5;obtain⟨o,e,c,d⟩:=id st';exact⟨u,rfl,JT (s:={ s with heap:=h' }) e c d (by decide) ⟨x,H,I1,ru,⟨rfl,fun ys hy=>by rw[I.tuple_inj hy hq];exact hx⟩,st',fun b hb=>(hf b hb).1⟩⟩
 done:=by
  intro X hP hw hK hc i pins s σ H E I hf st hg;subst hP hw hK;obtain⟨xs,hq,hx⟩:=hg;obtain⟨its,rv,p,hz⟩:=I.tuple hq;obtain⟨f0,f1,f2,f3,f4,f5⟩:=hf it (by simp);have hl:=rv.length;exact wpAny_pyNext_tuple_end (I.ok.hd hc) st (show s.heap.IsTuple a its.toArray from p) (by simp;lia) fun h' eb=>⟨rfl,I.turned (t':=s.toks) (fun b o hb e=>eb b o hb e) f0 f1 f3 f4 f5⟩
 self:=fun _ _ _ _ _ st h=>wpAny_pyIter_tupleiter st h
def zc{P:Program}{w:World}{K:PySem.W.Frag}{tg:Expr}(it:Addr)(lo:Int)(n:Nat):Turn P w K tg (Itr lo n) [it] it (fun i h=>IsRangeIter h it (lo+(i:Nat)*1) ((n:Int) - (i:Nat)) 1) where
 mem:=by simp
 obj:=fun i h st b hb=>by
  have e:b=it:=by simpa using hb
  subst e;exact⟨_,st,fun v z=>by
   have z':Data.fields _=Data.cell v:=z;cases z'⟩
 keep:=fun i h h' st k=>k it (by simp) _ st
 item:=by
  intro X hP hw hK hc i pins s σ H E I hf st hg;subst hP hw hK;obtain⟨f0,f1,f2,f3,f4,f5⟩:=hf it (by simp);have W:=Walks.range (prog:=X.prog) (w:=X.w) (I.ok.hd hc) it lo 1 n;refine W.item i s _ _ hg st fun v h' tk hv st' kk=>?_
  obtain⟨t,rfl⟩:=hv;have I1:Inv X pins σ H { s with heap:=h',toks:=tk }:=I.turned (fun b o hb e=>kk b o (by simpa using hb) e) f0 f1 f3 f4 f5;refine⟨_,rfl,JT (s:={ s with heap:=h',toks:=tk }) (n:="range_iterator") st' rfl rfl (by decide) ⟨.int (lo+i),H,I1,⟨t,?_⟩,⟨rfl,rfl⟩,st',fun b hb=>(hf b hb).1⟩⟩;rw[Int.mul_one]
 done:=by
  intro X hP hw hK hc i pins s σ H E I hf st hg;subst hP hw hK;obtain⟨f0,f1,f2,f3,f4,f5⟩:=hf it (by simp);exact wpAny_pyNext_range_end (I.ok.hd hc) st (by have:n<=i:=hg;lia) fun h' eb=>⟨rfl,I.turned (t':=s.toks) (fun b o hb e=>eb b o hb e) f0 f1 f3 f4 f5⟩
 self:=fun _ _ _ _ _ st h=>wpAny_pyIter_rangeiter st h
section
variable {X:Cx}{tg:Expr}
def Qc(K:W.Frag)(tl:TE):TI:=fun σ H R=>tl σ H fun x H1=>∃ a,x=.ref a/\(∃ xs,SqL K H1 a xs)/\R (Itl K a) H1
def Rq(K:W.Frag)(tl:TE):TI:=fun σ H R=>tl σ H fun x H1=>∃ a,x=.ref a/\(∃ xs,SqT K H1 a xs)/\R (Itt K a) H1
def fB{l:Expr}{tl:TE}(hl:PE X l tl):PI X tg l (Qc X.K tl):=by
 intro pins s σ H R I h;refine thn (hl pins s σ H _ I h) fun v s1 ⟨x,H1,I1,r1,q1⟩=>?_
 obtain⟨a,e,⟨xs,hq⟩,q⟩:=q1;subst e;cases r1;obtain⟨its,rv,p,hz⟩:=I1.list hq;refine wpAny_pyIter_list p.isList ?_;refine⟨s1.heap.objs.size,[s1.heap.objs.size],_,_,H1,rfl,I1.kept (t':=s1.toks) fun b o e=>Ws _ e,CV a _,⟨_,Wy _ rfl,rfl,rfl⟩,fun b hb=>?_,q⟩;have e:b=s1.heap.objs.size:=by simpa using hb
 subst e;exact I1.fpOk (Wu _) (I1.hok.fresh (Wu _))
def fY{l:Expr}{tl:TE}(hl:PE X l tl):PI X tg l (Rq X.K tl):=by
 intro pins s σ H R I h;refine thn (hl pins s σ H _ I h) fun v s1 ⟨x,H1,I1,r1,q1⟩=>?_
 obtain⟨a,e,⟨xs,hq⟩,q⟩:=q1;subst e;cases r1;obtain⟨its,rv,p,hz⟩:=I1.tuple hq;refine wpAny_pyIter_tuple (show s1.heap.IsTuple a its.toArray from p) ?_;refine⟨s1.heap.objs.size,[s1.heap.objs.size],_,_,H1,rfl,I1.kept (t':=s1.toks) fun b o e=>Ws _ e,yF a _,⟨_,Wy _ rfl,rfl,rfl⟩,fun b hb=>?_,q⟩;have e:b=s1.heap.objs.size:=by simpa using hb
 subst e;exact I1.fpOk (Wu _) (I1.hok.fresh (Wu _))
def G6{R:It->Hp->Prop}{E:Value->Shared->Prop}{lo hi:Int}{tk:Nat}(I:Inv X pins σ H s)(h1:-(2^62)<=lo)(h2:lo<2^62)(h3:-(2^62)<=hi)(h4:hi<2^62)
  (q:R (Itr lo (hi - lo).toNat) H):wpAny (model X.prog X.w) X.A (pyIter (.ref s.heap.objs.size)) (PIE X pins σ tg R) E { s with heap:=s.heap.push { cls:=.type "range",data:=.fields #[.int lo t,.int hi u,.int 1 v] },toks:=tk }:=by
 refine wpAny_pyIter_range (IsRange.new ..) (small_one h1 h2 h3 h4) ?_;have I1:Inv X pins σ H { s with heap:=s.heap.push { cls:=.type "range",data:=.fields #[.int lo t,.int hi u,.int 1 v] },toks:=tk }:=I.kept fun b o e=>Ws _ e
 refine⟨(s.heap.push { cls:=.type "range",data:=.fields #[.int lo t,.int hi u,.int 1 v] }).objs.size,[(s.heap.push { cls:=.type "range",data:=.fields #[.int lo t,.int hi u,.int 1 v] }).objs.size],_,_,H,rfl,
  I1.kept (t':=tk) fun b o e=>Ws _ e,zc _ lo (hi - lo).toNat,?_,fun b hb=>?_,q⟩
 ·have e1:lo+((0:Nat):Int)*1=lo:=by simp
  have e2:(((hi - lo).toNat:Nat):Int) - ((0:Nat):Int)=Builtin.Range.rangeSize lo hi 1:=by rw[rangeSize_one];split <;> lia
  show IsRangeIter _ _ (lo+((0:Nat):Int)*1) ((((hi - lo).toNat:Nat):Int) - ((0:Nat):Int)) 1;rw[e1,e2];exact Wy _ rfl
 ·have e:b=(s.heap.push { cls:=.type "range",data:=.fields #[.int lo t,.int hi u,.int 1 v] }).objs.size:=by simpa using hb
  subst e;exact I1.fpOk (Wu _) (I1.hok.fresh (Wu _))
def Qi(ta:TA):TI:=fun σ H R=>ta σ H fun vs H1=>∃ j:Int,vs=[.int j]/\-(2^62)<=j/\j<2^62/\R (Itr 0 j.toNat) H1
def cW(hg:Gl X "range")(hm:X.mg "range" = none)(ha:PA X [a] ta)(hs:starEach [a] X.env=[(false,eval a X.env)]:=by rfl):PI X tg (.Call (.Name "range" p) [a] [] pos) (Qi ta):=by
 intro pins s σ H R I h;refine Call_ (xP I hg hm boot_range (PyProof.Rows.callWith_type1 (thn (ha pos pins s σ H _ I h) fun us s1 ⟨vs,H1,I1,r1,q1⟩=>?_) hs rfl));obtain⟨j,e,q1,q2,q⟩:=q1;subst e;cases r1 with
 | cons r rr =>
  cases rr;obtain⟨t,rfl⟩:=r;exact call_range_1 (G6 I1 (by lia) (by lia) q1 q2 (by simpa using q))
def Tc(wi:TI)(g:TG)(tb:TS):TS:=fun D σ H=>wi σ H fun J H1=>∃ W:Nat->Nat->St->Hp->Prop,(∃ m,W 0 m σ H1)/\∀ i m σ H,W i m σ H ->
 (J.stop i H/\D.nx σ H)\/(J.go i H/\∃ N:St->Hp->Prop,(∀ σ' H',N σ' H'->∃ m',m'<m/\W (i+1) m' σ' H')/\∀ x H',J.yld i H x H'->g x σ H' fun σ2 H2=>tb { D with nx:=N,ct:=N,bk:=D.nx } σ2 H2)
def pW(fp:List Addr)(h:Heap):List (Addr × Obj):=fp.filterMap fun b=>(h.get? b).map fun o=>(b,o)
def eO(hb:b∈fp)(e:h.get? b=some o):(b,o)∈pW fp h:=List.mem_filterMap.mpr ⟨b,hb,by rw[e];rfl⟩
def Ae(hp:p∈pW fp h):p.1∈fp/\h.get? p.1=some p.2:=by
 obtain⟨b,hb,e⟩:=List.mem_filterMap.mp hp;cases q:h.get? b with
 | none=>rw[q] at e;cases e
 | some o =>
  rw[q] at e;have e':(b,o)=p:=WT e;subst e';exact⟨hb,q⟩
def Inv.pinned(I:Inv X pins σ H s)(hf:∀ b∈fp,Bj X pins H b)(ho:∀ b∈fp,∃ o,s.heap.get? b=some o/\∀ v,o.data≠.cell v):Inv X (pins++pW fp s.heap) σ H s :=
 I.pins_of fun p hp=>(mem_append.mp hp).elim (fun z=>I.pin p (W4 _ z)) fun z=>by
  obtain⟨hb,e⟩:=Ae z;obtain⟨f0,f1,f2,_⟩:=hf p.1 hb;obtain⟨o,e',d⟩:=ho p.1 hb;rw[e] at e';cases e';exact⟨e,f0,f1,f2,d⟩
def Inv.unpinned(I:Inv X (pins++pl) σ H s):Inv X pins σ H s:=I.pins_of fun p hp=>I.pin p (W4 _ (W5 _ hp))
def dU(hp:PassesOwn (model X.prog X.w) X.A X.env X.xe)(hc:X.calm=true)(hi:PI X tg iter wi)(hg:PG X tg g)(hb:PSs X body tb)
  (hs:∀ x,foldedSetIterable iter X.env x=pure x:=by intro _;rfl):PS X (.For tg iter body [] pos) (Tc wi g tb):=by
 intro pins s σ H D I h;refine wpAny_For (thn (hi pins s σ H _ I h) fun v s1 h1=>thn h1 fun itv s2 h2=>?_) hs;obtain⟨it,fp,tn,J,H2,e,I2,T,st2,f2,W,⟨m0,w0⟩,turn⟩:=h2;subst e;have stat:∀ {H':Hp},(∀ b∈fp,H' b=none)->∀ b∈fp,Bj X pins H' b:=fun hn b hb=>⟨hn b hb,(f2 b hb).2⟩
 refine codeAny_forLoop_any (fun n s'=>∃ i σ' H',Inv X pins σ' H' s'/\tn i s'.heap/\(∀ b∈fp,H' b=none)/\W i n σ' H') ?_ m0 ⟨0,σ,H2,I2,st2,fun b hb=>(f2 b hb).1,w0⟩;rintro n s3 ⟨i,σ3,H3,I3,st3,fr3,w3⟩;rcases turn i n σ3 H3 w3 with⟨stop,qn⟩ | ⟨go,N,hN,step⟩
 ·refine wpAny_passesOwn hp (thn (T.done X rfl rfl rfl hc i pins s3 σ3 H3 X.xe I3 (stat fr3) st3 stop) fun r s4 ⟨hr,I4⟩=>?_);subst hr;exact wpAny_execs_nil ⟨σ3,H3,I4,qn⟩
 ·refine wpAny_passesOwn hp (thn (T.item X rfl rfl rfl hc i pins s3 σ3 H3 X.xe I3 (stat fr3) st3 go) fun r s4 ⟨u,hr,h4⟩=>?_);subst hr;refine wpAny_passesOwn hp (thn h4 fun _ s5 ⟨x,H5,I5,r5,y5,st5,fr5⟩=>?_);have I5':=I5.pinned (stat fr5) (T.obj _ _ st5);refine wpAny_passesOwn hp (thn (hg _ s5 σ3 H5 x u _ I5' r5 (step x H5 y5)) fun _ s6 ⟨σ6,H6,I6,q6⟩=>?_);refine wpAny_passesOwn hp (thn (hb _ s6 σ6 H6 _ I6 q6) fun f s7 q7=>?_);have again:∀ {σ7:St}{H7:Hp},Inv X (pins++pW fp s5.heap) σ7 H7 s7->N σ7 H7->∃ m,m<n/\∃ i σ' H',Inv X pins σ' H' s7/\tn i s7.heap/\(∀ b∈fp,H' b=none)/\W i m σ' H':=fun {σ7 H7} I7 n7=>by
   obtain⟨m',hm,w7⟩:=hN σ7 H7 n7;refine⟨m',hm,i+1,σ7,H7,I7.unpinned,T.keep _ _ _ st5 fun b hb o e=>(I7.pin (b,o) (W4 _ (W4 _ (eO hb e)))).1,fun b hb=>?_,w7⟩;obtain⟨o,e,d⟩:=T.obj _ _ st5 b hb;exact(I7.pin (b,o) (W4 _ (W4 _ (eO hb e)))).2.1
  cases f with
  | next=>obtain⟨σ7,H7,I7,n7⟩:=q7;exact again I7 n7
  | cont=>obtain⟨σ7,H7,I7,n7⟩:=q7;exact again I7 n7
  | brk=>obtain⟨σ7,H7,I7,q7⟩:=q7;exact⟨σ7,H7,I7.unpinned,q7⟩
  | ret v=>obtain⟨x7,σ7,H7,I7,r7,q7⟩:=q7;exact⟨x7,σ7,H7,I7.unpinned,r7,q7⟩
end
def iM{K:PySem.W.Frag}{a:Addr}{xs:List V}{g:TG}{tb:TS}{D:Ends}{σ:St}{H:Hp}(Pv:Nat->St->Hp->Prop)(h0:Pv 0 σ H)(hl:∀ i σ H,i<=xs.length->Pv i σ H->SqL K H a xs)
  (hs:∀ i x σ H,xs[i]?=some x->Pv i σ H->g x σ H fun σ2 H2=>tb { D with nx:=Pv (i+1),ct:=Pv (i+1),bk:=D.nx } σ2 H2)(hd:∀ σ H,Pv xs.length σ H->D.nx σ H) :
  ∃ W:Nat->Nat->St->Hp->Prop,(∃ m,W 0 m σ H)/\∀ i m σ H,W i m σ H ->
   ((Itl K a).stop i H/\D.nx σ H)\/((Itl K a).go i H/\∃ N:St->Hp->Prop,(∀ σ' H',N σ' H'->∃ m',m'<m/\W (i+1) m' σ' H')/\∀ x H',(Itl K a).yld i H x H'->g x σ H' fun σ2 H2=>tb { D with nx:=N,ct:=N,bk:=D.nx } σ2 H2):=by
 refine⟨fun i m σ H=>m=xs.length - i/\i<=xs.length/\Pv i σ H,⟨xs.length,by simp,Nat.zero_le _,h0⟩,?_⟩;rintro i m σ H ⟨rfl,hi,p⟩;have q:=hl i σ H hi p;by_cases hlt:i<xs.length
 ·refine .inr ⟨⟨xs,xs[i],q,by simp[hlt]⟩,Pv (i+1),fun σ' H' p'=>⟨xs.length - (i+1),by lia,rfl,hlt,p'⟩,fun x H' y=>?_⟩;obtain⟨e,y⟩:=y;subst e;exact hs i x σ _ (y xs q) p
 ·have e:i=xs.length:=by lia
  subst e;exact .inl ⟨⟨xs,q,Wu _⟩,hd σ H p⟩
def jK{K:PySem.W.Frag}{a:Addr}{xs:List V}{g:TG}{tb:TS}{D:Ends}{σ:St}{H:Hp}(Pv:Nat->St->Hp->Prop)(h0:Pv 0 σ H)(hl:∀ i σ H,i<=xs.length->Pv i σ H->SqT K H a xs)
  (hs:∀ i x σ H,xs[i]?=some x->Pv i σ H->g x σ H fun σ2 H2=>tb { D with nx:=Pv (i+1),ct:=Pv (i+1),bk:=D.nx } σ2 H2)(hd:∀ σ H,Pv xs.length σ H->D.nx σ H) :
  ∃ W:Nat->Nat->St->Hp->Prop,(∃ m,W 0 m σ H)/\∀ i m σ H,W i m σ H ->
   ((Itt K a).stop i H/\D.nx σ H)\/((Itt K a).go i H/\∃ N:St->Hp->Prop,(∀ σ' H',N σ' H'->∃ m',m'<m/\W (i+1) m' σ' H')/\∀ x H',(Itt K a).yld i H x H'->g x σ H' fun σ2 H2=>tb { D with nx:=N,ct:=N,bk:=D.nx } σ2 H2):=by
 refine⟨fun i m σ H=>m=xs.length - i/\i<=xs.length/\Pv i σ H,⟨xs.length,by simp,Nat.zero_le _,h0⟩,?_⟩;rintro i m σ H ⟨rfl,hi,p⟩;have q:=hl i σ H hi p;by_cases hlt:i<xs.length
 ·refine .inr ⟨⟨xs,xs[i],q,by simp[hlt]⟩,Pv (i+1),fun σ' H' p'=>⟨xs.length - (i+1),by lia,rfl,hlt,p'⟩,fun x H' y=>?_⟩;obtain⟨e,y⟩:=y;subst e;exact hs i x σ _ (y xs q) p
 ·have e:i=xs.length:=by lia
  subst e;exact .inl ⟨⟨xs,q,Wu _⟩,hd σ H p⟩
def gW{lo:Int}{n:Nat}{g:TG}{tb:TS}{D:Ends}{σ:St}{H:Hp}(Pv:Nat->St->Hp->Prop)(h0:Pv 0 σ H)
  (hs:∀ i σ H,i<n->Pv i σ H->g (.int (lo+i)) σ H fun σ2 H2=>tb { D with nx:=Pv (i+1),ct:=Pv (i+1),bk:=D.nx } σ2 H2)(hd:∀ σ H,Pv n σ H->D.nx σ H) :
  ∃ W:Nat->Nat->St->Hp->Prop,(∃ m,W 0 m σ H)/\∀ i m σ H,W i m σ H ->
   ((Itr lo n).stop i H/\D.nx σ H)\/((Itr lo n).go i H/\∃ N:St->Hp->Prop,(∀ σ' H',N σ' H'->∃ m',m'<m/\W (i+1) m' σ' H')/\∀ x H',(Itr lo n).yld i H x H'->g x σ H' fun σ2 H2=>tb { D with nx:=N,ct:=N,bk:=D.nx } σ2 H2):=by
 refine⟨fun i m σ H=>m=n - i/\i<=n/\Pv i σ H,⟨n,by simp,Nat.zero_le _,h0⟩,?_⟩;rintro i m σ H ⟨rfl,hi,p⟩;by_cases hlt:i<n
 ·refine .inr ⟨hlt,Pv (i+1),fun σ' H' p'=>⟨n - (i+1),by lia,rfl,hlt,p'⟩,fun x H' y=>?_⟩;obtain⟨e,y⟩:=y;subst e y;exact hs i σ _ hlt p
 ·have e:i=n:=by lia
  subst e;exact .inl ⟨Wu _,hd σ H p⟩
abbrev R2:=V->V->Hp->VK->Prop
def OpR(X:Cx)(f:Value->Value->Sem Value)(r:R2):Prop :=
 ∀(pins:List (Addr × Obj))(s:Shared)(σ:St)(H:Hp)(x y:V)(v u:Value)(Q:VK),Inv X pins σ H s->RelV x v->RelV y u->r x y H Q ->
  wpAny (model X.prog X.w) X.A (f v u) (EP X pins σ Q) X.xe s
def fP(X:Cx)(f:Value)(r:List V->Hp->VK->Prop):Prop :=
 ∀(pins:List (Addr × Obj))(s:Shared)(σ:St)(H:Hp)(xs:List V)(us:List Value)(Q:VK),Inv X pins σ H s->Vals xs us->r xs H Q ->
  wpAny (model X.prog X.w) X.A (call f us) (EP X pins σ Q) X.xe s
def tOp(r:R2)(ta tb:TE):TE:=fun σ H Q=>ta σ H fun x H1=>tb σ H1 fun y H2=>r x y H2 Q
def rI(C:Int->Int->Prop)(g:Int->Int->V):R2:=fun x y H Q=>∃ i j,x=.int i/\y=.int j/\C i j/\Q (g i j) H
def rI0(g:Int->Int->V):R2:=fun x y H Q=>∃ i j,x=.int i/\y=.int j/\Q (g i j) H
section
variable {X:Cx}{a b c:Expr}{ta tb tc:TE}{pos:Pos}
def Qj(ha:PE X a ta)(hb:PE X b tb){R:V->V->Hp->Prop}(I:Inv X pins σ H s)
  (h:ta σ H fun x H1=>tb σ H1 fun y H2=>R x y H2){Q:Value->Shared->Prop}{f:Value->Value->Sem Value}
  (hf:∀ v u s2 x y H2,Inv X pins σ H2 s2->RelV x v->RelV y u->R x y H2->wpAny (model X.prog X.w) X.A (f v u) Q X.xe s2) :
  wpAny (model X.prog X.w) X.A (eval a X.env) (fun v s₁=>wpAny (model X.prog X.w) X.A (eval b X.env) (fun u s₂=>wpAny (model X.prog X.w) X.A (f v u) Q X.xe s₂) X.xe s₁) X.xe s:=by
 refine thn (ha pins s σ H _ I h) fun v s1 ⟨x,H1,I1,r1,q1⟩=>?_
 refine thn (hb pins s1 σ H1 _ I1 q1) fun u s2 ⟨y,H2,I2,r2,q2⟩=>?_
 exact hf v u s2 x y H2 I2 r1 r2 q2
def bF(ho:OpR X (binaryOp op) r)(ha:PE X a ta)(hb:PE X b tb):PE X (.BinOp a op b pos) (tOp r ta tb):=by
 intro pins s σ H Q I h;exact wpAny_BinOp (Qj ha hb I h fun v u s2 x y H2 I2 rx ry q=>ho pins s2 σ H2 x y v u Q I2 rx ry q)
def opI{f:Value->Value->Sem Value}{C:Int->Int->Prop}{g:Int->Int->Int}
  (rule:∀(i j:Int)(t u:Tok)(s:Shared)(Q:Value->Shared->Prop)(E:Value->Shared->Prop),C i j->Q (.int (g i j) s.toks) { s with toks:=s.toks+1 }->wpAny (model X.prog X.w) X.A (f (.int i t) (.int j u)) Q E s) :
  OpR X f (rI C fun i j=>.int (g i j)):=by
 intro pins s σ H x y v u Q I rx ry h;obtain⟨i,j,rfl,rfl,hc,q⟩:=h;obtain⟨t,rfl⟩:=rx;obtain⟨t',rfl⟩:=ry;exact rule i j t t' s _ _ hc ⟨.int (g i j),H,I.tok _,⟨_,rfl⟩,q⟩
def Ri{f:Value->Value->Sem Value}{g:Int->Int->Int}
  (rule:∀(i j:Int)(t u:Tok)(s:Shared)(Q:Value->Shared->Prop)(E:Value->Shared->Prop),Q (.int (g i j) s.toks) { s with toks:=s.toks+1 }->wpAny (model X.prog X.w) X.A (f (.int i t) (.int j u)) Q E s) :
  OpR X f (rI0 fun i j=>.int (g i j)):=by
 intro pins s σ H x y v u Q I rx ry h;obtain⟨i,j,rfl,rfl,q⟩:=h;obtain⟨t,rfl⟩:=rx;obtain⟨t',rfl⟩:=ry;exact rule i j t t' s _ _ ⟨.int (g i j),H,I.tok _,⟨_,rfl⟩,q⟩
def Rr{f:Value->Value->Sem Value}{g:Int->Int->Bool}
  (rule:∀(i j:Int)(t u:Tok)(s:Shared)(Q:Value->Shared->Prop)(E:Value->Shared->Prop),Q (.bool (g i j)) s->wpAny (model X.prog X.w) X.A (f (.int i t) (.int j u)) Q E s) :
  OpR X f (rI0 fun i j=>.bl (g i j)):=by
 intro pins s σ H x y v u Q I rx ry h;obtain⟨i,j,rfl,rfl,q⟩:=h;obtain⟨t,rfl⟩:=rx;obtain⟨t',rfl⟩:=ry;exact rule i j t t' s _ _ ⟨.bl (g i j),H,I,rfl,q⟩
def R0(i j:Int):Prop:=0<=j/\j<=1000000/\i.natAbs<2^64
def Ql(i j:Int):Prop:=(-(2^64)<i/\i<2^64)\/(-(2^64)<j/\j<2^64)
def Ql.ok(h:Ql i j):IntMulOk i j:=by
 rcases h with⟨h1,h2⟩ | ⟨h1,h2⟩
 ·exact .of_left (intBits_le_64 h1 h2)
 ·exact .of_right (intBits_le_64 h1 h2)
def fV:OpR X (binaryOp .Add) (rI0 fun i j=>.int (i+j)):=Ri fun _ _ _ _ _ _ _ q=>add_int q
def zQ:OpR X (binaryOp .Sub) (rI0 fun i j=>.int (i - j)):=Ri fun _ _ _ _ _ _ _ q=>sub_int q
def xG:OpR X (binaryOp .Mult) (rI Ql fun i j=>.int (i*j)):=opI fun _ _ _ _ _ _ _ hc q=>mul_int q hc.ok
def iu:OpR X (binaryOp .Mod) (rI (fun _ j=>0<j) fun i j=>.int (i%j)):=opI fun i j _ _ _ _ _ hc q=>by
 have h1:(0:Int)<j:=hc;exact mod_int' (by lia) (by rw[Int.fmod_eq_emod_of_nonneg i (by lia)];exact q)
def Jm:OpR X (binaryOp .Pow) (rI R0 fun i j=>.int (i^j.toNat)):=opI fun _ _ _ _ _ _ _ hc q=>pow_int_small hc.1 hc.2.1 hc.2.2 q
end
def Rt:V->V->Bool
 | .non,.non=>true | .non,.int _=>true | .int _,.non=>true | .non,.bl _=>true | .bl _,.non=>true | .non,.str _=>true | .str _,.non=>true
 | .int _,.int _=>true | .bl _,.bl _=>true | .str _,.str _=>true | .byt _,.byt _=>true
 | .int _,.str _=>true | .str _,.int _=>true | .bl _,.str _=>true | .str _,.bl _=>true
 | _,_=>false
def rEq:R2:=fun x y H Q=>Rt x y=true/\Q (.bl (decide (x=y))) H
def rNe:R2:=fun x y H Q=>Rt x y=true/\Q (.bl (!decide (x=y))) H
def BZ:decide (V.int i=V.int j)=(i == j):=by
 rw[Bool.eq_iff_iff];simp
def Jj:decide (V.bl i=V.bl j)=(i == j):=by
 rw[Bool.eq_iff_iff];simp
def zO:decide (V.str i=V.str j)=(i == j):=by
 rw[Bool.eq_iff_iff];simp
def Cp:decide (V.byt i=V.byt j)=(i.toList == j.toList):=by
 rw[Bool.eq_iff_iff];cases i;cases j;simp
section
variable {X:Cx}{a b c:Expr}{ta tb tc:TE}{pos:Pos}
def bQ(I:Inv X pins σ H s)(q:Q (.bl k) H)(e:k=k'):EP X pins σ Q (.bool k') s:=by
 subst e;exact⟨.bl k,H,I,rfl,q⟩
def iZ:OpR X (compareOp .Eq) rEq:=by
 intro pins s σ H x y v u Q I rx ry h;obtain⟨hs,q⟩:=h;cases x with
 | non =>
  cases rx;cases y with
  | non=>cases ry;exact PySem.EqNone.eq_none_none (bQ I q (by simp))
  | bl j=>cases ry;exact PySem.EqNone.eq_none_bool (bQ I q (by simp))
  | int j=>obtain⟨t',rfl⟩:=ry;exact PySem.EqNone.eq_none_int (bQ I q (by simp))
  | str j=>obtain⟨t',rfl⟩:=ry;exact PySem.EqNone.eq_none_str (bQ I q (by simp))
  | _=>exact absurd (show false=true from hs) Wz
 | bl i =>
  cases rx;cases y with
  | non=>cases ry;exact PySem.EqNone.eq_bool_none (bQ I q (by simp))
  | bl j=>cases ry;exact eq_bool (bQ I q Jj)
  | str j=>obtain⟨t',rfl⟩:=ry;exact PySem.EqMixed.eq_bool_str (bQ I q (by simp))
  | _=>exact absurd (show false=true from hs) Wz
 | int i =>
  obtain⟨t,rfl⟩:=rx;cases y with
  | non=>cases ry;exact PySem.EqNone.eq_int_none (bQ I q (by simp))
  | int j=>obtain⟨t',rfl⟩:=ry;exact eq_int (bQ I q BZ)
  | str j=>obtain⟨t',rfl⟩:=ry;exact PySem.EqMixed.eq_int_str (bQ I q (by simp))
  | _=>exact absurd (show false=true from hs) Wz
 | str i =>
  obtain⟨t,rfl⟩:=rx;cases y with
  | non=>cases ry;exact PySem.EqNone.eq_str_none (bQ I q (by simp))
  | bl j=>cases ry;exact PySem.EqMixed.eq_str_bool (bQ I q (by simp))
  | int j=>obtain⟨t',rfl⟩:=ry;exact PySem.EqMixed.eq_str_int (bQ I q (by simp))
  | str j=>obtain⟨t',rfl⟩:=ry;exact eq_str (bQ I q zO)
  | _=>exact absurd (show false=true from hs) Wz
 | byt i =>
  obtain⟨t,rfl⟩:=rx;cases y with
  | byt j=>obtain⟨t',rfl⟩:=ry;exact W.eq_bytes (bQ I q Cp)
  | _=>exact absurd (show false=true from hs) Wz
 | _=>cases y <;> exact absurd (show false=true from hs) Wz
def yK:OpR X (compareOp .NotEq) rNe:=by
 intro pins s σ H x y v u Q I rx ry h;obtain⟨hs,q⟩:=h;cases x with
 | non =>
  cases rx;cases y with
  | non=>cases ry;exact PySem.EqNone.ne_none_none (bQ I q (by simp))
  | bl j=>cases ry;exact PySem.EqNone.ne_none_bool (bQ I q (by simp))
  | int j=>obtain⟨t',rfl⟩:=ry;exact PySem.EqNone.ne_none_int (bQ I q (by simp))
  | str j=>obtain⟨t',rfl⟩:=ry;exact PySem.EqNone.ne_none_str (bQ I q (by simp))
  | _=>exact absurd (show false=true from hs) Wz
 | bl i =>
  cases rx;cases y with
  | non=>cases ry;exact PySem.EqNone.ne_bool_none (bQ I q (by simp))
  | bl j=>cases ry;exact ne_bool (bQ I q (congrArg not Jj))
  | str j=>obtain⟨t',rfl⟩:=ry;exact PySem.EqMixed.ne_bool_str (bQ I q (by simp))
  | _=>exact absurd (show false=true from hs) Wz
 | int i =>
  obtain⟨t,rfl⟩:=rx;cases y with
  | non=>cases ry;exact PySem.EqNone.ne_int_none (bQ I q (by simp))
  | int j=>obtain⟨t',rfl⟩:=ry;exact ne_int (bQ I q (congrArg not BZ))
  | str j=>obtain⟨t',rfl⟩:=ry;exact PySem.EqMixed.ne_int_str (bQ I q (by simp))
  | _=>exact absurd (show false=true from hs) Wz
 | str i =>
  obtain⟨t,rfl⟩:=rx;cases y with
  | non=>cases ry;exact PySem.EqNone.ne_str_none (bQ I q (by simp))
  | bl j=>cases ry;exact PySem.EqMixed.ne_str_bool (bQ I q (by simp))
  | int j=>obtain⟨t',rfl⟩:=ry;exact PySem.EqMixed.ne_str_int (bQ I q (by simp))
  | str j=>obtain⟨t',rfl⟩:=ry;exact ne_str (bQ I q (congrArg not zO))
  | _=>exact absurd (show false=true from hs) Wz
 | byt i =>
  obtain⟨t,rfl⟩:=rx;cases y with
  | byt j=>obtain⟨t',rfl⟩:=ry;exact W.ne_bytes (bQ I q (congrArg not Cp))
  | _=>exact absurd (show false=true from hs) Wz
 | _=>cases y <;> exact absurd (show false=true from hs) Wz
def Kp:OpR X (compareOp .Gt) (rI0 fun i j=>.bl (decide (j<i))):=Rr fun _ _ _ _ _ _ _ q=>gt_int q
def QC:OpR X (compareOp .GtE) (rI0 fun i j=>.bl (decide (j<=i))):=Rr fun _ _ _ _ _ _ _ q=>ge_int q
def nZ:OpR X (compareOp .Is) (fun x y H Q=>y=.non/\Q (.bl (decide (x=.non))) H):=by
 intro pins s σ H x y v u Q I rx ry h;obtain⟨rfl,q⟩:=h;cases ry;refine is_none_gen (bQ I q ?_);cases x <;> first
  | (cases rx;rfl)
  | (obtain⟨t,rfl⟩:=rx;rfl)
def qm:OpR X (compareOp .IsNot) (fun x y H Q=>y=.non/\Q (.bl (!decide (x=.non))) H):=by
 intro pins s σ H x y v u Q I rx ry h;obtain⟨rfl,q⟩:=h;cases ry;refine isnot_none_gen (bQ I q ?_);cases x <;> first
  | (cases rx;rfl)
  | (obtain⟨t,rfl⟩:=rx;rfl)
def bA(b:Expr)(h:op≠.In:=by decide)(h2:op≠.NotIn:=by decide):behindInMarks op b=false:=by
 have e1:(op == CmpOp.In)=false:=by cases op <;> first | rfl | exact absurd rfl h
 have e2:(op == CmpOp.NotIn)=false:=by cases op <;> first | rfl | exact absurd rfl h2
 cases b <;> simp[behindInMarks,e1,e2]
def qp(ho:OpR X (compareOp op) r)(ha:PE X a ta)(hb:PE X b tb)(hm:behindInMarks op b=false):PE X (.Compare a [op] [b] pos) (tOp r ta tb):=by
 intro pins s σ H Q I h;exact wpAny_Compare1 (Qj ha hb I h fun v u s2 x y H2 I2 rx ry q=>ho pins s2 σ H2 x y v u Q I2 rx ry q) hm
def P0(t:TE):TT:=fun σ H Q=>t σ H fun x H'=>∃ k,x=.bl k/\Q k H'
def aO(ho:OpR X (compareOp op) r)(ha:PE X a ta)(hb:PE X b tb)(hm:behindInMarks op b=false):PT X (.Compare a [op] [b] pos) (P0 (tOp r ta tb)):=by
 intro pins s σ H Q I h;refine wpAny_isTrue_Compare1 (thn (ha pins s σ H _ I h) fun v s1 ⟨x,H1,I1,r1,q1⟩=>thn (hb pins s1 σ H1 _ I1 q1) fun u s2 ⟨y,H2,I2,r2,q2⟩ =>
  thn (ho pins s2 σ H2 x y v u _ I2 r1 r2 q2) fun c s3 ⟨z,H3,I3,r3,k,e,q3⟩=>?_) hm
 subst e;cases r3;exact wpAny_truthy_bool ⟨H3,I3,q3⟩
def sX:(sizeLine:Nat)<2^63:=by rw[sizeLine_eq];decide
def dD:OpR X (binaryOp .Add) (fun x y H Q=>∃ i j,x=.str i/\y=.str j/\i.length+j.length<=sizeLine/\Q (.str (i++j)) H):=by
 intro pins s σ H x y v u Q I rx ry h;obtain⟨i,j,rfl,rfl,hz,q⟩:=h;obtain⟨t,rfl⟩:=rx;obtain⟨t',rfl⟩:=ry;exact add_str (fun t' tk=>⟨.str (i++j),H,I.tok _,⟨_,rfl⟩,q⟩) hz
def vals1(r:Vals [x] us):∃ u,us=[u]/\RelV x u:=by
 cases r with
 | cons r1 r2=>cases r2;exact⟨_,rfl,r1⟩
def vals2(r:Vals [x,y] us):∃ u w',us=[u,w']/\RelV x u/\RelV y w':=by
 cases r with
 | cons r1 r2 =>
  cases r2 with
  | cons r3 r4=>cases r4;exact⟨_,_,rfl,r1,r3⟩
def DQ(hc:X.calm=true):fP X (.builtin "min") (fun xs H Q=>∃ i j,xs=[.int i,.int j]/\Q (.int (if j<i then j else i)) H):=by
 intro pins s σ H xs us Q I r h;obtain⟨i,j,rfl,q⟩:=h;obtain⟨u,w',rfl,⟨t,rfl⟩,⟨t',rfl⟩⟩:=vals2 r;refine min_two_ints (I.ok.hd hc) fun h' tk k=>⟨_,H,I.kept k,?_,q⟩
 by_cases hj:j<i
 ·rw[if_pos hj,if_pos hj];exact⟨_,rfl⟩
 ·rw[if_neg hj,if_neg hj];exact⟨_,rfl⟩
def nJ:fP X (.type "int") (fun xs H Q=>(∃ i,xs=[.int i]/\Q (.int i) H)\/∃ k,xs=[.bl k]/\Q (.int (if k then 1 else 0)) H):=by
 intro pins s σ H xs us Q I r h;rcases h with⟨i,rfl,q⟩ | ⟨k,rfl,q⟩
 ·obtain⟨u,rfl,t,rfl⟩:=vals1 r;exact call_int_int ⟨.int i,H,I,⟨_,rfl⟩,q⟩
 ·obtain⟨u,rfl,r1⟩:=vals1 r;cases r1;exact call_int_bool ⟨.int (if k then 1 else 0),H,I.tok _,⟨_,rfl⟩,q⟩
end
structure QJ(h:Heap)(x dx C:Addr)(mA:Str->Option Value):Prop where
 obj:h.get? x=some (W.instObj C dx)
 ns:h.Ns1 dx mA
 ne:dx≠x
def zN{h:Heap}{dx:Addr}{mA:Str->Option Value}(n:h.Ns1 dx mA):∃ od,h.get? dx=some od/\∀ name,W.lookIn name od=some (mA name):=by
 obtain⟨o,es,ep,ho,hd,hk,_,hm⟩:=n;refine⟨o,ho,fun name=>?_⟩;have e:=hm name;unfold nsFind findBy at e;rw[← Array.find?_toList] at e;unfold W.lookIn;rw[hd];dsimp only;split
 ·rename_i y q;rw[q] at e;exact congrArg some e
 ·rename_i q;rw[q] at e;have a:es.toList.any (·.refKey)=false:=by
   rw[List.any_eq_false];intro y hy;obtain⟨z,t,hkey⟩:=hk y (Array.mem_toList_iff.mp hy);simp[DictEntry.refKey,hkey]
  have a':¬ es.toList.any (·.refKey)=true:=by rw[a];exact Wz
  rw[if_neg a'];exact congrArg some e
def QJ.look{mA:Str->Option Value}(I:QJ h x dx C mA):∃ od,W.InstAt h x (W.instObj C dx) C (some od)/\∀ name,W.lookIn name od=some (mA name) :=
 let ⟨od,ho,hl⟩:=zN I.ns
 ⟨od,⟨I.obj,rfl,rfl,ho⟩,hl⟩
section
variable {prog:Program}{w:World}{A:Around}{E:Value->Shared->Prop}{s:Shared}{K:W.Frag}{x dx C f:Addr}{mA:Str->Option Value}{name:Str}{v:Value}
end
def zW.some_of(r:zW (some v) o):∃ u,o=some u/\RelV v u:=by
 cases o with
 | none=>exact(show False from r).elim
 | some u=>exact⟨u,rfl,r⟩
section
variable {P:Program}{w:World}{H H':Hp}{h h':Heap}{a C dx:Addr}{fs fs':List (Str × V)}
def Kg(hok:HOk P w H h)(e:H a=some (.ins C dx fs)):∃ mA,QJ h a dx C mA/\(∀ f,zW (fs.lookup f) (mA f))/\PySem.Within mA (fs.map (·.1))/\fs.length<=1000/\H dx=some (.own a):=by
 obtain⟨d,z,ne,ob,mA,n,r,q⟩:=(show cM P w H h a (.ins C dx fs) from hok a _ e)
 exact⟨mA,⟨ob,n,ne⟩,r,q,z,d⟩
end
structure Cls(K:W.Frag)(C:Addr):Prop where
 pg:W.plainGet K C Str.empty=true
 hd:W.hasDictIn K C=true
 po:W.plainOver K C=true
 sa:W.findIn K (.ref C) "__setattr__" = some (some (.builtin "object.__setattr__"))
def Cls.get{K:W.Frag}{C:Addr}(c:Cls K C)(f:Str):W.plainGet K C f=true:=c.pg
section
variable {X:Cx}{pins:List (Addr × Obj)}{σ:St}{H:Hp}{s:Shared}{a C dx:Addr}{fs:List (Str × V)}{f:Str}{v:V}{A:Around}{E:Value->Shared->Prop}
variable {Q:Value->Shared->Prop}{c:Value}{b:Bool}
inductive yS(K:W.Frag)(H:Hp):V->Value->Prop where
 | non:yS K H .non (.type "NoneType")
 | bl (x:Bool):yS K H (.bl x) (.type "bool")
 | int (i:Int):yS K H (.int i) (.type "int")
 | str (x:Str):yS K H (.str x) (.type "str")
 | flt (x:UInt64):yS K H (.flt x) (.type "float")
 | lst {a:Addr}{xs:List V} (e:H a=some (.lst xs)):yS K H (.ref a) (.type "list")
 | frz {a:Addr}{o:Obj}{xs:List V} (e:H a=some (.frz o (.lst xs))):yS K H (.ref a) (.type "list")
 | tup {a:Addr}{xs:List V} (e:H a=some (.tup xs)):yS K H (.ref a) (.type "tuple")
 | dK {a:Addr}{kvs:List (Key × V)} (e:H a=some (.dK kvs)):yS K H (.ref a) (.type "dict")
 | dT {a:Addr}{kvs:List (List Key × V)} (e:H a=some (.dT kvs)):yS K H (.ref a) (.type "dict")
 | ins {a C dx:Addr}{fs:List (Str × V)} (e:H a=some (.ins C dx fs)) (cl:Cls K C) (ha:W.findIn K (.ref C) "__class__" = some (some (.builtin "object.__class__")))
   (hn:W.specialIn K (.builtin "object.__class__") "__get__" = some (some (.builtin "getset_descriptor.__get__"))) (htk:W.takesIn K (.builtin "object.__class__")=some true)
   (hm:W.mroIn K C (.type "object")=some true):yS K H (.ref a) (.ref C)
def Cz(I:Inv X pins σ H s)(rx:RelV x u)(ty:yS X.K H x t)(e:W.kitOne X.K t c=some b)(h:∀ tk,Q (.bool b) { s with toks:=tk }) :
  wpAny (model X.prog X.w) A (call (.builtin "isinstance") [u,c]) Q E s:=by
 cases ty with
 | non=>cases(show u=Value.none from rx);exact W.kia_one W.kitx_none I.kIn True.intro e (fun z=>nomatch z) h
 | bl y=>cases(show u=Value.bool y from rx);exact W.kia_one W.kitx_bool I.kIn True.intro e (fun z=>nomatch z) h
 | int i=>obtain⟨t,q⟩:=(show ∃ t,u=Value.int i t from rx);cases q;exact W.kia_one W.kitx_int I.kIn True.intro e (fun z=>nomatch z) h
 | str y=>obtain⟨t,q⟩:=(show ∃ t,u=Value.str y t from rx);cases q;exact W.kia_one W.kitx_str I.kIn True.intro e (fun z=>nomatch z) h
 | flt y=>obtain⟨t,q⟩:=(show ∃ t,u=Value.float y t from rx);cases q;exact W.kia_one W.kitx_float I.kIn True.intro e (fun z=>nomatch z) h
 | @lst a xs ea =>
  cases(show u=Value.ref a from rx);obtain⟨_,_,n,_,h1⟩:=(show cM X.prog X.w H s.heap a (.lst xs) from I.hok a _ ea)
  exact W.kia_one W.kitx_list I.kIn ⟨_,h1,rfl⟩ e (fun z=>nomatch z) h
 | @frz a ob xs ea =>
  cases(show u=Value.ref a from rx);obtain⟨_,_,_,n,_,h1⟩:=(show cM X.prog X.w H s.heap a (.frz ob (.lst xs)) from I.hok a _ ea)
  exact W.kia_one W.kitx_list I.kIn ⟨_,h1,rfl⟩ e (fun z=>nomatch z) h
 | @tup a xs ea =>
  cases(show u=Value.ref a from rx);obtain⟨_,_,_,p⟩:=(show cM X.prog X.w H s.heap a (.tup xs) from I.hok a _ ea)
  obtain⟨o,h1,h2,_⟩:=p;exact W.kia_one W.kitx_tuple I.kIn ⟨o,h1,h2⟩ e (fun z=>nomatch z) h
 | @dK a kvs ea =>
  cases(show u=Value.ref a from rx);obtain⟨_,_,vs,_,p⟩:=(show cM X.prog X.w H s.heap a (.dK kvs) from I.hok a _ ea)
  obtain⟨o,es,ep,h1,h2,_⟩:=p;exact W.kia_one W.kitx_dict I.kIn ⟨o,h1,h2.1⟩ e (fun z=>nomatch z) h
 | @dT a kvs ea =>
  cases(show u=Value.ref a from rx);obtain⟨_,_,xs,_,o,es,ep,h1,h2,_⟩:=(show cM X.prog X.w H s.heap a (.dT kvs) from I.hok a _ ea)
  exact W.kia_one W.kitx_dict I.kIn ⟨o,h1,h2.1⟩ e (fun z=>nomatch z) h
 | @ins a C dx fs ea cl ha hn htk hm =>
  cases(show u=Value.ref a from rx);obtain⟨mA,O,_⟩:=Kg I.hok ea;obtain⟨od,J,_⟩:=O.look;exact W.kia_one (W.kitx_own (cl.get _) cl.hd ha hn htk hm) I.kIn J e (fun z=>nomatch z) h
end
structure kY(k:Nat)(A:Around):Prop where
 hd:A.handled=none
 dp:A.depth+3*k+5<recursionLimit
 un:A.units+16*k+200<cLine
def kY.mono(r:kY k A)(h:j<=k):kY j A:=⟨r.hd,by have:=r.dp;lia,by have:=r.un;lia⟩
def kY.deeper(r:kY (k+1) A)(env:Env):kY k (A.deeper env) :=
 ⟨r.hd,by have:=r.dp;show A.depth+1+3*k+5<_;lia,by have:=r.un;show A.units+3+16*k+200<_;lia⟩
def kY.depth(r:kY k A):A.depth<recursionLimit:=by have:=r.dp;lia
def kY.units(r:kY k A):A.units+64<cLine:=by have:=r.un;lia
def kY.units0(r:kY k A):A.units<cLine:=by have:=r.un;lia
def Q8:TA:=fun _ H Q=>Q [] H
def BL(ta:TE)(tr:TA):TA:=fun σ H Q=>ta σ H fun x H1=>tr σ H1 fun xs H2=>Q (x::xs) H2
section
variable {X:Cx}{e:Expr}{es:List Expr}{te:TE}{t:TA}{pos:Pos}
def aq:PA X [] Q8:=fun _ _ _ _ H Q I h=>Calls.spliced_nil ⟨[],H,I,.nil,h⟩
def aj(ha:PE X e te)(hr:PA X es t)(hs:starEach (e::es) X.env=(false,eval e X.env)::starEach es X.env:=by rfl):PA X (e::es) (BL te t):=by
 intro pos pins s σ H Q I h;rw[hs];show wpAny _ _ (spliced ((false,eval e X.env)::backTo pos (starEach es X.env))) _ _ s;refine Calls.spliced_cons (thn (ha pins s σ H _ I h) fun u s1 ⟨x,H1,I1,r1,q1⟩=>?_);exact thn (hr pos pins s1 σ H1 _ I1 q1) fun us s2 ⟨xs,H2,I2,r2,q2⟩=>⟨x::xs,H2,I2,.cons r1 r2,q2⟩
def RX(t:TA):TE:=fun σ H Q=>t σ H fun xs H1=>xs.length<=sizeLine/\∀ p,H1 p=none->Q (.ref p) (upd H1 p (.tup xs))
def Rw(t:TA):TE:=fun σ H Q=>t σ H fun xs H1=>xs.length<=sizeLine/\∀ p,H1 p=none->Q (.ref p) (upd H1 p (.lst xs))
def cu{x1}(h:PA X es t):PE X (.Tuple es x1 pos) (RX t):=by
 intro pins s σ H Q I hq;refine wpAny_Tuple_spliced (thn (h pos pins s σ H _ I hq) fun us s1 ⟨xs,H1,I1,r,z,q⟩=>⟨by rw[← r.length];exact z,?_⟩);have hf:H1 s1.heap.objs.size=none:=I1.hok.fresh (Wu _);refine⟨.ref s1.heap.objs.size,upd H1 s1.heap.objs.size (.tup xs),I1.laid (t':=s1.toks) (fun b u e=>Ws _ e) (Wu _) ?_,rfl,q _ hf⟩;exact⟨z,us,r,⟨_,Wy _ rfl,rfl,_,rfl⟩⟩
def bR(h:PA X es t):PE X (.List es pos) (Rw t):=by
 intro pins s σ H Q I hq;refine wpAny_List_spliced (thn (h pos pins s σ H _ I hq) fun us s1 ⟨xs,H1,I1,r,z,q⟩=>⟨by rw[← r.length];exact z,?_⟩);have hf:H1 s1.heap.objs.size=none:=I1.hok.fresh (Wu _);refine⟨.ref s1.heap.objs.size,upd H1 s1.heap.objs.size (.lst xs),I1.laid (t':=s1.toks) (fun b u e=>Ws _ e) (Wu _) ?_,rfl,q _ hf⟩;exact⟨z,us,0,r,Wy _ rfl⟩
end
abbrev Sp:=List V->Hp->VK->XK->Prop
abbrev CXT:=List Env->Hp->Shared->XK->Value->Shared->Prop
structure PN(P:Program)(w:World)(K:W.Frag)(mg:Str->Option Value)(base:Heap)(A:Around)(outer:List Env)(s:Shared)(H:Hp):Prop where
 frames:A.frames=some outer
 mod:Mod K mg base
 bs:∀ b o,base.get? b=some o->s.heap.get? b=some o/\H b=none
 bsz:base.objs.size<=s.heap.objs.size
 funs:s.heap.FunFrames base outer
 frf:∀ b∈frs outer,H b=none
 hok:HOk P w H s.heap
 bare:AllBare s.gens
def CE(outer:List Env)(P:Program)(w:World)(H:Hp)(s:Shared)(Q:VK)(u:Value)(s':Shared):Prop :=
 ∃ v H',s'.os=s.os/\AllBare s'.gens/\Un (frs outer) [] H H' s.heap s'.heap/\HOk P w H' s'.heap/\RelV v u/\Q v H'
def CR(CX:CXT)(outer:List Env)(P:Program)(w:World)(H:Hp)(s:Shared)(Q:VK)(E:XK)(r:Result)(s':Shared):Prop :=
 match r with
 | .ok (.ret u)=>CE outer P w H s Q u s'
 | .ok _=>False
 | .error e=>CX outer H s E e s'
structure qR(P:Program)(w:World)(K:W.Frag)(mg:Str->Option Value)(base:Heap)(CX:CXT)(k:Nat)(f:Addr)(fd:FuncData)(ps:List Str)(sp:Sp):Prop where
 len:∀ vs H Q E,sp vs H Q E->vs.length=ps.length
 run:∀(A:Around)(outer:List Env)(s:Shared)(H:Hp)(args:Args)(us:List Value)(vs:List V)(Q:VK)(E:XK),kY k A->PN P w K mg base A outer s H->BindsTo s fd args (ps.zip us)->Vals vs us->sp vs H Q E ->
  codeAny (model P w) A (.call (.ref f) args) (CR CX outer P w H s Q E) s
def qR.mono{P:Program}{w:World}{K:W.Frag}{mg:Str->Option Value}{base:Heap}{CX:CXT}{j k:Nat}{f:Addr}{fd:FuncData}{ps:List Str}{sp:Sp}(F:qR P w K mg base CX j f fd ps sp)(h:j<=k) :
  qR P w K mg base CX k f fd ps sp:=⟨F.len,fun A outer s H args us vs Q E hr=>F.run A outer s H args us vs Q E (hr.mono h)⟩
section
variable {X:Cx}{pins:List (Addr × Obj)}{σ:St}{H:Hp}{s s':Shared}
def Inv.env0(I:Inv X pins σ H s):PN X.prog X.w X.K X.mg X.base X.A X.stack s H :=
 ⟨I.ok.frames,I.ok.mod,I.bs,W7 I.ok.bsz I.sz,I.stack,I.stkFree,I.hok,I.bare⟩
def Inv.after(I:Inv X pins σ H s)(h:CE X.stack X.prog X.w H s Q u s'):EP X pins σ Q u s':=by
 obtain⟨v,H',os,bare,un,hok,r,q⟩:=h;obtain⟨hh,g,d,t,os'⟩:=s';obtain rfl:os'=s.os:=os;exact⟨v,H',I.call (h':=hh) (g':=g) (d':=d) (t':=t) (ch:=[]) un hok bare (fun b z=>absurd z (by simp)),r,q⟩
end
def JQ(sp:Sp)(dvs:List V)(E:XK)(t:TA):TE:=fun σ H Q=>t σ H fun vs H1=>sp (vs++dvs) H1 Q E
def Binds(K:W.Frag)(fd:FuncData)(ps:List Str)(ds:List Value):Prop :=
 ∀(s:Shared)(us:List Value),K.In s.heap->(us++ds).length=ps.length->BindsTo s fd ⟨us,[]⟩ (ps.zip (us++ds))
def Binds.all{K:W.Frag}{fd:FuncData}{ps:List Str}(h:∀ us:List Value,us.length=ps.length->bindArgs fd ⟨us,[]⟩=pure (ps.zip us)):Binds K fd ps []:=fun s us _ hl=>by
 rw[append_nil] at hl ⊢;exact .of_eq (h us hl)
def Passes(CX:CXT)(X:Cx)(E:XK):Prop:=∀(pins:List (Addr × Obj))(σ:St)(H:Hp)(s:Shared)(e:Value)(s':Shared),Inv X pins σ H s->CX X.stack H s E e s'->X.xe e s'
section
variable {X:Cx}{CX:CXT}{k:Nat}{f C:Addr}{fd:FuncData}{ps:List Str}{sp:Sp}{dvs:List V}{ds:List Value}{E:XK}{x m:Str}{p pos apos:Pos}{e o:Expr}{es:List Expr}{ta:TE}{t:TA}
def Ou(F:qR X.prog X.w X.K X.mg X.base CX k f fd ps sp)(hr:kY k X.A)(hb:Binds X.K fd ps ds)(hd:Vals dvs ds)(hx:Passes CX X E)
  (I:Inv X pins σ H s)(r:Vals vs us)(h:sp (vs++dvs) H Q E):wpAny (model X.prog X.w) X.A (call (.ref f) us) (EP X pins σ Q) X.xe s:=by
 have r2:Vals (vs++dvs) (us++ds):=r.append hd;have hl:(us++ds).length=ps.length:=by rw[← r2.length];exact F.len _ _ _ _ h
 refine wpAny_call (codeAny_mono (F.run X.A X.stack s H ⟨us,[]⟩ (us++ds) (vs++dvs) Q E hr I.env0 (hb s us I.kIn hl) r2 h) fun r s' hq=>?_);cases r with
 | error e=>exact hx pins σ H s e s' I hq
 | ok fl =>
  cases fl with
  | ret u=>exact I.after hq
  | next=>exact False.elim hq
  | brk=>exact False.elim hq
  | cont=>exact False.elim hq
def Ls(F:qR X.prog X.w X.K X.mg X.base CX k f fd ps sp)(hr:kY k X.A)(hg:Gl X x)(hm:X.mg x=some (.ref f))(hk:W.keepIn X.K (.ref f)=true)(hb:Binds X.K fd ps ds)(hd:Vals dvs ds)(hx:Passes CX X E)
  (ha:PA X (e::es) t)(hdb:(x == ("__debug__" : Str))=false:=by decide)(he:starEach (e::es) X.env=(false,eval e X.env)::starEach es X.env:=by rfl)(hpl:(backTo pos (starEach es X.env)).any (·.1)=false:=by rfl) :
  PE X (.Call (.Name x p) (e::es) [] pos) (JQ sp dvs E t):=by
 intro pins s σ H Q I h;refine wpAny_Call_Name_kw (nY I hg hm ?_ hdb);refine W.callWith_K (h₀:=X.base) I.ok.mod.kin hk (thn (ha pos pins s σ H _ I h) fun us s1 ⟨vs,H1,I1,r,q⟩=>⟨I1.kIn,?_⟩) he hpl;exact Ou F hr hb hd hx I1 r q
end
structure aR(N P:List Str)(sc:Scope):Prop where
 kind:sc.kind=.function
 co:sc.isCoroutine=false
 gen:sc.isGenerator=false
 nd:N.Nodup
 pre:N.take P.length=P
 par:∀ x∈P,sc.names.lookup x=some .local\/sc.names.lookup x=some .cell
 nofree:∀ y∈sc.names,y.2≠.free
theorem sJ{kindOf:Str->Option NameKind}:∀ {binds:List (Str × Value)}{m:Str->Option Value},(∀ v,(x,v) ∉ binds)->bindL kindOf binds m x=m x
 | [],_,_=>rfl
 | (n,v)::r,m,h=>by
  unfold bindL;rw[sJ fun w hw=>h w (WR _ hw)];split
  ·have:x≠n:=by rintro rfl;exact h v WQ
   simp[this]
  ·rfl
theorem uw{kindOf:Str->Option NameKind}:∀ {binds:List (Str × Value)}{m:Str->Option Value},(∀ v,(x,v) ∉ binds)->bindC kindOf binds m x=m x
 | [],_,_=>rfl
 | (n,v)::r,m,h=>by
  unfold bindC;rw[uw fun w hw=>h w (WR _ hw)];split
  ·rfl
  ·have:x≠n:=by rintro rfl;exact h v WQ
   simp[this]
theorem sZ{kindOf:Str->Option NameKind}:∀ {P:List Str}{vs:List Value}{i:Nat}{m:Str->Option Value},P.Nodup->P[i]?=some x->vs[i]?=some v->kindOf x=some .local ->
  bindL kindOf (P.zip vs) m x=some v
 | [],_,_,_,_,h,_,_=>by simp at h
 | _::_,[],_,_,_,_,h,_=>by simp at h
 | p::P,w::vs,0,m,nd,h1,h2,hk=>by
  simp at h1 h2;subst h1;subst h2;show bindL kindOf ((p,w)::P.zip vs) m p=_;unfold bindL;rw[sJ fun v hv=>(nodup_cons.mp nd).1 (of_mem_zip hv).1,if_pos hk];simp
 | p::P,w::vs,i+1,m,nd,h1,h2,hk=>by
  show bindL kindOf ((p,w)::P.zip vs) m x=_;unfold bindL;exact sZ (i:=i) (nodup_cons.mp nd).2 (by simpa using h1) (by simpa using h2) hk
theorem uf{kindOf:Str->Option NameKind}:∀ {P:List Str}{vs:List Value}{i:Nat}{m:Str->Option Value},P.Nodup->P[i]?=some x->vs[i]?=some v->kindOf x≠some .local ->
  bindC kindOf (P.zip vs) m x=some v
 | [],_,_,_,_,h,_,_=>by simp at h
 | _::_,[],_,_,_,_,h,_=>by simp at h
 | p::P,w::vs,0,m,nd,h1,h2,hk=>by
  simp at h1 h2;subst h1;subst h2;show bindC kindOf ((p,w)::P.zip vs) m p=_;unfold bindC;rw[uw fun v hv=>(nodup_cons.mp nd).1 (of_mem_zip hv).1,if_neg hk];simp
 | p::P,w::vs,i+1,m,nd,h1,h2,hk=>by
  show bindC kindOf ((p,w)::P.zip vs) m x=_;unfold bindC;exact uf (i:=i) (nodup_cons.mp nd).2 (by simpa using h1) (by simpa using h2) hk
def start(N:List Str)(vs:List V):St:=vs.map some++List.replicate (N.length - vs.length) none
def yE(CX:CXT)(P:Program)(w:World)(K:W.Frag)(mg:Str->Option Value)(base:Heap)(N:List Str)(qual:Str)(scope:Scope)(f:Addr)(cd:Value)(A:Around)(outer:List Env)(s:Shared)(H:Hp)(E:XK):Cx where
 prog:=P
 w:=w
 K:=K
 mg:=mg
 base:=base
 A:=A.deeper (envOfC qual scope s.heap.objs.size f cd)
 N:=N
 s₀:=s
 H₀:=H
 env:=envOfC qual scope s.heap.objs.size f cd
 outer:=outer
 stack:=envOfC qual scope s.heap.objs.size f cd::outer
 ex:=[]
 calm:=true
 fn:=fun _=>true
 pn:=[]
 xe:=fun e s'=>wpAny (model P w) (A.deeper (envOfC qual scope s.heap.objs.size f cd)) (leaving (envOfC qual scope s.heap.objs.size f cd) e) (fun _ s''=>CX outer H s E e s'') (fun e' s''=>CX outer H s E e' s'') s'
def xR{sc:Scope}{n:Nat}{x:Str}(h:sc.names.lookup x=some .cell):∃ c,(cellsFrom n sc.names []).lookup x=some c:=by
 have q:=W.cellsFrom_some sc.names n [] (.inl h);exact Option.isSome_iff_exists.mp q
def Ef{CX:CXT}{P:Program}{w:World}{K:W.Frag}{mg:Str->Option Value}{base:Heap}{N ps:List Str}{qual:Str}{scope:Scope}{f:Addr}{cd:Value}{A:Around}{outer:List Env}{s s1:Shared}{H:Hp}{E:XK}{us:List Value}{vs:List V}
  (S:aR N ps scope)(hd:A.handled=none)(e0:PN P w K mg base A outer s H)(hl:vs.length=ps.length)(r:Vals vs us)
  (x:InCallC s s.heap.objs.size (bindL (envOfC qual scope s.heap.objs.size f cd).kindOf (ps.zip us) fun _=>none) (cellsFrom (s.heap.objs.size+1) scope.names []) (bindC (envOfC qual scope s.heap.objs.size f cd).kindOf (ps.zip us) fun _=>none) s1) :
  Inv (yE CX P w K mg base N qual scope f cd A outer s H E) [] (start N vs) H s1:=by
 have hpl:ps.length<=N.length:=by have:=congrArg List.length S.pre;rw[length_take] at this;lia
 obtain⟨h1,tk,rfl,hk⟩:=x.done;have noA:∀ b:Addr,b ∉ (yE CX P w K mg base N qual scope f cd A outer s H E).ex:=fun b z=>absurd (show b∈([]:List Addr) from z) (by simp)
 refine⟨⟨e0.mod,S.kind,rfl,rfl,Wu _,fun y z c h1 h2=>?_,fun y hy=>?_,fun y c _ h=>?_,fun _=>hd,Around.frames_deeper e0.frames,.inr ⟨rfl,rfl⟩,fun b z=>absurd z (noA b),e0.bs,e0.bsz,fun b _ _=>noA b,fun b z=>absurd z (noA b),e0.funs,e0.frf⟩,
  rfl,e0.bare,Un.kept hk,⟨_,x.toInCall.ns,fun i y v h1 h2 h3=>?_⟩,fun y c h=>⟨_,x.cell y c h⟩,e0.hok.fresh (Wu _),fun y c h=>?_,fun p hp=>absurd (show p∈([]:List (Addr × Obj)) from hp) (by simp),e0.hok.kept hk,?_⟩
 ·exact name_of_addr x.apart (PySem.mem_of_lookup h1) (PySem.mem_of_lookup h2)
 ·have hy:scope.names.lookup y=some .cell\/scope.names.lookup y=some .free:=hy;rcases hy with hy | hy
  ·exact xR hy
  ·exact absurd rfl (S.nofree _ (PySem.mem_of_lookup hy))
 ·exact Nat.le_of_lt (x.above y c (PySem.mem_of_lookup h))
 ·have hi:i<vs.length:=by
   unfold start at h2;by_cases hi:i<vs.length
   ·exact hi
   ·rw[getElem?_append_right (by simpa using hi)] at h2;rw[List.getElem?_replicate] at h2;split at h2 <;> cases h2
  have ha:vs[i]?=some v:=by
   unfold start at h2;rw[getElem?_append_left (by simpa using hi),W8] at h2;cases e:vs[i]? with
   | none=>rw[e] at h2;cases h2
   | some a=>rw[e] at h2;cases h2;rfl
  obtain⟨u,hu,rv⟩:=r.get ha;have hp:ps[i]?=some y:=by
   rw[← S.pre,List.getElem?_take_of_lt (by lia)];exact h1
  have ndP:ps.Nodup:=by rw[← S.pre];exact S.nd.sublist (List.take_sublist _ _)
  refine⟨u,rv,?_⟩;rcases S.par y (W2 hp) with k | k
  ·exact .inl ⟨k,sZ ndP hp hu k⟩
  ·obtain⟨c,e⟩:=xR (n:=s.heap.objs.size+1) k;refine .inr ⟨.inl k,c,e,?_⟩;have q:=x.cell y c e;rw[uf ndP hp hu (by show scope.names.lookup y≠_;rw[k];decide)] at q;exact q
 ·exact e0.hok.fresh (Nat.le_of_lt (x.above y c (PySem.mem_of_lookup h)))
 ·unfold start;show _=N.length;rw[W0,Xa,length_replicate];lia
def Og{CX:CXT}{P:Program}{w:World}{K:W.Frag}{mg:Str->Option Value}{base:Heap}{k:Nat}{f:Addr}{name qual:Str}{params:Arguments}{body:List Stmt}{scope:Scope}{dV kV doc pm cdv ct oc:Value}{an od:Option Addr}
  {osl:Array (Option Value)}{N ps:List Str}{sp:Sp}(lk:K.lookup f=some ⟨oc,od,.func (W.fnOf name qual params body scope dV kV doc pm an cdv ct),osl⟩)(hcd:W.codeIn K cdv qual=true)(S:aR N ps scope)
  (len:∀ vs H Q E,sp vs H Q E->vs.length=ps.length)
  (hbody:∀(A:Around)(outer:List Env)(s:Shared)(H:Hp)(vs:List V)(Q:VK)(E:XK),kY k (A.deeper (envOfC qual scope s.heap.objs.size f cdv))->sp vs H Q E ->
   ∃ t,PSs (yE CX P w K mg base N qual scope f cdv A outer s H E) body t/\t { nx:=fun _ H'=>Q .non H',rt:=Q } (start N vs) H) :
  qR P w K mg base CX (k+1) f (W.fnOf name qual params body scope dV kV doc pm an cdv ct) ps sp:=by
 refine⟨len,fun A outer s H args us vs Q E hr e0 hb r hsp=>?_⟩;have hl:=len _ _ _ _ hsp;have KX:K.In s.heap:=e0.mod.kin.keeps fun b o e=>(e0.bs b o e).1
 have lim:s.heap.NoLimit:=e0.mod.nolimit.keeps fun b o e=>(e0.bs b o e).1
 have hkind:∀ y∈ps.zip us,scope.names.lookup y.1=some .local\/(scope.names.lookup y.1=some .cell/\((cellsFrom (s.heap.objs.size+1) scope.names []).lookup y.1).isSome=true):=fun⟨n,v⟩ hy=>by
  rcases S.par n (of_mem_zip hy).1 with q | q
  ·exact .inl q
  ·exact .inr ⟨q,W.cellsFrom_some _ _ _ (.inl q)⟩
 refine codeAny_call_function hr.depth (KX _ _ lk) rfl S.co S.gen rfl (W.codeRec_of KX hcd) (hb _ _ _ _ ?_);refine wpAny_newFunctionEnv_cells S.kind hkind fun env he s1 x=>?_
 subst he;refine⟨lim.keeps x.toInCall.keep,codeAny_func ?_⟩;obtain⟨t,ht,hq⟩:=hbody A outer s H vs Q E (hr.deeper _) hsp;have I:Inv (yE CX P w K mg base N qual scope f cdv A outer s H E) [] (start N vs) H s1:=Ef S hr.hd e0 hl r x;refine wpAny_mono (ht [] s1 (start N vs) H _ I hq) (fun fl s' hs=>?_) fun e s' hs=>hs
 have fin:∀ {σ':St}{H':Hp}{v:V}{u:Value},Inv (yE CX P w K mg base N qual scope f cdv A outer s H E) [] σ' H' s'->RelV v u->Q v H'->CE outer P w H s Q u s' :=
  fun {σ' H' v u} J rv q=>⟨v,H',J.os,J.bare,J.base,J.hok,rv,q⟩
 cases fl with
 | ret u =>
  obtain⟨v,σ',H',J,rv,q⟩:=hs;exact fin J rv q
 | next =>
  obtain⟨σ',H',J,q⟩:=hs;exact fin (v:=V.non) (u:=Value.none) J rfl q
 | brk =>
  obtain⟨_,_,_,q⟩:=hs;exact False.elim q
 | cont =>
  obtain⟨_,_,_,q⟩:=hs;exact False.elim q
section
variable {X:Cx}{x:Str}{p pos:Pos}{e:Expr}{es:List Expr}{t:TA}{id T:String}{r:List V->Hp->VK->Prop}
def tCB(r:List V->Hp->VK->Prop)(t:TA):TE:=fun σ H Q=>t σ H fun vs H1=>r vs H1 Q
def bh(hc:fP X (.builtin id) r)(hg:Gl X x)(hm:X.mg x=none)(hv:bootBuiltins x=some (.builtin id))(ha:PA X (e::es) t)(hn:x ≠ "__name__":=by decide)(hdb:(x == ("__debug__" : Str))=false:=by decide)
  (he:starEach (e::es) X.env=(false,eval e X.env)::starEach es X.env:=by rfl)(hpl:(backTo pos (starEach es X.env)).any (·.1)=false:=by rfl):PE X (.Call (.Name x p) (e::es) [] pos) (tCB r t):=by
 intro pins s σ H Q I h;refine wpAny_Call_Name_kw (xP I hg hm hv ?_ hn hdb);exact PyProof.Rows.callWith_builtin1 (thn (ha pos pins s σ H _ I h) fun us s1 ⟨vs,H1,I1,r1,q1⟩=>hc pins s1 σ H1 vs us Q I1 r1 q1) he hpl
def aQ(hc:fP X (.type T) r)(hg:Gl X x)(hm:X.mg x=none)(hv:bootBuiltins x=some (.type T))(ha:PA X (e::es) t)(hn:x ≠ "__name__":=by decide)(hdb:(x == ("__debug__" : Str))=false:=by decide)
  (he:starEach (e::es) X.env=(false,eval e X.env)::starEach es X.env:=by rfl)(hpl:(backTo pos (starEach es X.env)).any (·.1)=false:=by rfl):PE X (.Call (.Name x p) (e::es) [] pos) (tCB r t):=by
 intro pins s σ H Q I h;refine wpAny_Call_Name_kw (xP I hg hm hv ?_ hn hdb);exact PyProof.Rows.callWith_type1 (thn (ha pos pins s σ H _ I h) fun us s1 ⟨vs,H1,I1,r1,q1⟩=>hc pins s1 σ H1 vs us Q I1 r1 q1) he hpl
end
end L2
namespace HT
open PySem PyProof.Rows
section
open PySem.SeqAt
open PySem.AutoSeq1 (wpAny_loadPart')
open PySem.MeetsSeq PySem.MeetsSeq2 PySem.MeetsSeq3
variable {prog:Program}{w:World}{A:Around}{E:Value->Shared->Prop}{s:Shared}
def K6{Q:Value->Shared->Prop}(ht:IsTup s.heap t vs.toArray)(hb:IsTup s.heap b ws.toArray)(hv:vs≠[])
  (h1:ws=[]->Q (.ref t) s)(h2:ws≠[]->Q (.ref s.heap.objs.size) { s with heap:=s.heap.push { cls:=.type "tuple",data:=.seq (vs++ws).toArray } })
  (hsz:vs.length+ws.length<=sizeLine):wpAny (model prog w) A (binaryOp .Add (.ref t) (.ref b)) Q E s:=by
 obtain⟨⟨cls,dd,data,sl⟩,ho,hc,n,hd⟩:=id ht;obtain⟨⟨cls2,dd2,data2,sl2⟩,ho2,hc2,n2,hd2⟩:=id hb;simp only at hc hd hc2 hd2;subst hc hd hc2 hd2;have e:vs.toArray++ws.toArray=(vs++ws).toArray:=by simp
 by_cases hw:ws=[]
 ·exact concat_meets ⟨_,ho,rfl⟩ ⟨_,ho2,rfl⟩ noFill_tuple_add seq_tuple_add PySem.F.slot_tuple_add PySem.F.entry_tuple_add (PySem.F.args_tuple_add_2 _ _)
   (tuple_addW1 t b vs.toArray ws.toArray n n2 dd dd2 sl sl2 (by simpa using hv) (by simp[hw])) ⟨ho,ho2,h1 hw⟩
 ·refine concat_meets ⟨_,ho,rfl⟩ ⟨_,ho2,rfl⟩ noFill_tuple_add seq_tuple_add PySem.F.slot_tuple_add PySem.F.entry_tuple_add (PySem.F.args_tuple_add_2 _ _)
   (tuple_addW2 t b vs.toArray ws.toArray n n2 dd dd2 sl sl2 (by simpa using hv) (by simpa using hw) (by rw[Xd,Xd];exact hsz)) ⟨ho,ho2,?_⟩
  rw[e];exact h2 hw
def sIx(n d:Nat):Option Int->Nat
 | none=>d
 | some v=>if v<0 then (v+(n:Int)).toNat else min v.toNat n
def rO(n d:Nat):sIx n d none=d:=rfl
def vV(n d k:Nat):sIx n d (some (k:Int))=min k n:=by
 show(if (k:Int)<0 then ((k:Int)+(n:Int)).toNat else min (k:Int).toNat n)=min k n;rw[if_neg (by lia),Int.toNat_natCast]
def Oc(n d:Nat)(hd:d<=n)(o:Option Int):sIx n d o<=n:=by
 cases o with
 | none=>exact hd
 | some v =>
  show(if v<0 then (v+(n:Int)).toNat else min v.toNat n)<=n;by_cases hv:v<0
  ·rw[if_pos hv];lia
  ·rw[if_neg hv];exact Nat.min_le_right _ _
def Cv(v:Int)(n d:Nat):(if v<0 then max (v+(n:Int)) 0 else min v (n:Int))=((sIx n d (some v):Nat):Int):=by
 show(if v<0 then max (v+(n:Int)) 0 else min v (n:Int))=(((if v<0 then (v+(n:Int)).toNat else min v.toNat n):Nat):Int);by_cases hv:v<0
 ·simp only[if_pos hv];lia
 ·simp only[if_neg hv];lia
def yt(lo hi:Option Int)(n:Nat):Builtin.Slice.sliceAdjust lo hi 1 (n:Int)=(((sIx n 0 lo:Nat):Int),((sIx n n hi:Nat):Int)):=by
 have h1:¬ ((1:Int)<0):=by lia
 unfold Builtin.Slice.sliceAdjust;simp only[h1,if_false];refine Prod.ext ?_ ?_
 ·cases lo with
  | none=>rfl
  | some v=>exact Cv v n 0
 ·cases hi with
  | none=>rfl
  | some v=>exact Cv v n n
def zx(i j:Nat):Builtin.Slice.slicePlaces (i:Int) (j:Int) 1=j - i:=by
 unfold Builtin.Slice.slicePlaces;have h1:(1:Int)>0:=by lia
 simp only[h1,if_true,Int.ediv_one];split <;> lia
def pR{Q:Option Int->Shared->Prop}(p:IsPart v o)(h:Q o s):wpAny (model prog w) A (Builtin.Slice.slicePartIndex v) Q E s:=by
 cases p with
 | none=>exact slicePart_none h
 | int i t=>exact slicePart_int h
def gJ{sl:Addr}{vl vu:Value}{lo hi:Option Int}{n:Nat}{Q:Int × Int × Nat->Shared->Prop}(hs:s.heap.IsSliceOf sl vl vu .none)(pl:IsPart vl lo)(pu:IsPart vu hi)
  (h:Q (((sIx n 0 lo:Nat):Int),1,sIx n n hi - sIx n 0 lo) s):wpAny (model prog w) A (Builtin.Slice.sliceApplied (.ref sl) (pure (n:Int))) Q E s:=by
 obtain⟨os,hos,hcs,hds⟩:=id hs;unfold Builtin.Slice.sliceApplied Builtin.Slice.sliceFields;refine Wo (Wo (wpAny_field hos hds (x:=vl) rfl (Wo (wpAny_field hos hds (x:=vu) rfl (Wo (wpAny_field hos hds (x:=.none) rfl (Wq ?_)))))));refine Wo (slicePart_none ?_);show wpAny _ _ (if ((1:Int) == 0)=true then _ else _) _ _ s;rw[if_neg (by decide)];refine Wo (pR pl (Wo (pR pu (Wo (Wq ?_)))));show wpAny _ _ (match Builtin.Slice.sliceAdjust lo hi 1 (n:Int) with | (lo,hi)=>pure (lo,(1:Int),Builtin.Slice.slicePlaces lo hi 1)) _ _ s;rw[yt lo hi n];show wpAny _ _ (pure (((sIx n 0 lo:Nat):Int),(1:Int),Builtin.Slice.slicePlaces ((sIx n 0 lo:Nat):Int) ((sIx n n hi:Nat):Int) 1)) _ _ s;rw[zx];exact Wq h
def Gq(xs:Array Value)(i k:Nat):((List.range k).filterMap fun(m:Nat)=>xs[((i:Int)+(m:Int)*1).toNat]?).toArray=((xs.toList.drop i).take k).toArray:=by
 have e:(fun(m:Nat)=>xs[((i:Int)+(m:Int)*1).toNat]?)=fun m=>xs[i+m]?:=by
  funext m
  have:((i:Int)+(m:Int)*1).toNat=i+m:=by lia
  rw[this]
 rw[e];have:=pick_run xs i k;rw[List.filterMap_map] at this;have e2:((fun x=>xs[x]?) ∘ fun x=>i+x)=fun m=>xs[i+m]?:=rfl
 rw[e2] at this;rw[this]
def jJ{t sl:Addr}{items:Array Value}{vl vu:Value}{lo hi:Option Int}{Q:Value->Shared->Prop}(ht:IsTup s.heap t items)(hs:s.heap.IsSliceOf sl vl vu .none)(pl:IsPart vl lo)(pu:IsPart vu hi)
  (hw:¬ (sIx items.size 0 lo=0/\sIx items.size items.size hi=items.size))
  (h:Q (.ref s.heap.objs.size) { s with heap:=s.heap.push { cls:=.type "tuple",data:=.seq ((items.toList.drop (sIx items.size 0 lo)).take (sIx items.size items.size hi - sIx items.size 0 lo)).toArray } })
  (hsz:items.size<=sizeLine):wpAny (model prog w) A (getItem (.ref t) (.ref sl)) Q E s:=by
 have htake:sizeOk (.seq ((items.toList.drop (sIx items.size 0 lo)).take (sIx items.size items.size hi - sIx items.size 0 lo)).toArray):=by
  show((items.toList.drop (sIx items.size 0 lo)).take (sIx items.size items.size hi - sIx items.size 0 lo)).toArray.size<=sizeLine;rw[Xd,length_take,length_drop,WK];lia
 have hj:sIx items.size items.size hi<=items.size:=Oc _ _ (Wu _) hi;obtain⟨os,hos,hcs,hds⟩:=id hs;have hTs:s.TypeIs (.ref sl) "slice":=⟨os,hos,hcs⟩
 unfold getItem
 try with_reducible refine WW ?_
 first | refine Wo (Wq ?_) | skip
 refine Wo (wpAny_sequenceKey ht.typeIs (by decide) ?_);refine Wo (wpAny_callSpecial?_slot (name:=Str.ofString "__getitem__") ht.typeIs PyProof.Rows.slot_tuple_getitem
  (W6 PyProof.Rows.slot_tuple_getitem ht.typeIs entry_tuple_getitem ?_ (args_tuple_getitem _ _)))
 show wpAny _ _ (Builtin.Tuple.tupleItemsOf (.ref t) >>= _) _ _ s;refine Wo (tupleItemsOf_ ht ?_);refine Wo (wpAny_typeOf hTs ?_);rw[if_pos (by decide)];refine Wo (gJ hs pl pu ?_);have hno:¬ ((((sIx items.size 0 lo:Nat):Int) == 0 && (1:Int) == 1 && (sIx items.size items.size hi - sIx items.size 0 lo) == items.size)=true):=by
  intro q;rw[Bool.and_eq_true,Bool.and_eq_true] at q;have q1:((sIx items.size 0 lo:Nat):Int)=0:=eq_of_beq q.1.1;have q2:sIx items.size items.size hi - sIx items.size 0 lo=items.size:=eq_of_beq q.2;exact hw ⟨by lia,by lia⟩
 show wpAny _ _ (if (((sIx items.size 0 lo:Nat):Int) == 0 && (1:Int) == 1 && (sIx items.size items.size hi - sIx items.size 0 lo) == items.size)=true then _ else _) _ _ s;rw[if_neg hno,Gq]
 first
  | exact Wo (m:=Builtin.Tuple.tupleExact _) (Xe (Wq ⟨_,rfl,Wq h⟩) htake)
  | exact Wo (m:=Builtin.Tuple.tupleExact _) (Xe (Wo (Wq (Wq ⟨_,rfl,Wq h⟩))) htake)
  | exact Wo (Wo (m:=Builtin.Tuple.tupleExact _) (Xe (Wq (Wq ⟨_,rfl,Wq h⟩)) htake))
  | exact Wo (Wo (m:=Builtin.Tuple.tupleExact _) (Xe (Wq ⟨_,rfl,Wq h⟩) htake))
end
end HT
namespace L2
open PySem PySem.Spec PyProof.Rows
abbrev TO:=St->Hp->(Option Int->Hp->Prop)->Prop
def PO(X:Cx)(e:Option Expr)(t:TO):Prop :=
 ∀(pins:List (Addr × Obj))(s:Shared)(σ:St)(H:Hp)(Q:Option Int->Hp->Prop),Inv X pins σ H s->t σ H Q ->
  wpAny (model X.prog X.w) X.A (evalPart e X.env) (fun u s'=>∃ o H',Inv X pins σ H' s'/\IsPart u o/\Q o H') X.xe s
def Lf:TO:=fun _ H Q=>Q none H
def Qf(t:TE):TO:=fun σ H Q=>t σ H fun x H1=>∃ i,x=.int i/\Q (some i) H1
section
variable {X:Cx}{e:Expr}{te:TE}{lo hi:Option Expr}{tl th:TO}{pos p2:Pos}
def iW:PO X none Lf:=by
 intro pins s σ H Q I h;rw[evalPart_none];exact Wq ⟨none,H,I,.none,h⟩
def gY(h:PE X e te):PO X (some e) (Qf te):=by
 intro pins s σ H Q I hw;rw[evalPart_some];refine thn (h pins s σ H _ I hw) fun u s1 ⟨x,H1,I1,r1,q1⟩=>?_
 obtain⟨i,rfl,q⟩:=q1;obtain⟨t,rfl⟩:=r1;exact⟨some i,H1,I1,.int i t,q⟩
def SlR(X:Cx)(r:V->Option Int->Option Int->Hp->VK->Prop):Prop :=
 ∀(pins:List (Addr × Obj))(s:Shared)(σ:St)(H:Hp)(x:V)(v vl vu:Value)(lo hi:Option Int)(sl:Addr)(Q:VK),Inv X pins σ H s->RelV x v->s.heap.IsSliceOf sl vl vu .none->IsPart vl lo->IsPart vu hi->r x lo hi H Q ->
  ∃ T id,typeLookup (.type T) "__getitem__" = pure (some (.builtin id))/\s.TypeIs v T/\wpAny (model X.prog X.w) X.A (getItem v (.ref sl)) (EP X pins σ Q) X.xe s
def tSl(r:V->Option Int->Option Int->Hp->VK->Prop)(te:TE)(tl th:TO):TE:=fun σ H Q=>te σ H fun x H1=>tl σ H1 fun l H2=>th σ H2 fun u H3=>r x l u H3 Q
def gq{r:V->Option Int->Option Int->Hp->VK->Prop}(hr:SlR X r)(he:PE X e te)(hl:PO X lo tl)(hu:PO X hi th):PE X (.Subscript e (.Slice lo hi none p2) pos) (tSl r te tl th):=by
 intro pins s σ H Q I h;refine Subscript_ (thn (he pins s σ H _ I h) fun v s1 ⟨x,H1,I1,r1,q1⟩=>?_);refine wpAny_Slice (thn (hl pins s1 σ H1 _ I1 q1) fun vl s2 ⟨l,H2,I2,pl,q2⟩=>thn (hu pins s2 σ H2 _ I2 q2) fun vu s3 ⟨u,H3,I3,pu,q3⟩=>?_);rw[evalPart_none];refine Wq ?_;have I4:Inv X pins σ H3 { s3 with heap:=s3.heap.push { cls:=.type "slice",data:=.fields #[vl,vu,.none] } }:=I3.kept (t':=s3.toks) fun b ob q=>Ws _ q
 obtain⟨T,id,hT,ht,hg⟩:=hr pins { s3 with heap:=s3.heap.push { cls:=.type "slice",data:=.fields #[vl,vu,.none] } } σ H3 x v vl vu l u s3.heap.objs.size Q I4 r1 (Heap.IsSliceOf.new ..) pl pu q3;show wpAny (model X.prog X.w) X.A (subscriptTail e (.Slice lo hi none p2) v (.ref s3.heap.objs.size)) (EP X pins σ Q) X.xe { s3 with heap:=s3.heap.push { cls:=.type "slice",data:=.fields #[vl,vu,.none] } };exact tail_any (ops:=[.ref s3.heap.objs.size,v]) ht hT hg (by with_unfolding_all rfl)
def u6(xs:List V)(lo hi:Option Int):List V:=(xs.drop (HT.sIx xs.length 0 lo)).take (HT.sIx xs.length xs.length hi - HT.sIx xs.length 0 lo)
def mX(xs:List V)(lo hi:Option Int):(u6 xs lo hi).length<=xs.length:=by
 unfold u6;rw[length_take,length_drop];lia
def RT(K:W.Frag):V->Option Int->Option Int->Hp->VK->Prop:=fun x lo hi H Q=>∃ a xs,x=.ref a/\SqT K H a xs /\
 ¬ (HT.sIx xs.length 0 lo=0/\HT.sIx xs.length xs.length hi=xs.length)/\∀ p,H p=none->Q (.ref p) (upd H p (.tup (u6 xs lo hi)))
theorem Pq:SlR X (RT X.K):=by
 intro pins s σ H x v vl vu lo hi sl Q I rx hs pl pu h;obtain⟨a,xs,rfl,hx,hw,q⟩:=h;cases rx;obtain⟨its,r,ht,hz⟩:=I.tuple hx;have hlen:its.toArray.size=xs.length:=by rw[Xd];exact r.length.symm
 refine⟨"tuple",_,PyProof.Rows.slot_tuple_getitem.lookup,ht.typeIs,?_⟩;refine HT.jJ ht hs pl pu (by rw[hlen];exact hw) ?_ (by rw[hlen];exact hz);rw[hlen];refine⟨.ref s.heap.objs.size,_,I.laid (t':=s.toks) (o:=.tup (u6 xs lo hi)) (fun b ob q=>Ws _ q) (Wu _) ?_,rfl,q _ (I.hok.fresh (Wu _))⟩;exact⟨W7 (mX xs lo hi) hz,_,(r.drop (HT.sIx xs.length 0 lo)).take (HT.sIx xs.length xs.length hi - HT.sIx xs.length 0 lo),IsTup.new _ _⟩
def Q6(K:W.Frag):R2:=fun x y H Q=>∃ a b xs ys,x=.ref a/\y=.ref b/\SqT K H a xs/\SqT K H b ys/\xs≠[]/\xs.length+ys.length<=sizeLine /\
 (ys=[]->Q (.ref a) H)/\(ys≠[]->∀ p,H p=none->Q (.ref p) (upd H p (.tup (xs++ys))))
def Vals.nil_iff(r:Vals xs us):us=[]↔xs=[]:=by
 cases r with
 | nil=>simp
 | cons _ _=>simp
def BX:OpR X (binaryOp .Add) (Q6 X.K):=by
 intro pins s σ H x y v u Q I rx ry h;obtain⟨a,b,xs,ys,rfl,rfl,ha,hb,hx,hz,q1,q2⟩:=h;cases rx;cases ry;obtain⟨its,r1,p1,_⟩:=I.tuple ha;obtain⟨its2,r2,p2,_⟩:=I.tuple hb;refine HT.K6 p1 p2 (fun z=>hx (r1.nil_iff.mp z)) (fun z=>⟨.ref a,H,I,rfl,q1 (r2.nil_iff.mp z)⟩) (fun z=>?_) (by rw[← r1.length,← r2.length];exact hz);refine⟨.ref s.heap.objs.size,_,I.laid (t':=s.toks) (o:=.tup (xs++ys)) (fun b ob q=>Ws _ q) (Wu _) ?_,rfl,q2 (fun w=>z (r2.nil_iff.mpr w)) _ (I.hok.fresh (Wu _))⟩;exact⟨by rw[W0];exact hz,_,r1.append r2,IsTup.new _ _⟩
end
def ixN(n:Nat)(i:Int):Option Nat:=if 0<=i then (if i<n then some i.toNat else none) else if -(n:Int)<=i then some (i+n).toNat else none
def atI{α:Type}(xs:List α)(i:Int):Option α:=(ixN xs.length i).bind fun j=>xs[j]?
def Jw(h:ixN n i=some j):seqIndex? i n=some j/\j<n/\-(n:Int)<=i/\i<n:=by
 unfold ixN at h;by_cases h0:0<=i
 ·rw[if_pos h0] at h;by_cases h1:i<n
  ·rw[if_pos h1] at h;have e:i.toNat=j:=WT h;exact⟨by rw[seqIndex_of h0 h1,e],by lia,by lia,h1⟩
  ·rw[if_neg h1] at h;cases h
 ·rw[if_neg h0] at h;by_cases h1:-(n:Int)<=i
  ·rw[if_pos h1] at h;have e:(i+n).toNat=j:=WT h;exact⟨by rw[seqIndex_neg (by lia) h1,e],by lia,h1,by lia⟩
  ·rw[if_neg h1] at h;cases h
def wj{α:Type}{xs:List α}{v:α}(h:atI xs i=some v):∃ j,seqIndex? i xs.length=some j/\xs[j]?=some v/\j<xs.length/\-(xs.length:Int)<=i/\i<xs.length:=by
 unfold atI at h;cases e:ixN xs.length i with
 | none=>rw[e] at h;cases h
 | some j =>
  rw[e] at h;obtain⟨h1,h2,h3,h4⟩:=Jw e;exact⟨j,h1,h,h2,h3,h4⟩
def aZ{α:Type}{xs:List α}{j:Nat}{v:α}(h:xs[j]?=some v):atI xs (j:Int)=some v:=by
 have hj:j<xs.length:=(Wt.mp h).1;have e:ixN xs.length (j:Int)=some j:=by
  unfold ixN;rw[if_pos (by lia),if_pos (by lia)];simp
 unfold atI;rw[e];exact h
def J4(b:Expr):Prop:=∀ o i,subscripted b false o i=operate [o,i] (getItem o i)
def IxR(X:Cx)(r:R2):Prop :=
 ∀(value slice:Expr)(pins:List (Addr × Obj))(s:Shared)(σ:St)(H:Hp)(x y:V)(v u:Value)(Q:VK),Inv X pins σ H s->RelV x v->RelV y u->r x y H Q ->
  subscripted slice false v u=operate [v,u] (getItem v u)->wpAny (model X.prog X.w) X.A (subscriptTail value slice v u) (EP X pins σ Q) X.xe s
def MtR(X:Cx)(id:String)(r:V->List V->Hp->VK->Prop):Prop :=
 ∀(pins:List (Addr × Obj))(s:Shared)(σ:St)(H:Hp)(x:V)(xs:List V)(v:Value)(us:List Value)(Q:VK),Inv X pins σ H s->RelV x v->Vals xs us->r x xs H Q ->
  wpAny (model X.prog X.w) X.A (call (.builtin id) (v::us)) (EP X pins σ Q) X.xe s
section
variable {X:Cx}{a b:Expr}{ta tb:TE}{pos:Pos}
def bx(hr:IxR X r)(ha:PE X a ta)(hb:PE X b tb)(hs:J4 b):PE X (.Subscript a b pos) (tOp r ta tb):=by
 intro pins s σ H Q I h;exact Subscript_ (Qj ha hb I h fun v u s2 x y H2 I2 rx ry q=>hr a b pins s2 σ H2 x y v u Q I2 rx ry q (hs _ _))
def Qy(K:W.Frag):R2:=fun x y H Q=>∃ p xs i v,x=.ref p/\y=.int i/\SqL K H p xs/\atI xs i=some v/\Q v H
def Rz(K:W.Frag):R2:=fun x y H Q=>∃ p xs i v,x=.ref p/\y=.int i/\SqT K H p xs/\atI xs i=some v/\Q v H
def S7:R2:=fun x y H Q=>∃ z i c,x=.str z/\y=.int i/\z.length<=sizeLine/\atI z.cps.toList i=some c/\Q (.str ⟨#[c]⟩) H
def bI:IxR X (Qy X.K):=by
 intro value slice pins s σ H x y v u Q I rx ry h hs;obtain⟨p,xs,i,z,rfl,rfl,hq,he,q⟩:=h;cases rx;obtain⟨t,rfl⟩:=ry;obtain⟨its,r,pl,hz⟩:=I.list hq;obtain⟨j,h1,h2,h3,h4,h5⟩:=wj he;obtain⟨w,ew,rw'⟩:=r.get h2;have hl:=r.length;have hn:=sX;have fin:EP X pins σ Q w s:=⟨z,H,I,rw',q⟩
 by_cases h0:0<=i
 ·have hj:i.toNat=j:=by
   rw[seqIndex_of h0 h5] at h1;exact WT h1
  exact item_listR pl.isList h0 (by lia) (by rw[hj];simpa using ew) fin hs
 ·have hj:(i+(its.toArray.size:Int)).toNat=j:=by
   rw[seqIndex_neg (by lia) h4] at h1;rw[Xd,← hl];exact WT h1
  exact subscriptTail_builtinR (x:=w) pl.isList.typeIs slot_list_getitem.lookup
   (wpAny_getItem_list_neg (Q:=fun r s'=>r=w/\EP X pins σ Q r s') pl.isList (by lia) (by rw[Xd] <;> lia) (by lia) (by rw[hj];simpa using ew) ⟨rfl,fin⟩) hs
def bJ:IxR X (Rz X.K):=by
 intro value slice pins s σ H x y v u Q I rx ry h hs;obtain⟨p,xs,i,z,rfl,rfl,hq,he,q⟩:=h;cases rx;obtain⟨t,rfl⟩:=ry;obtain⟨its,r,pl,hz⟩:=I.tuple hq;obtain⟨j,h1,h2,h3,h4,h5⟩:=wj he;obtain⟨w,ew,rw'⟩:=r.get h2;have hl:=r.length;have hn:=sX;have fin:EP X pins σ Q w s:=⟨z,H,I,rw',q⟩
 exact subscriptTail_builtinR (x:=w) pl.typeIs slot_tuple_getitem.lookup
  (getItem_tuple (j:=j) (Q:=fun r s'=>r=w/\EP X pins σ Q r s') pl (by lia) (by lia) (by rw[Xd,← hl];exact h1) (by simpa using ew) ⟨rfl,fin⟩) hs
def mF:IxR X S7:=by
 intro value slice pins s σ H x y v u Q I rx ry h hs;obtain⟨z,i,c,rfl,rfl,hz,he,q⟩:=h;obtain⟨t,rfl⟩:=rx;obtain⟨t',rfl⟩:=ry;obtain⟨j,h1,h2,h3,h4,h5⟩:=wj he;have hl:z.cps.toList.length=z.length:=by simp[Str.length]
 rw[hl] at h1 h4 h5;have hn:=sX;exact tail_any (typeIs_str s z t) slot_str_getitem.lookup (getItem_str (c:=c) (by
  have e1:decide (i < -(2^63:Int))=false:=WX (by lia);have e2:decide (i ≥ 2^63)=false:=WX (by lia);rw[e1,e2,Bool.or_false]) (by rw[h1];simpa using h2) ⟨.str ⟨#[c]⟩,H,I.tok _,⟨_,rfl⟩,q⟩) hs
def tH(lo hi:Option Int)(n:Nat):(sliceBounds lo hi none n).1=((HT.sIx n 0 lo:Nat):Int)/\(sliceBounds lo hi none n).2.1=((HT.sIx n n hi:Nat):Int)/\(sliceBounds lo hi none n).2.2=1:=by
 refine⟨?_,?_,rfl⟩
 ·cases lo with
  | none=>simp[sliceBounds,HT.sIx]
  | some i =>
   simp only[sliceBounds,HT.sIx,Option.getD_none,show(1:Int)>0 by decide,if_true];by_cases h:i<0
   ·simp only[h,if_true] <;> lia
   ·simp only[h,if_false] <;> lia
 ·cases hi with
  | none=>simp[sliceBounds,HT.sIx]
  | some i =>
   simp only[sliceBounds,HT.sIx,Option.getD_none,show(1:Int)>0 by decide,if_true];by_cases h:i<0
   ·simp only[h,if_true] <;> lia
   ·simp only[h,if_false] <;> lia
def qX(its:List Value)(lo hi:Option Int):slicePick its.toArray lo hi none=((its.drop (HT.sIx its.length 0 lo)).take (HT.sIx its.length its.length hi - HT.sIx its.length 0 lo)).toArray:=by
 obtain⟨h1,h2,h3⟩:=tH lo hi its.toArray.size;unfold slicePick;rw[h1,h2,h3];simp only[sliceRange_one,pick_run,Xd] <;> rfl
def RJ(K:W.Frag):V->Option Int->Option Int->Hp->VK->Prop:=fun x lo hi H Q=>∃ a xs,x=.ref a/\SqL K H a xs/\∀ p,H p=none->Q (.ref p) (upd H p (.lst (u6 xs lo hi)))
def JB:SlR X (RJ X.K):=by
 intro pins s σ H x v vl vu lo hi sl Q I rx hs pl pu h;obtain⟨a,xs,rfl,hx,q⟩:=h;cases rx;obtain⟨its,r,ht,hz⟩:=I.list hx;have hlen:=r.length;refine⟨"list",_,slot_list_getitem.lookup,ht.isList.typeIs,?_⟩;refine wpAny_getItem_list_slice ht.isList hs pl pu .none (by simp) ?_ (by rw[Xd] <;> lia);rw[qX,← hlen];refine⟨.ref s.heap.objs.size,_,I.laid (t':=s.toks) (o:=.lst (u6 xs lo hi)) (fun b ob q=>Ws _ q) (Wu _) ?_,rfl,q _ (I.hok.fresh (Wu _))⟩;exact⟨W7 (mX xs lo hi) hz,_,0,(r.drop (HT.sIx xs.length 0 lo)).take (HT.sIx xs.length xs.length hi - HT.sIx xs.length 0 lo),Wy _ rfl⟩
def fu:V->Bool
 | .non=>true
 | .bl _=>true
 | .int _=>true
 | .str _=>true
 | _=>false
def eqV:V->V->Bool
 | .non,.non=>true
 | .bl a,.bl b=>a == b
 | .bl a,.int b=>(if a then 1 else 0) == b
 | .int a,.bl b=>a == (if b then 1 else 0)
 | .int a,.int b=>a == b
 | .str a,.str b=>a == b
 | _,_=>false
def Di(ry:RelV y u)(rx:RelV x v)(fy:fu y=true)(fx:fu x=true):SeqAt.EqAt A s u v (eqV y x):=by
 cases y with
 | non =>
  cases ry;cases x with
  | non=>cases rx;exact SeqAt.EqAt.same _
  | bl b=>cases rx;exact SeqAt.EqAt.none_bool b
  | int b=>obtain⟨t,rfl⟩:=rx;exact SeqAt.EqAt.none_int b t
  | str b=>obtain⟨t,rfl⟩:=rx;exact SeqAt.EqAt.none_str b t
  | _=>exact absurd (show false=true from fx) Wz
 | bl a =>
  cases ry;cases x with
  | non=>cases rx;exact SeqAt.EqAt.bool_none a
  | bl b=>cases rx;exact SeqAt.EqAt.bool_bool a b
  | int b=>obtain⟨t,rfl⟩:=rx;exact SeqAt.EqAt.bool_int a b t
  | str b=>obtain⟨t,rfl⟩:=rx;exact SeqAt.EqAt.bool_str a b t
  | _=>exact absurd (show false=true from fx) Wz
 | int a =>
  obtain⟨t',rfl⟩:=ry;cases x with
  | non=>cases rx;exact SeqAt.EqAt.int_none a t'
  | bl b=>cases rx;exact SeqAt.EqAt.int_bool a t' b
  | int b=>obtain⟨t,rfl⟩:=rx;exact SeqAt.EqAt.int_int a t' b t
  | str b=>obtain⟨t,rfl⟩:=rx;exact SeqAt.EqAt.int_str a t' b t
  | _=>exact absurd (show false=true from fx) Wz
 | str a =>
  obtain⟨t',rfl⟩:=ry;cases x with
  | non=>cases rx;exact SeqAt.EqAt.str_none a t'
  | bl b=>cases rx;exact SeqAt.EqAt.str_bool a t' b
  | int b=>obtain⟨t,rfl⟩:=rx;exact SeqAt.EqAt.str_int a t' b t
  | str b=>obtain⟨t,rfl⟩:=rx;exact SeqAt.EqAt.str_str a t' b t
  | _=>exact absurd (show false=true from fx) Wz
 | _=>exact absurd (show false=true from fy) Wz
def eqU(x:V)(u:Value):Bool:=match u with
 | .none=>eqV .non x
 | .bool b=>eqV (.bl b) x
 | .int i _=>eqV (.int i) x
 | .str z _=>eqV (.str z) x
 | _=>false
def xY(r:RelV y u)(f:fu y=true):eqU x u=eqV y x:=by
 cases y with
 | non=>cases r;rfl
 | bl b=>cases r;rfl
 | int i=>obtain⟨t,rfl⟩:=r;rfl
 | str z=>obtain⟨t,rfl⟩:=r;rfl
 | _=>exact absurd (show false=true from f) Wz
theorem uQ:∀ {xs:List V}{us:List Value},Vals xs us->xs.all fu=true->us.any (eqU x)=xs.any fun y=>eqV y x
 | _,_,.nil,_=>rfl
 | y::xs,u::us,.cons r t,f=>by
  rw[all_cons,Bool.and_eq_true] at f;rw[any_cons,any_cons,xY r f.1,uQ t f.2]
theorem jm(rx:RelV x v)(fx:fu x=true):∀ {xs:List V}{us:List Value},Vals xs us->xs.all fu=true->∀ u∈us,SeqAt.EqAt A s u v (eqU x u)
 | _,_,.nil,_=>fun u hu=>by cases hu
 | y::xs,u::us,.cons r t,f=>fun u' hu=>by
  rw[all_cons,Bool.and_eq_true] at f;rcases mem_cons.mp hu with rfl | hu
  ·rw[xY r f.1];exact Di r rx f.1 fx
  ·exact jm rx fx t f.2 u' hu
def inV(x:V)(xs:List V):Bool:=xs.any fun y=>eqV y x
def rIn(K:W.Frag)(neg:Bool):R2:=fun x y H Q=>∃ p xs,y=.ref p/\(SqL K H p xs\/SqT K H p xs)/\fu x=true/\xs.all fu=true/\Q (.bl (if neg then !inV x xs else inV x xs)) H
def dJ:OpR X (compareOp .In) (rIn X.K false):=by
 intro pins s σ H x y v u Q I rx ry h;obtain⟨p,xs,rfl,hq,fx,fs,q⟩:=h;cases ry;rcases hq with hq | hq
 ·obtain⟨its,r,pl,hz⟩:=I.list hq;refine SeqAt.in_listAt (eqU x) pl.isList (fun w hw=>jm rx fx r fs w (by simpa using hw)) ⟨.bl _,H,I,rfl,?_⟩;rw[show its.toArray.any (eqU x)=its.any (eqU x) by simp,uQ r fs];exact q
 ·obtain⟨its,r,pl,hz⟩:=I.tuple hq;refine SeqAt.in_tupleAt (eqU x) pl (fun w hw=>jm rx fx r fs w (by simpa using hw)) ⟨.bl _,H,I,rfl,?_⟩;rw[show its.toArray.any (eqU x)=its.any (eqU x) by simp,uQ r fs];exact q
def gK:fP X (.builtin "len") (fun xs H Q=>∃ p ys,xs=[.ref p]/\(SqL X.K H p ys\/SqT X.K H p ys)/\Q (.int ys.length) H):=by
 intro pins s σ H xs us Q I r h;obtain⟨p,ys,rfl,hq,q⟩:=h;obtain⟨u,rfl,rx⟩:=vals1 r;cases rx;have hn:=sX;rcases hq with hq | hq
 ·obtain⟨its,r',pl,hz⟩:=I.list hq;have hlen:=r'.length;exact Calls.call_len_list pl.isList (by simp only[Xd] <;> lia) ⟨.int ys.length,H,I.tok _,⟨s.toks+1,by rw[Xd,hlen]⟩,q⟩
 ·obtain⟨its,r',pl,hz⟩:=I.tuple hq;have hlen:=r'.length;exact len_tuple pl (by simp only[Xd] <;> lia) ⟨.int ys.length,H,I.tok _,⟨s.toks+1,by rw[Xd,hlen]⟩,q⟩
def dM:fP X (.type "list") (fun xs H Q=>∃ p ys,xs=[.ref p]/\(SqL X.K H p ys\/SqT X.K H p ys)/\∀ l,H l=none->Q (.ref l) (upd H l (.lst ys))):=by
 intro pins s σ H xs us Q I r h;obtain⟨p,ys,rfl,hq,q⟩:=h;obtain⟨u,rfl,rx⟩:=vals1 r;cases rx;have fin:∀(its:List Value),Vals ys its->ys.length<=sizeLine->∀(h':Heap)(c':Nat),(∀ b o',s.heap.get? b=some o'->h'.get? b=some o') ->
   h'.get? s.heap.objs.size=some { cls:=.type "list",dict:=none,data:=.seq its.toArray c',slots:=#[] }->EP X pins σ Q (.ref s.heap.objs.size) { s with heap:=h' }:=fun its r' hz h' c' kp e =>
  ⟨.ref s.heap.objs.size,_,I.laid (t':=s.toks) kp (Wu _) (show cM X.prog X.w _ h' _ (.lst ys) from⟨hz,its,c',r',e⟩),rfl,q _ (I.hok.fresh (Wu _))⟩
 rcases hq with hq | hq
 ·obtain⟨its,r',pl,hz⟩:=I.list hq;have hlen:=r'.length;obtain⟨o,ho,hc,n,hd⟩:=pl.isList;exact call_list_seq p (.inl rfl) ho hc hd (fun h' c' kp e=>fin its r' hz h' c' kp e) (by simp only[Xd] <;> lia)
 ·obtain⟨its,r',pl,hz⟩:=I.tuple hq;have hlen:=r'.length;obtain⟨o,ho,hc,n,hd⟩:=pl;exact call_list_seq p (.inr rfl) ho hc hd (fun h' c' kp e=>fin its r' hz h' c' kp e) (by simp only[Xd] <;> lia)
def aU:fP X (.type "tuple") (fun xs H Q=>∃ p ys,xs=[.ref p]/\((SqL X.K H p ys/\∀ l,H l=none->Q (.ref l) (upd H l (.tup ys)))\/(SqT X.K H p ys/\Q (.ref p) H))):=by
 intro pins s σ H xs us Q I r h;obtain⟨p,ys,rfl,h⟩:=h;obtain⟨u,rfl,rx⟩:=vals1 r;cases rx;rcases h with⟨hq,q⟩ | ⟨hq,q⟩
 ·obtain⟨its,r',pl,hz⟩:=I.list hq;have hlen:=r'.length;refine call_tuple_list pl.isList (fun h' kp=>?_) (by simp only[Xd] <;> lia);have I1:Inv X pins σ H { s with heap:=h' }:=I.kept (t':=s.toks) kp;have I2:Inv X pins σ (upd H h'.objs.size (.tup ys)) { s with heap:=h'.push { cls:=.type "tuple",data:=.seq its.toArray } } :=
   I1.laid (t':=s.toks) (fun b o e=>Ws _ e) (Wu _) (show cM X.prog X.w _ _ _ (.tup ys) from⟨hz,its,r',IsTup.new _ _⟩)
  exact⟨.ref h'.objs.size,_,I2,rfl,q _ (I1.hok.fresh (Wu _))⟩
 ·obtain⟨its,r',pl,hz⟩:=I.tuple hq;exact call_tuple_same pl ⟨.ref p,H,I,rfl,q⟩
def tyV(K:W.Frag)(T:String)(x:V)(H:Hp):Prop:=match x with
 | .str _=>T = "str"
 | .int _=>T = "int"
 | .ref p=>(T = "list"/\∃ xs,SqL K H p xs)\/(T = "tuple"/\∃ o,K.lookup p=some o/\o.cls=.type "tuple"/\o.dict=none) \/
   (T = "dict"/\((∃ kvs,H p=some (.dK kvs))\/∃ kvs,H p=some (.dT kvs)))\/(T = "set"/\∃ S n,H p=some (.set S n))
 | _=>False
def Nb(I:Inv X pins σ H s)(r:RelV x v)(ty:tyV X.K T x H) :
  s.TypeIs v T/\∀ a,v=.ref a->∃ ob,s.heap.get? a=some ob/\ob.dict=none:=by
 cases x with
 | str z =>
  obtain⟨t,rfl⟩:=r;cases(show T = "str" from ty);exact⟨typeIs_str s z t,fun _ e=>nomatch e⟩
 | int i =>
  obtain⟨t,rfl⟩:=r;cases(show T = "int" from ty);exact⟨typeIs_int s i t,fun _ e=>nomatch e⟩
 | ref p =>
  cases r;rcases ty with⟨rfl,xs,hq⟩ | ⟨rfl,o,hk,hc,hd⟩ | ⟨rfl,hk⟩ | ⟨rfl,S,n,hk⟩
  ·obtain⟨its,_,pl,_⟩:=I.list hq;refine⟨pl.isList.typeIs,fun a e=>?_⟩;cases e;obtain⟨o,n,e,c,hd,_⟩:=pl;exact⟨o,e,hd⟩
  ·refine⟨⟨o,I.kIn p o hk,hc⟩,fun a e=>?_⟩;cases e;exact⟨o,I.kIn _ o hk,hd⟩
  ·have z:∃ o,s.heap.get? p=some o/\o.ExactDict:=by
    rcases hk with⟨kvs,hk⟩ | ⟨kvs,hk⟩
    ·obtain⟨_,_,_,_,o,_,_,e,ex,_⟩:=I.hok p _ hk;exact⟨o,e,ex⟩
    ·obtain⟨_,_,_,_,o,_,_,e,ex,_⟩:=I.hok p _ hk;exact⟨o,e,ex⟩
   obtain⟨o,e,ex⟩:=z;refine⟨⟨o,e,ex.1⟩,fun a e2=>?_⟩;cases e2;exact⟨o,e,ex.2.1⟩
  ·obtain⟨o,_,_,_,e,ex,_⟩:=I.hok p _ hk;refine⟨⟨o,e,ex.1⟩,fun a e2=>?_⟩;cases e2;exact⟨o,e,ex.2.1⟩
 | _=>exact False.elim ty
def tBM(K:W.Frag)(T:String)(r:V->List V->Hp->VK->Prop)(to:TE)(t:TA):TE:=fun σ H Q=>to σ H fun x H1=>tyV K T x H1/\t σ H1 fun xs H2=>r x xs H2 Q
variable {o e:Expr}{es:List Expr}{to:TE}{t:TA}{name:Str}{apos cpos:Pos}{T id:String}{r:V->List V->Hp->VK->Prop}
def gC(pa:PlainAttrs T)(slot:Slot T name id)(hty:typeOf (.builtin id)=pure (.type "method_descriptor"))(hm:MtR X id r)(ho:PE X o to)(ha:PA X (e::es) t)
  (hbase:attributeBase o name X.env (eval o X.env)=eval o X.env:=by rfl)
  (hfew:((backTo cpos (starEach (e::es) X.env)).all (fun x=>!x.1) && (backToKw cpos (keywordEach [] X.env)).all (fun x=>x.1.isSome)
   && decide ((e::es).length+([]:List Keyword).length+(if ([]:List Keyword).isEmpty then 0 else 1)<30))=true:=by rfl)
  (hline:(apos.endLine == cpos.line)=true:=by rfl)(hs:starEach (e::es) X.env=(false,eval e X.env)::starEach es X.env:=by rfl)(hplain:(backTo cpos (starEach es X.env)).any (·.1)=false:=by rfl) :
  PE X (.Call (.Attribute o name apos) (e::es) [] cpos) (tBM X.K T r to t):=by
 intro pins s σ H Q I h;refine wpAny_Call_method_late hbase hfew hline rfl (thn (ho pins s σ H _ I h) fun v s1 ⟨x,H1,I1,r1,ty,q1⟩=>?_);obtain⟨h1,h2⟩:=Nb I1 r1 ty;refine⟨T,id,pa,slot,hty,h1,h2,?_⟩;have hA:=ha cpos pins s1 σ H1 _ I1 q1;rw[hs] at hA ⊢;refine Calls.callWith_builtin (by show(false || (backTo cpos (starEach es X.env)).any (·.1))=false;rw[hplain] <;> rfl) (Calls.evalArgs_plain ?_);exact thn hA fun us s2 ⟨vs,H2,I2,r2,q2⟩=>hm pins s2 σ H2 x vs v us Q I2 r1 r2 q2
end
def MtM(X:Cx)(id:String)(r:V->List V->Hp->VK->Prop):Prop :=
 ∀(pins:List (Addr × Obj))(s:Shared)(σ:St)(H:Hp)(x:V)(xs:List V)(v:Value)(us:List Value)(Q:VK),Inv X pins σ H s->RelV x v->Vals xs us->r x xs H Q ->
  wpAny (model X.prog X.w) X.A (call (.builtin id) (v::us)) (EP X pins σ Q) X.xe s
def Vals.one:∀ {x:V}{us:List Value},Vals [x] us->∃ u,us=[u]/\RelV x u
 | _,_,.cons r .nil=>⟨_,rfl,r⟩
theorem Vals.eraseIdx:∀ {xs:List V}{us:List Value} (i:Nat),Vals xs us->Vals (xs.eraseIdx i) (us.eraseIdx i)
 | _,_,_,.nil=>.nil
 | _,_,0,.cons _ t=>t
 | _,_,i+1,.cons r t=>.cons r (Vals.eraseIdx i t)
theorem mL{α:Type}:∀(l:List α)(i:Nat),(l.eraseIdx i).length<=l.length
 | [],_=>Wu _
 | _::_,0=>Nat.le_succ _
 | _::r,i+1=>Nat.succ_le_succ (mL r i)
section
variable {X:Cx}{pins:List (Addr × Obj)}{σ:St}{H:Hp}{s:Shared}{l b:Addr}{xs ys zs:List V}
def Inv.lset{its its':List Value}{n:Nat}{f:Array Value->Array Value}{t':Nat}(I:Inv X pins σ H s)(hH:H l=some (.lst xs))
  (e:s.heap.get? l=some { cls:=.type "list",data:=.seq its.toArray n })(hf:f its.toArray=its'.toArray)(hv:Vals ys its')(hz:ys.length<=sizeLine) :
  Inv X pins σ (upd H l (.lst ys)) { s with heap:=s.heap.update l (Obj.mapSeq f),toks:=t' }:=by
 have q:=PySem.IsL.update e f;rw[hf] at q;refine I.write (x:=l) (e:=l) (by rw[hH];exact trivial) (.inl rfl) (fun b' u hb hu=>(Heap.get?_update_other s.heap (Obj.mapSeq f) (Ne.symm hb)).trans hu) ⟨_,q⟩ ?_;exact⟨hz,its',_,hv,q⟩
def Inv.lnew(I:Inv X pins σ H s)(hv:Vals ys its)(hz:ys.length<=sizeLine) :
  Inv X pins σ (upd H s.heap.objs.size (.lst ys)) { s with heap:=s.heap.push { cls:=.type "list",data:=.seq its.toArray },toks:=t' } :=
 I.laid (fun _ _ q=>Ws _ q) (Wu _) ⟨hz,its,0,hv,Wy _ rfl⟩
def Inv.fresh(I:Inv X pins σ H s):H s.heap.objs.size=none:=I.hok.fresh (Wu _)
def Inv.lstM(I:Inv X pins σ H s)(hH:H l=some (.lst xs)):xs.length<=sizeLine/\∃(its:List Value)(n:Nat),Vals xs its/\xs.length=its.length/\s.heap.get? l=some { cls:=.type "list",data:=.seq its.toArray n }:=by
 obtain⟨z,its,n,r,e⟩:=I.hok l _ hH;exact⟨z,its,n,r,r.length,e⟩
def rP(h:n<=sizeLine):Builtin.List.listTooLong n=false:=by
 unfold Builtin.List.listTooLong;exact WX (by lia)
def JR:V->List V->Hp->VK->Prop:=fun x vs H Q=>∃ l xs y,x=.ref l/\vs=[y]/\H l=some (.lst xs)/\xs.length<sizeLine/\Q .non (upd H l (.lst (xs++[y])))
def bY:MtM X "list.append" JR:=by
 intro pins s σ H x vs v us Q I rx rv h;obtain⟨l,xs,y,rfl,rfl,hH,hz,q⟩:=h;cases rx;obtain⟨u,rfl,ru⟩:=rv.one;obtain⟨z,its,n,r,hl,e⟩:=I.lstM hH;refine call_meets F.slot_list_append ⟨_,e,rfl⟩ F.entry_list_append (F.args_list_append_2 _ _) (PySem.list_append l its.toArray n u (by rw[Xd];lia)) ⟨e,?_⟩;refine⟨.non,_,I.lset (its':=its++[u]) hH e (by simp) (r.append (.cons ru .nil)) ?_,rfl,q⟩;rw[W0,length_singleton];lia
def K5:V->List V->Hp->VK->Prop:=fun x vs H Q=>∃ l b xs zs,x=.ref l/\vs=[.ref b]/\H l=some (.lst xs)/\H b=some (.lst zs)/\xs.length+zs.length<=sizeLine/\Q .non (upd H l (.lst (xs++zs)))
def Np:MtM X "list.extend" K5:=by
 intro pins s σ H x vs v us Q I rx rv h;obtain⟨l,b,xs,zs,rfl,rfl,hH,hB,hz,q⟩:=h;cases rx;obtain⟨u,rfl,ru⟩:=rv.one;cases ru;obtain⟨z,its,n,r,hl,e⟩:=I.lstM hH;obtain⟨z2,its2,n2,r2,hl2,e2⟩:=I.lstM hB;have hsz:its.toArray.size+its2.toArray.size<=sizeLine:=by rw[Xd,Xd];lia
 have hlong:¬ (!its.toArray.isEmpty && Builtin.List.listTooLong (its.toArray.size+its2.toArray.size))=true:=by
  rw[rP hsz,Bool.and_false];exact Wz
 refine call_meets F.slot_list_extend ⟨_,e,rfl⟩ F.entry_list_extend (F.args_list_extend_2 _ _)
  (AutoSeq1.list_extend_list_list_0 l its.toArray n b its2.toArray n2 hlong (by rw[Xd];lia) (by lia)) ⟨e,e2,?_⟩
 refine⟨.non,_,I.lset (its':=its++its2) hH e (by simp) (r.append r2) ?_,rfl,q⟩;rw[W0];lia
def Oj:V->List V->Hp->VK->Prop:=fun x vs H Q=>∃ l xs i k y,x=.ref l/\vs=[.int i]/\H l=some (.lst xs)/\-(2^63)<=i/\i<2^63/\seqIndex? i xs.length=some k/\xs[k]?=some y/\Q y (upd H l (.lst (xs.eraseIdx k)))
def wG:MtM X "list.pop" Oj:=by
 intro pins s σ H x vs v us Q I rx rv h;obtain⟨l,xs,i,k,y,rfl,rfl,hH,h1,h2,hk,hy,q⟩:=h;cases rx;obtain⟨u,rfl,ru⟩:=rv.one;obtain⟨t,rfl⟩:=ru;obtain⟨z,its,n,r,hl,e⟩:=I.lstM hH;obtain⟨w,hw,rw'⟩:=r.get hy;refine call_meets F.slot_list_pop ⟨_,e,rfl⟩ F.entry_list_pop (F.args_list_pop_2 _ _)
  (MeetsSeq.list_pop_at l its.toArray n i t k w (fitsIndex_both h1 h2) (by rw[Xd,← hl];exact hk) (by rw[← Array.getElem?_toList];exact hw) (by rw[Xd];lia)) ⟨e,?_⟩
 refine⟨y,_,I.lset (its':=its.eraseIdx k) hH e ?_ (r.eraseIdx k) ?_,rw',q⟩
 ·show its.toArray.eraseIdxIfInBounds k=(its.eraseIdx k).toArray;rw[List.eraseIdxIfInBounds_toArray]
 ·have:=mL xs k;lia
def Sv:R2:=fun x y H Q=>∃ l b xs zs,x=.ref l/\y=.ref b/\H l=some (.lst xs)/\H b=some (.lst zs)/\xs.length+zs.length<=sizeLine/\∀ p,H p=none->Q (.ref p) (upd H p (.lst (xs++zs)))
def j7:OpR X (binaryOp .Add) Sv:=by
 intro pins s σ H x y v u Q I rx ry h;obtain⟨l,b,xs,zs,rfl,rfl,hH,hB,hz,q⟩:=h;cases rx;cases ry;obtain⟨z,its,n,r,hl,e⟩:=I.lstM hH;obtain⟨z2,its2,n2,r2,hl2,e2⟩:=I.lstM hB;refine PySem.P.add_list e e2 ?_ (by rw[Xd,Xd];lia);have ea:its.toArray++its2.toArray=(its++its2).toArray:=by simp
 rw[ea];exact⟨.ref _,_,I.lnew (t':=s.toks) (r.append r2) (by rw[W0];lia),rfl,q _ I.fresh⟩
variable {prog:Program}{w:World}{A:Around}{E:Value->Shared->Prop}
def Ba(its its2:List Value)(a c:Nat):its.toArray.extract 0 a++its2.toArray++its.toArray.extract c its.toArray.size=(its.take a++its2++its.drop c).toArray:=by
  apply Array.toList_inj.mp
  first
    | (simp
       exact take_of_length_le (by simp))
    | simp[take_of_length_le]
    | simp
end
end L2
namespace Att
open PySem PySem.W PySem.Calls PyProof.Rows
def nO:∀(ns:List Int)(vs:List Value),WellAll P h vs (ns.map WData.int)->IntsAre vs ns:=by
 intro ns
 induction ns with
 | nil =>
  intro vs w;rw[map_nil] at w;cases w;exact .nil
 | cons n ns ih =>
  intro vs w;rw[map_cons] at w;cases w with
  | cons a b =>
   cases a;exact .cons _ _ (ih _ b)
def Du{l:OpenLaw}{n:Nat}(hn:l.most=some n){P:Params}{h:Heap}{args:List WData}{vals:List Value}
  (hpre:l.row.toRowW.claim.pre args=true)(hwl:WellAll P h vals args) :
  ∃ a vs ns,vals=[Value.ref a]/\args=[WData.list (ns.map WData.int)]/\h.get? a=some { cls:=.type "list",data:=.seq vs.toArray }/\IntsAre vs ns/\ns.length<=n:=by
 have hsh:WShape.hasAll [] args [.list .int]=true:=(pre_splitW hpre).1;have hc:l.pre.holds [] { args:=args }=true:=(pre_splitW hpre).2;obtain⟨d,r,rfl,h1,h2⟩:=hasAllW_cons hsh;obtain rfl:=hasAllW_nil h2;obtain⟨xs,rfl,h3⟩:=hasW_list h1;obtain⟨ns,rfl⟩:=items_int h3;have hlen:ns.length<=n:=by
  unfold OpenLaw.pre at hc;have h4:(WTm.not (.lt (.lit (.int (n:Int))) (.len (.arg 0)))).holds [] { args:=[.list (ns.map .int)] }=true:=by
   have h4:=(holds_andW hc).1;rw[hn] at h4;exact h4
  have h5:=condW_of h4 (w_not (w_lt w_lit (w_len_list (w_arg rfl))));rw[Xa] at h5;refine Nat.le_of_not_lt fun q=>?_
  have q':(n:Int)<((ns.length:Nat):Int):=by lia
  first
   | (rw[W9 q'] at h5;exact absurd h5 (by decide))
   | (simp at h5;lia)
 cases hwl with
 | cons w1 w2 =>
  cases w2;cases w1 with
  | list ho hall=>exact⟨_,_,ns,rfl,rfl,ho,nO ns _ hall,hlen⟩
def zP(l:OpenLaw)(args:List WData):l.row.toRowW.claim.post args (.bool true) args=true :=
 postW_of (r:=l.row.toRowW) (X:=(true == true))
  (show WShape.has [] (.bool true) .bool=true by first | rfl | decide | simp[WShape.has,WShape.arms,WShape.armsAll])
  (show(WTm.eq .res (.lit (.bool true))).value [] { args:=args,res:=some (.bool true),after:=args }=some (.bool (true == true)) from w_eq_bool (w_res rfl) w_lit) rfl
def vN{l:OpenLaw}{n:Nat}{q:Program}{loose:List Str}{XP:(Str->Option Value)->Heap->Prop}{YP:World->Heap->Prop}{d:DefRec}
  (hn:l.most=some n)(hdf:d.params.defaults=[])
  (call:∀(w:World)(s₀ s₁:Shared)(mg mb:Str->Option Value)(fa:Addr)(o:Obj)(pm cd doc:Value)(a:Addr)(vs:List Value)(ns:List Int),
   Ground q loose [] XP w s₀ mg mb s₁.heap->YP w s₁.heap ->
   s₁.heap.get? fa=some o->o.data=.func (docDef d.name d.params d.body d.scope pm cd doc)->s₁.heap.CodeRec cd d.name->mg d.name=some (.ref fa) ->
   s₁.heap.get? a=some { cls:=.type "list",data:=.seq vs.toArray }->IntsAre vs ns->ns.length<=n->s₁.gens = #[] ->
   codeAny (model l.prog w) callerA (.call (.ref fa) ⟨[.ref a],[]⟩) (fun r s'=>r=.ok (.ret (.bool true))/\OldK s₁.heap s'.heap/\s'.os=s₁.os/\AllBare s'.gens) s₁) :
  WalkO q loose XP YP l.row.toRowW d [] (fun f vs=>PySem.call f vs):=by
 intro w s₀ s₁ mg mb G Y fa o pm cd doc dV kV ho hd hcd hD hmg hg args vals as hpre hlay hrd hwl hlo;obtain rfl:dV=.none:=Dflts.none hD hdf;obtain rfl:kV=.none:=Dflts.noKw hD;obtain⟨a,vs,ns,rfl,rfl,hobj,hints,hlen⟩:=Du hn hpre hwl;refine enter_call (codeAny_mono (call w s₀ s₁ mg mb fa o pm cd doc a vs ns G Y ho (fd_plain hd) hcd hmg hobj hints hlen hg) fun r s' hq=>?_);obtain⟨rfl,h2,h3,h4⟩:=hq;exact⟨.inl ⟨.bool true,.bool true,[],rfl,fun _=>rfl,.bool true,zP l _,fun _=>⟨List.Pairwise.nil,fun _ hm=>(nomatch hm)⟩⟩,h2,h3,h4⟩
section
variable {prog:Program}{w:World}{A:Around}{E:Value->Shared->Prop}{s:Shared}{K:Frag}
end
end Att
namespace L2
open PySem PySem.Spec PyProof.Rows
theorem tV:∀ {vs:List Value}{ns:List Int},IntsAre vs ns->Vals (ns.map V.int) vs
 | _,_,.nil=>.nil
 | _,_,.cons n t h=>.cons ⟨t,rfl⟩ (tV h)
def Only(H:Hp):Prop:=∀ b,H b=none\/∃ o xs,H b=some (.frz o (.lst xs))
def Fg{P:Program}{w:World}{K:W.Frag}{mg mb:Str->Option Value}{CX:CXT}{k:Nat}{fa a:Addr}{fd:FuncData}{x:Str}{sp:Sp}{s₁:Shared}{vs:List Value}{ns:List Int}
  (KX:K.In s₁.heap)(hns:s₁.heap.Ns mainGlobals mg)(hb:s₁.heap.Ns builtinsNs mb)(hbb:∀ x:Str,x ≠ "__name__"->mb x=bootBuiltins x)(hlim:s₁.heap.NoLimit)(hg:s₁.gens = #[])
  (ha:s₁.heap.get? a=some { cls:=.type "list",data:=.seq vs.toArray })(hi:IntsAre vs ns)(hl:ns.length<=sizeLine)(hr:kY k callerA)
  (F:∀ base:Heap,K.In base->base.Ns mainGlobals mg->qR P w K mg base CX k fa fd [x] sp)(hbind:∀(s:Shared)(u:Value),BindsTo s fd ⟨[u],[]⟩ [(x,u)])
  (hsp:∀ H:Hp,Only H->SqL K H a (ns.map V.int)->sp [.ref a] H (fun v _=>v=.bl true) fun _ _ _=>False)
  (hCX:∀ H e s',CX [] H s₁ (fun _ _ _=>False) e s'->False) :
  codeAny (model P w) callerA (.call (.ref fa) ⟨[.ref a],[]⟩) (fun r s'=>r=.ok (.ret (.bool true))/\OldK s₁.heap s'.heap/\s'.os=s₁.os/\AllBare s'.gens) s₁:=by
 have rv:=tV hi;have lenV:=hi.length;have core:∀ H:Hp,Only H->SqL K H a (ns.map V.int)->HOk P w H s₁.heap->(∀ b,H b≠none->b=a)->(H a≠none->K.lookup a=none) ->
   codeAny (model P w) callerA (.call (.ref fa) ⟨[.ref a],[]⟩) (fun r s'=>r=.ok (.ret (.bool true))/\OldK s₁.heap s'.heap/\s'.os=s₁.os/\AllBare s'.gens) s₁:=by
  intro H hO hS hok hA hK;have base_of:∀ {b:Addr}{o:Obj},s₁.heap.get? b=some o->H b=none->(FZ s₁.heap H).get? b=some o:=fun e n=>Gb e n
  have noA:∀ {b:Addr}{o:Obj}{es:Array DictEntry}{ep:Nat},s₁.heap.get? b=some o->o.data=.dict es ep->H b=none:=fun {b o es ep} e d=>by
   cases q:H b with
   | none=>rfl
   | some u =>
    have e':b=a:=hA b (by rw[q];simp);subst e';rw[ha] at e;cases e;have d':Data.seq vs.toArray _=Data.dict es ep:=d;cases d'
  have nsK:∀ {b:Addr}{m:Str->Option Value},s₁.heap.Ns b m->(FZ s₁.heap H).Ns b m:=fun {b m} ⟨o,es,ep,e,d,r⟩=>⟨o,es,ep,base_of e (noA e d),d,r⟩
  have hKb:K.In (FZ s₁.heap H):=fun b o e=>base_of (KX b o e) (by
   cases q:H b with
   | none=>rfl
   | some u =>
    have e':b=a:=hA b (by rw[q];simp);subst e';rw[hK (by rw[q];simp)] at e;cases e)
  have hM:Mod K mg (FZ s₁.heap H):=⟨hKb,nsK hns,⟨mb,nsK hb,hbb⟩,let ⟨mc,h1,h2⟩:=hlim;⟨mc,nsK h1,h2⟩⟩
  have e0:PN P w K mg (FZ s₁.heap H) callerA [] s₁ H:=⟨rfl,hM,fun b o e=>K9 e,Nat.le_of_eq (Ec _ _),trivial,fun b hb=>absurd (show b∈([]:List Addr) from hb) (by simp),hok,.of_eq hg⟩
  refine codeAny_mono ((F _ hKb (nsK hns)).run callerA [] s₁ H ⟨[.ref a],[]⟩ [.ref a] [.ref a] _ _ hr e0 (hbind s₁ (.ref a)) (.cons rfl .nil) (hsp H hO hS)) fun r s' h=>?_
  cases r with
  | error e=>exact(hCX H e s' h).elim
  | ok fl =>
   cases fl with
   | next=>exact False.elim h
   | brk=>exact False.elim h
   | cont=>exact False.elim h
   | ret u =>
    obtain⟨v,H',os,bare,un,hok',r',q⟩:=h;have q':v=.bl true:=q;subst q';obtain rfl:u=Value.bool true:=r';refine⟨rfl,OldK.of_keep fun b o e=>?_,os,bare⟩;cases q:H b with
    | none=>exact un.keep b o e q (by intro z;exact absurd (show b∈([]:List Addr) from z) (by simp)) (by simp)
    | some u =>
     rcases hO b with z | ⟨ob,xs,z⟩
     ·rw[q] at z;cases z
     ·have z2:=un.frzs b ob _ z;obtain⟨e1,_⟩:=hok b _ z;obtain⟨e2,_⟩:=hok' b _ z2;rw[e] at e1;cases e1;exact e2
 cases hk:K.lookup a with
 | some o =>
  have e:=KX a o hk;rw[ha] at e;cases e;refine core (fun _=>none) (fun _=>.inl rfl) (.inr ⟨_,vs.toArray,_,hk,rfl,rfl,rfl,by rw[Xd,lenV];exact hl,by simpa using rv⟩) (fun b u z=>by have z':(none:Option HO)=some u:=z;cases z') (fun b z=>absurd rfl z) fun z=>absurd rfl z
 | none =>
  refine core (fun b=>if b=a then some (.frz { cls:=.type "list",data:=.seq vs.toArray } (.lst (ns.map V.int))) else none) (fun b=>?_) (.inl (.inr ⟨{ cls:=.type "list",data:=.seq vs.toArray },if_pos rfl⟩)) (fun b u z=>?_) (fun b z=>?_) fun _=>hk
  ·by_cases hb:b=a
   ·exact .inr ⟨_,_,if_pos hb⟩
   ·exact .inl (if_neg hb)
  ·by_cases hb:b=a
   ·have z':=(if_pos hb).symm.trans z;cases z';subst hb;exact⟨ha,by rw[Xa];exact hl,vs,_,rv,ha⟩
   ·have z':=(if_neg hb).symm.trans z;cases z'
  ·by_cases hb:b=a
   ·exact hb
   ·exact absurd (if_neg hb) z
def J2{l:W.OpenLaw}{n k:Nat}{q:Program}{loose:List Str}{XP:(Str->Option Value)->Heap->Prop}{YP:World->Heap->Prop}{d:DefRec}{K:Params->W.Frag}{CX:World->CXT}{sp:World->Sp}{x:Str}
  (hn:l.most=some n)(hn2:n<=sizeLine)(hdf:d.params.defaults=[])(hr:kY k callerA)
  (hY:∀(w:World)(h:Heap),YP w h->(K w.params).In h)
  (F:∀(w:World)(mg:Str->Option Value)(fa:Addr)(h:Heap),(K w.params).In h->h.Ns mainGlobals mg->mg d.name=some (.ref fa) ->
   ∃ fd:FuncData,(∀(s:Shared)(u:Value),BindsTo s fd ⟨[u],[]⟩ [(x,u)]) /\
    ∀ base:Heap,(K w.params).In base->base.Ns mainGlobals mg->qR l.prog w (K w.params) mg base (CX w) k fa fd [x] (sp w))
  (hsp:∀(w:World)(H:Hp)(a:Addr)(ns:List Int),ns.length<=n->Only H->SqL (K w.params) H a (ns.map V.int)->sp w [.ref a] H (fun v _=>v=.bl true) fun _ _ _=>False)
  (hCX:∀(w:World)(H:Hp)(s:Shared)(e:Value)(s':Shared),CX w [] H s (fun _ _ _=>False) e s'->False) :
  W.WalkO q loose XP YP l.row.toRowW d [] (fun f vs=>PySem.call f vs):=by
 refine Att.vN hn hdf fun w s₀ s₁ mg mb fa o pm cd doc a vs ns G Y ho hd hcd hmg hobj hints hlen hg=>?_
 have KX:=hY w _ Y;obtain⟨fd,hb,hF⟩:=F w mg fa _ KX G.T.g hmg;exact Fg KX G.T.g G.T.b G.T.builtins G.T.nolimit hg hobj hints (W7 hlen hn2) hr hF hb (fun H hO hS=>hsp w H a ns hlen hO hS) fun H e s'=>hCX w H s₁ e s'
def gR(s:Stmt):Arguments:=match s with
 | .FunctionDef _ a _ _ _ _ _ _ _ _=>a
 | _=>{ posonlyargs:=[],args:=[],vararg:=none,kwonlyargs:=[],kw_defaults:=[],kwarg:=none,defaults:=[] }
def fG(s:Stmt):List Stmt:=match s with
 | .FunctionDef _ _ b _ _ _ _ _ _ _=>b
 | _=>[]
def aC(s:Stmt):Scope:=match s with
 | .FunctionDef _ _ _ _ _ _ sc _ _ _=>sc
 | _=>{ kind:=.function,names:=[],isGenerator:=false,isCoroutine:=false }
abbrev CX0:CXT:=fun _ _ _ _ _ _=>False
abbrev E0:XK:=fun _ _ _=>False
def Qq:Passes CX0 X E0:=fun _ _ _ _ _ _ _ h=>h.elim
structure Fun(K:W.Frag)(x qual:Str)(st:Stmt)(f:Addr)(fd:FuncData):Prop where
 ex:∃(oc:Value)(od:Option Addr)(kV doc pm:Value)(an:Option Addr)(cdv ct:Value)(osl:Array (Option Value)),
  fd=W.fnOf x qual (gR st) (fG st) (aC st) .none kV doc pm an cdv ct/\K.lookup f=some ⟨oc,od,.func fd,osl⟩/\W.codeIn K cdv qual=true
 kp:W.keepIn K (.ref f)=true
section
variable {P:Program}{w:World}{K:W.Frag}{mg:Str->Option Value}{base:Heap}
def Fun.ok{x qual:Str}{st:Stmt}{f:Addr}{fd:FuncData}{N ps:List Str}{k:Nat}{sp:Sp}(F:Fun K x qual st f fd)(S:aR N ps (aC st))(len:∀ vs H Q E,sp vs H Q E->vs.length=ps.length)
  (hbody:∀(cdv:Value)(A:Around)(outer:List Env)(s:Shared)(H:Hp)(vs:List V)(Q:VK)(E:XK),kY k (A.deeper (envOfC qual (aC st) s.heap.objs.size f cdv))->sp vs H Q E ->
   ∃ t,PSs (yE CX0 P w K mg base N qual (aC st) f cdv A outer s H E).nox (fG st) t/\t { nx:=fun _ H'=>Q .non H',rt:=Q } (start N vs) H):qR P w K mg base CX0 (k+1) f fd ps sp:=by
 obtain⟨oc,od,kV,doc,pm,an,cdv,ct,osl,rfl,lk,hcd⟩:=F.ex;refine Og lk hcd S len fun A outer s H vs Q E hr hsp=>?_
 obtain⟨t,h,q⟩:=hbody cdv A outer s H vs Q E hr hsp;exact⟨t,h.nox,q⟩
def Fun.binds{x qual:Str}{st:Stmt}{f:Addr}{fd:FuncData}{ps:List Str}(F:Fun K x qual st f fd)
  (h:∀(kV doc pm:Value)(an:Option Addr)(cdv ct:Value)(us:List Value),us.length=ps.length->bindArgs (W.fnOf x qual (gR st) (fG st) (aC st) .none kV doc pm an cdv ct) ⟨us,[]⟩=pure (ps.zip us)):Binds K fd ps []:=by
 obtain⟨oc,od,kV,doc,pm,an,cdv,ct,osl,rfl,lk,hcd⟩:=F.ex;exact .all (h kV doc pm an cdv ct)
def Je{x qual:Str}{st:Stmt}{f:Addr}{oc:Value}{od an:Option Addr}{osl:Array (Option Value)}{kV doc pm cdv ct:Value}(l:K.lookup f=some ⟨oc,od,.func (W.fnOf x qual (gR st) (fG st) (aC st) .none kV doc pm an cdv ct),osl⟩)
  (c:W.codeIn K cdv qual=true)(k:W.keepIn K (.ref f)=true):Fun K x qual st f (W.fnOf x qual (gR st) (fG st) (aC st) .none kV doc pm an cdv ct):=⟨⟨oc,od,kV,doc,pm,an,cdv,ct,osl,rfl,l,c⟩,k⟩
end
def bU(hr:kY k A):A.units+1<cLine:=Nat.lt_of_le_of_lt (Nat.add_le_add_left (by decide:1<=64) _) hr.units
def aH(h:n<=1000):n<sizeLine:=Nat.lt_of_le_of_lt h (by decide)
section
variable {X:Cx}
def pv(i:Nat)(hN:X.N[i]?=some x:=by rfl)(hv:Vis X.env.scope x:=by first | exact Or.inl rfl | exact Or.inr (Or.inl rfl) | exact Or.inr (Or.inr rfl))(hd:(x == ("__debug__" : Str))=false:=by decide)
  (hcd:(x == ("__classdict__" : Str))=false:=by decide):PE X (.Name x pos) (Py i):=O9 hN hv hd hcd
end
def Fb{A B:Prop}(h:B):if false=true then A else B:=by
 rw[if_neg Wz];exact h
def rY{A B:Prop}(h:A):if true=true then A else B:=by
 rw[if_pos rfl];exact h
def eU{c A B:Prop}[Decidable c](h1:c->A)(h2:¬ c->B):if c then A else B:=by
 by_cases h:c
 ·rw[if_pos h];exact h1 h
 ·rw[if_neg h];exact h2 h
def Same(H H':Hp):Prop:=∀ b o,H b=some o->H' b=some o
def Same.refl(H:Hp):Same H H:=fun _ _ h=>h
def Same.trans(a:Same H H1)(b:Same H1 H2):Same H H2:=fun c o h=>b c o (a c o h)
def Same.free(e:Same H H')(h:H' l=Option.none):H l=Option.none:=by
 cases q:H l with
 | none=>rfl
 | some o =>
  rw[e l o q] at h;cases h
def Same.seq{K:W.Frag}{H H':Hp}{a:Addr}{xs:List V}(e:Same H H')(h:SqL K H a xs):SqL K H' a xs:=by
 rcases h with(h | ⟨o,h⟩) | h
 ·exact .inl (.inl (e _ _ h))
 ·exact .inl (.inr ⟨o,e _ _ h⟩)
 ·exact .inr h
end L2
set_option maxHeartbeats 4000000
namespace L2
open PySem PySem.Spec PyProof.Rows
theorem gO:∀(names:List (Str × NameKind))(acc:List (Str × Addr)),(∀ y∈names,y.2=.free->∃ c,env.cells.lookup y.1=some c) ->
  ∃ cl,(forIn names acc (fun(x:Str × NameKind) (cs:List (Str × Addr))=>(if x.2 == .free then (do let c ← cellOf env x.1;pure (ForInStep.yield ((x.1,c)::cs))) else pure (ForInStep.yield cs):Sem (ForInStep (List (Str × Addr))))))=pure cl /\
   (∀ y∈names,y.2=.free->∃ c,cl.lookup y.1=some c)/\(∀ y c,acc.lookup y=some c->∃ d,cl.lookup y=some d)/\(∀ y c,cl.lookup y=some c->env.cells.lookup y=some c\/acc.lookup y=some c)
 | [],acc,_=>⟨acc,rfl,(fun _ h=>nomatch h),(fun y c h=>⟨c,h⟩),(fun y c h=>.inr h)⟩
 | (n,k)::r,acc,h=>by
  rw[List.forIn_cons];by_cases hk:k=.free
  ·subst hk;obtain⟨c,hc⟩:=h (n,.free) WQ rfl;obtain⟨cl,e,h1,h2,h3⟩:=gO r ((n,c)::acc) fun y hy=>h y (WR _ hy)
   refine⟨cl,?_,?_,?_,?_⟩
   ·have e0:cellOf env n=pure c:=by unfold cellOf;rw[hc]
    simp only[beq_self_eq_true,if_true,e0,pure_bind];exact e
   ·intro y hy hf;rcases mem_cons.mp hy with rfl | hy
    ·exact h2 n c (by simp)
    ·exact h1 y hy hf
   ·intro y d hd;by_cases e1:y=n
    ·subst e1;exact h2 y c (by simp)
    ·exact h2 y d (by rw[lookup_cons,beq_eq_false_iff_ne.mpr e1];exact hd)
   ·intro y d hd;rcases h3 y d hd with q | q
    ·exact .inl q
    ·by_cases e1:y=n
     ·subst e1;simp at q;exact .inl (by rw[← q];exact hc)
     ·rw[lookup_cons,beq_eq_false_iff_ne.mpr e1] at q;exact .inr q
  ·have hb:(k == NameKind.free)=false:=by simpa using hk
   obtain⟨cl,e,h1,h2,h3⟩:=gO r acc fun y hy=>h y (WR _ hy)
   refine⟨cl,?_,?_,h2,h3⟩
   ·simp only[hb,Bool.false_eq_true,if_false,pure_bind];exact e
   ·intro y hy hf;rcases mem_cons.mp hy with rfl | hy
    ·exact absurd hf hk
    ·exact h1 y hy hf
def pH(h:∀ y∈scope.names,y.2=.free->∃ c,env.cells.lookup y.1=some c) :
  ∃ cl,closureFor scope env=pure cl/\(∀ y∈scope.names,y.2=.free->∃ c,cl.lookup y.1=some c)/\∀ y c,cl.lookup y=some c->env.cells.lookup y=some c:=by
 obtain⟨cl,e,h1,_,h3⟩:=gO scope.names [] h;refine⟨cl,?_,h1,fun y c q=>(h3 y c q).elim id fun z=>by simp at z⟩;rw[← e];unfold closureFor;simp only[bind_pure]
theorem kW{env:Env}:∀ {names:List (Str × NameKind)}{x:Str},names.lookup x=some .free ->
  (names.map fun(n,k)=>if (k == NameKind.free && env.scope.kind == .function && env.kindOf n == some .cell) then (n,NameKind.cell) else (n,k)).lookup x=some .cell \/
  (names.map fun(n,k)=>if (k == NameKind.free && env.scope.kind == .function && env.kindOf n == some .cell) then (n,NameKind.cell) else (n,k)).lookup x=some .free
 | [],_,h=>by simp at h
 | (n,k)::r,x,h=>by
  have ih:=@kW env r x;rw[map_cons];cases hx:x == n with
  | true =>
   simp only[lookup_cons,hx] at h;cases h;by_cases hc:(NameKind.free == NameKind.free && env.scope.kind == .function && env.kindOf n == some .cell)=true
   ·left;simp only[if_pos hc,lookup_cons,hx]
   ·right;simp only[if_neg hc,lookup_cons,hx]
  | false =>
   simp only[lookup_cons,hx] at h;by_cases hc:(k == NameKind.free && env.scope.kind == .function && env.kindOf n == some .cell)=true
   ·simp only[if_pos hc,lookup_cons,hx];exact ih h
   ·simp only[if_neg hc,lookup_cons,hx];exact ih h
theorem iY{env:Env}:∀ {names:List (Str × NameKind)}{x:Str}{k':NameKind},
  (names.map fun(n,k)=>if (k == NameKind.free && env.scope.kind == .function && env.kindOf n == some .cell) then (n,NameKind.cell) else (n,k)).lookup x=some k'->(k'=.cell\/k'=.free) ->
  ∃ k,(x,k)∈names/\(k=.cell\/k=.free)
 | [],_,_,h,_=>by simp at h
 | (n,k)::r,x,k',h,hk=>by
  have ih:=@iY env r x k';rw[map_cons] at h;cases hx:x == n with
  | true =>
   have e:x=n:=by simpa using hx
   subst e;by_cases hc:(k == NameKind.free && env.scope.kind == .function && env.kindOf x == some .cell)=true
   ·refine⟨k,WQ,.inr ?_⟩;simp only[Bool.and_eq_true,beq_iff_eq] at hc;exact hc.1.1
   ·simp only[if_neg hc,lookup_cons,beq_self_eq_true] at h;cases h;exact⟨k,WQ,hk⟩
  | false =>
   have h':(r.map fun(n,k)=>if (k == NameKind.free && env.scope.kind == .function && env.kindOf n == some .cell) then (n,NameKind.cell) else (n,k)).lookup x=some k':=by
    by_cases hc:(k == NameKind.free && env.scope.kind == .function && env.kindOf n == some .cell)=true
    ·simpa only[if_pos hc,lookup_cons,hx] using h
    ·simpa only[if_neg hc,lookup_cons,hx] using h
   obtain⟨q,m,z⟩:=ih h' hk;exact⟨q,WR _ m,z⟩
abbrev cL(X:Cx)(scope:Scope)(N:List Str)(cl:List (Str × Addr))(C:Addr)(s:Shared)(H:Hp)(ex:List Addr)(pn:List (Addr × Obj))(E:Value->Shared->Prop):Cx :=
 { X with N:=N,s₀:=s,H₀:=H,env:=compEnvC scope cl C X.env,outer:=X.stack,stack:=X.stack,ex:=ex,fn:=fun _=>false,pn:=pn,xe:=E }
def xq{X:Cx}{pins:List (Addr × Obj)}{σ σ':St}{H:Hp}{s:Shared}{scope:Scope}{N:List Str}{cl:List (Str × Addr)}{fp:List Addr}{E:Value->Shared->Prop}{h1:Heap}{t:Nat}
  (I:Inv X pins σ H s)(hkind:scope.kind=.function)(hcell:∀ y∈scope.names,y.2≠.cell)(hfree:∀ y∈scope.names,y.2=.free->X.env.kindOf y.1=some .cell\/X.env.kindOf y.1=some .free)
  (hcl1:∀ y∈scope.names,y.2=.free->∃ c,cl.lookup y.1=some c)(hcl2:∀ y c,cl.lookup y=some c->X.env.cells.lookup y=some c)
  (hf:∀ b∈fp,Bj X pins H b)(hfo:∀ b∈fp,∃ o,s.heap.get? b=some o)
  (hl:σ'.length=N.length)(hσ:∀(i:Nat)(x:Str)(v:V),N[i]?=some x->σ'[i]?=some (some v)->scope.names.lookup x=some .free/\∃ j:Nat,X.N[j]?=some x/\σ[j]?=some (some v))
  (hns:h1.Ns s.heap.objs.size (fun _=>none))(hold:∀ b o,s.heap.get? b=some o->h1.get? b=some o) :
  Inv (cL X scope N cl s.heap.objs.size s H fp (X.pn++pins) E) [] σ' H { s with heap:=h1,toks:=t }:=by
 have szc:∀ b o,s.heap.get? b=some o->b≠s.heap.objs.size:=fun b o e=>Wx (Ww e)
 have okY:(cL X scope N cl s.heap.objs.size s H fp (X.pn++pins) E).Ok:=by
  refine⟨I.ok.mod,hkind,I.ok.glob,I.ok.blt,Wu _,fun x y c e1 e2=>I.ok.inj x y c (hcl2 _ _ e1) (hcl2 _ _ e2),fun x hx=>?_,fun x c hfn _=>?_,I.ok.hd,I.ok.frames,.inl rfl,fun b hb=>⟨?_,fun x c e z=>?_⟩,I.bs,W7 I.ok.bsz I.sz,fun b o e hb=>?_,fun b hb z=>?_,I.stack,I.stkFree⟩
  ·have hx':=hx;have q:∃ k,(x,k)∈scope.names/\(k=.cell\/k=.free):=by
    rcases hx' with z | z
    ·exact iY z (.inl rfl)
    ·exact iY z (.inr rfl)
   obtain⟨k,hm,hk⟩:=q;rcases hk with rfl | rfl
   ·exact absurd rfl (hcell _ hm)
   ·exact hcl1 _ hm rfl
  ·exact absurd (show false=true from hfn) (by decide)
  ·obtain⟨o,e⟩:=hfo b hb;exact szc b o e
  ·exact(hf b hb).2.2.2.2.1 x c (hcl2 _ _ e) z
  ·rcases(hf b hb).2.2.2.1 with z | z
   ·exact I.ok.noex b o e z
   ·exact absurd (WM (Ww e) (W7 I.ok.bsz z)) (Nat.lt_irrefl _)
  ·rcases mem_cons.mp (I.stkSub b z) with q | q
   ·exact(hf b hb).2.1 q
   ·exact(hf b hb).2.2.1 q
 obtain⟨m,hn,hlook⟩:=id I.loc;refine⟨okY,rfl,I.bare,Un.kept hold,⟨_,hns,fun i x v e1 e2 _=>?_⟩,fun x c e=>?_,I.hok.fresh (Wu _),fun x c e=>I.freeC x c (hcl2 _ _ e),fun p hp=>?_,I.hok.kept hold,hl⟩
 ·obtain⟨hfr,j,ej,es⟩:=hσ i x v e1 e2;have hm:=PySem.mem_of_lookup hfr;have hk:=hfree _ hm rfl;have hv:Vis X.env.scope x:=by
   rcases hk with z | z
   ·exact .inr (.inl z)
   ·exact .inr (.inr z)
  obtain⟨u,r,l⟩:=hlook j x v ej es hv;refine⟨u,r,.inr ⟨?_,?_⟩⟩
  ·exact kW hfr
  ·rcases l with⟨k,_⟩ | ⟨_,c,ec,hc⟩
   ·rcases hk with z | z <;> (rw[k] at z;cases z)
   ·obtain⟨d,hd⟩:=hcl1 _ hm rfl;have e:=hcl2 _ _ hd;have ec':=e;rw[ec] at ec';cases ec';obtain⟨o,ho,hod⟩:=hc;exact⟨c,hd,o,hold c o ho,hod⟩
 ·obtain⟨v,o,ho,hod⟩:=I.cell x c (hcl2 _ _ e);exact⟨v,o,hold c o ho,hod⟩
 ·have hp':p∈X.pn++pins:=by simpa using hp
  obtain⟨a1,a2,a3,a4,a5⟩:=I.pin p hp';refine⟨hold _ _ a1,a2,szc _ _ a1,fun z=>?_,a5⟩;rcases mem_cons.mp (I.stkSub _ z) with q | q
  ·exact a3 q
  ·exact a4 q
def LK(X:Cx)(ifs:List Expr)(t:TT):Prop :=
 ∀(pins:List (Addr × Obj))(s:Shared)(σ:St)(H:Hp)(Q:Bool->Hp->Prop),Inv X pins σ H s->t σ H Q ->
  wpAny (model X.prog X.w) X.A (forIn ifs true fun c r=>if r=true then do let ok ← isTrue c X.env (eval c X.env);pure (ForInStep.yield ok) else pure (ForInStep.yield r)) (TP X pins σ Q) X.xe s
def Ro:TT:=fun _ H Q=>Q true H
def dI:LK X [] Ro:=fun _ _ _ H _ I h=>wpAny_tests_nil ⟨H,I,h⟩
def gw(h:PT X c t):LK X [c] t:=fun pins s σ H Q I hw=>wpAny_tests_one (h pins s σ H Q I hw)
section
variable {prog:Program}{w:World}{A:Around}{R:Result->Shared->Prop}{s:Shared}
def d9(I:Nat->Shared->Prop)
  (turn:∀ n s,I n s->wpAny (model prog w) A (pyNext it) (fun r s₁=>match r with
   | none=>R (.ok .next) s₁
   | some v=>wpAny (model prog w) A (letOwnedTupleGo target it v) (fun _ s₁'=>wpAny (model prog w) A (assign target env v) (fun _ s₂ =>
     wpAny (model prog w) A (forIn ifs true fun c r=>if r=true then do let ok ← isTrue c env (eval c env);pure (ForInStep.yield ok) else pure (ForInStep.yield r)) (fun ok s₃ =>
      if ok=true then wpAny (model prog w) A (eval elt env) (fun x s₄ =>
       wpAny (model prog w) A (call (.builtin "list.append") [acc,x]) (fun _ s₅=>∃ m,m<n/\I m s₅) (notedBy (model prog w) A env fun e s'=>R (.error e) s') s₄) (notedBy (model prog w) A env fun e s'=>R (.error e) s') s₃
      else ∃ m,m<n/\I m s₃) (notedBy (model prog w) A env fun e s'=>R (.error e) s') s₂) (notedBy (model prog w) A env fun e s'=>R (.error e) s') s₁') (notedBy (model prog w) A env fun e s'=>R (.error e) s') s₁)
    (notedBy (model prog w) A env fun e s'=>R (.error e) s') s)
  (n:Nat)(h:I n s) :
  codeAny (model prog w) A (.compLoop (.ListComp elt [⟨target,iter,ifs,0⟩] scope pos) 0 it acc env) R s:=by
 refine codeAny_loop rfl I (fun n s hI=>?_) n h;refine wpAny_noted ?_;rw[compTurn_list];refine Wo (wpAny_standAt (Wo (wpAny_mono (turn n s hI) (fun r s₁ h₁=>?_) fun _ _ h'=>h')));cases r with
 | none=>exact Wq h₁
 | some v =>
  refine Wo (wpAny_mono h₁ (fun _ s₁' h₁'=>?_) fun _ _ h'=>h');refine Wo (wpAny_mono h₁' (fun _ s₂ h₂=>Wo (wpAny_mono h₂ (fun ok s₃ h₃=>?_) fun _ _ h'=>h')) fun _ _ h'=>h');cases ok with
  | false=>exact Wq ⟨rfl,h₃⟩
  | true =>
   exact Wo (Wo (wpAny_mono h₃ (fun x s₄ h₄=>Wo (wpAny_mono h₄ (fun _ s₅ h₅=>Wq (Wq ⟨rfl,h₅⟩)) fun _ _ h'=>h')) fun _ _ h'=>h'))
end
def Fz(wi:TI)(g:TG)(tc:TT)(te:TE)(lift:St->St):TE:=fun σ H Q=>wi σ H fun J H1=>∀ l,H1 l=none->∃ W:Nat->Nat->St->Hp->Prop,(∃ m,W 0 m (lift σ) (upd H1 l (.lst [])))/\∀ i m σ H,W i m σ H ->
 (J.stop i H/\Q (.ref l) H)\/(J.go i H/\∃ N:St->Hp->Prop,(∀ σ' H',N σ' H'->∃ m',m'<m/\W (i+1) m' σ' H') /\
  ∀ x H',J.yld i H x H'->g x σ H' fun σ2 H2=>tc σ2 H2 fun b H3=>if b=true then te σ2 H3 fun v H4=>∃ ys,H4 l=some (.lst ys)/\ys.length<sizeLine/\N σ2 (upd H4 l (.lst (ys++[v]))) else N σ2 H3)
def Kw(N:List Str)(lift:St->St)(hc:X.calm=true)(hi:PI X tg iter wi)
  (hkind:scope.kind=.function)(hcell:∀ y∈scope.names,y.2≠.cell)(hfree:∀ y∈scope.names,y.2=.free->X.env.kindOf y.1=some .cell\/X.env.kindOf y.1=some .free)
  (hnames:∀ y∈scope.names,y.2=.local->scope.names.lookup y.1=some .local)
  (hlen:∀ σ:St,σ.length=X.N.length->(lift σ).length=N.length)
  (hσ:∀(σ:St)(i:Nat)(x:Str)(v:V),σ.length=X.N.length->N[i]?=some x->(lift σ)[i]?=some (some v)->scope.names.lookup x=some .free/\∃ j:Nat,X.N[j]?=some x/\σ[j]?=some (some v))
  (hg:∀ cl C s H ex pn E,PG (cL X scope N cl C s H ex pn E) tg g)(ht:∀ cl C s H ex pn E,LK (cL X scope N cl C s H ex pn E) ifs tc)(he:∀ cl C s H ex pn E,PE (cL X scope N cl C s H ex pn E) elt te)
  (hs:∀ x,foldedSetIterable iter X.env x=pure x:=by intro _;rfl) :
  PE X (.ListComp elt [⟨tg,iter,ifs,0⟩] scope pos) (Fz wi g tc te lift):=by
 intro pins s σ H Q I h;rw[eval_ListComp];obtain⟨cl,hclos,hcl1,hcl2⟩:=pH fun y hy hf=>I.ok.has y.1 (hfree y hy hf)
 refine wpAny_comprehension_free rfl hs hclos hkind hnames (thn (hi pins s σ H _ I h) fun v s1 h1=>thn h1 fun itv s2 h2=>?_);obtain⟨it,fp,tn,J,H2,e,I2,T,st2,f2,q⟩:=h2;subst e;refine Xe (wpAny_newFunctionEnv hcell (by intro y hy;simp at hy) (fun h₁ hns₁ hsb₁=>?_) hkind);have I3:=I2.lnew (t':=s2.toks) .nil (Nat.zero_le _);have fr:=I2.fresh;have hold:=fun b o e=>hsb₁.extBut b o (Wx (Ww e)) (Ws _ e)
 have f3:∀ b∈fp,Bj X pins (upd H2 s2.heap.objs.size (.lst [])) b:=fun b hb=>by
  obtain⟨o,eo,_⟩:=T.obj 0 _ st2 b hb;exact⟨by rw[aF (Wx (Ww eo))];exact(f2 b hb).1,(f2 b hb).2⟩
 have fo:∀ b∈fp,∃ o,(s2.heap.push { cls:=.type "list",data:=.seq ([]:List Value).toArray }).get? b=some o:=fun b hb=>by
  obtain⟨o,eo,_⟩:=T.obj 0 _ st2 b hb;exact⟨o,Ws _ eo⟩
 generalize hP:s2.heap.push { cls:=.type "list",data:=.seq ([]:List Value).toArray }=P at *;obtain⟨W,⟨m0,w0⟩,turn⟩:=q s2.heap.objs.size fr;generalize hL:s2.heap.objs.size=L at *
 let R:Result->Shared->Prop:=compPost (model X.prog X.w) X.A X.xe none (EP X pins σ Q) (.ref L) P.objs.size
 let Y:Cx:=cL X scope N cl P.objs.size { s2 with heap:=P } (upd H2 L (.lst [])) fp (X.pn++pins) (notedBy (model X.prog X.w) X.A (compEnvC scope cl P.objs.size X.env) fun e s'=>R (.error e) s')
 have IY:Inv Y [] (lift σ) (upd H2 L (.lst [])) { s2 with heap:=h₁,toks:=s2.toks+([]:List (Str × Value)).length } :=
  xq I3 hkind hcell hfree hcl1 hcl2 f3 fo (hlen σ I.len) (fun i x v=>hσ σ i x v I.len) hns₁ hold
 have stY:=T.keep _ _ _ st2 fun b hb o e=>hold b o (by rw[← hP];exact Ws _ e)
 have fC:∀ b∈fp,b≠P.objs.size/\(b∈fp):=fun b hb=>by
  obtain⟨o,eo⟩:=fo b hb;exact⟨Wx (Ww eo),hb⟩
 have fpY:∀ {H':Hp},(∀ b∈fp,H' b=none)->∀ b∈fp,Bj Y [] H' b:=fun {H'} hn b hb=>by
  refine⟨hn b hb,(fC b hb).1,fun z=>?_,.inl hb,fun x c ex=>(f3 b hb).2.2.2.2.1 x c (hcl2 _ _ ex),fun p hp=>?_⟩
  ·rcases mem_cons.mp (I3.stkSub b z) with y | y
   ·exact(f3 b hb).2.1 y
   ·exact(f3 b hb).2.2.1 y
  ·have hp':=hp;rw[append_nil] at hp';exact(f3 b hb).2.2.2.2.2 p hp'
 have loop:∀ s4:Shared,s4={ s2 with heap:=h₁,toks:=s2.toks+([]:List (Str × Value)).length } ->
   codeAny (model X.prog X.w) X.A (.compLoop (.ListComp elt [⟨tg,iter,ifs,0⟩] scope pos) 0 (.ref it) (.ref L) (compEnvC scope cl P.objs.size X.env)) R s4:=by
  rintro s4 rfl;refine d9 (fun n s'=>∃ i σ' H',Inv Y [] σ' H' s'/\tn i s'.heap/\(∀ b∈fp,H' b=none)/\W i n σ' H') ?_ m0 ⟨0,_,_,IY,stY,fun b hb=>(f3 b hb).1,w0⟩;rintro n s5 ⟨i,σ5,H5,I5,st5,fr5,w5⟩;rcases turn i n σ5 H5 w5 with⟨stop,qn⟩ | ⟨go,Nx,hNx,step⟩
  ·refine thn (T.done Y rfl rfl rfl hc i [] s5 σ5 H5 Y.xe I5 (fpY fr5) st5 stop) fun r s6 ⟨hr,I6⟩=>?_
   subst hr;obtain⟨m6,hn6,_⟩:=id I6.loc;have IX:=I3.call' I6.os I6.base I6.hok I6.bare fun b hb=>⟨(f3 b hb).2.2.2.1,(f3 b hb).2.1,(f3 b hb).2.2.2.2.1,(f3 b hb).2.2.2.2.2⟩
   refine⟨m6,hn6,fun h' sb=>⟨.ref L,H5,IX.turned (fun b o hb e=>(sb.2 b hb).trans e) I6.free (Nat.ne_of_gt I3.lt) (.inr I3.sz) (fun x c ec z=>?_) fun p hp z=>?_,rfl,qn⟩⟩
   ·obtain⟨v0,qv⟩:=I3.cell x c ec;exact absurd qv.lt (by rw[z];exact Nat.lt_irrefl _)
   ·have z0:=Ww (I3.pin p hp).1;exact absurd z0 (by rw[z];exact Nat.lt_irrefl _)
  ·refine thn (T.item Y rfl rfl rfl hc i [] s5 σ5 H5 Y.xe I5 (fpY fr5) st5 go) fun r s6 ⟨u,hr,h6⟩=>?_
   subst hr;refine thn h6 fun _ s7 ⟨x,H7,I7,r7,y7,st7,fr7⟩=>?_
   have I7':=I7.pinned (fpY fr7) (T.obj _ _ st7);refine thn (hg _ _ _ _ _ _ _ _ s7 σ5 H7 x u _ I7' r7 (step x H7 y7)) fun _ s8 ⟨σ8,H8,I8,q8⟩=>?_
   refine thn (ht _ _ _ _ _ _ _ _ s8 σ8 H8 _ I8 q8) fun ok s9 ⟨H9,I9,q9⟩=>?_
   have again:∀ {sx:Shared}{Hx:Hp},Inv Y ([]++pW fp s7.heap) σ8 Hx sx->Nx σ8 Hx->∃ m,m<n/\∃ i σ' H',Inv Y [] σ' H' sx/\tn i sx.heap/\(∀ b∈fp,H' b=none)/\W i m σ' H':=fun {sx Hx} Ix nx=>by
    obtain⟨m',hm,wx⟩:=hNx σ8 Hx nx;refine⟨m',hm,i+1,σ8,Hx,Ix.unpinned,T.keep _ _ _ st7 fun b hb o e=>(Ix.pin (b,o) (W4 _ (W4 _ (eO hb e)))).1,fun b hb=>?_,wx⟩;obtain⟨o,e,d⟩:=T.obj _ _ st7 b hb;exact(Ix.pin (b,o) (W4 _ (W4 _ (eO hb e)))).2.1
   cases ok with
   | false =>
    rw[if_neg Wz] at q9 ⊢;exact again I9 q9
   | true =>
    rw[if_pos rfl] at q9 ⊢;refine thn (he _ _ _ _ _ _ _ _ s9 σ8 H9 _ I9 q9) fun y s10 ⟨v10,H10,I10,r10,ys,hys,hz,q10⟩=>?_
    refine thn (bY _ s10 σ8 H10 (.ref L) [v10] (.ref L) [y] (fun _ H'=>Nx σ8 H') I10 rfl (.cons r10 .nil) ⟨L,ys,v10,rfl,rfl,hys,hz,q10⟩) fun _ s11 ⟨_,H11,I11,_,q11⟩=>?_
    exact again I11 q11
 exact codeAny_compStart_list (loop _ rfl) (T.self X.A 0 _ _ _ stY (loop _ rfl))
def iw{J:It}{g:TG}{tc:TT}{te:TE}{R:Hp->Prop}{l:Addr}{σ0:St}{H0:Hp}(n:Nat)(Pv:Nat->St->Hp->Prop)(h0:Pv 0 σ0 H0)(hstop:∀ σ H,Pv n σ H->J.stop n H/\R H)
  (hgo:∀ i σ H,i<n->Pv i σ H->J.go i H/\∀ x H',J.yld i H x H'->g x σ H' fun σ2 H2=>tc σ2 H2 fun b H3=>if b=true then te σ2 H3 fun v H4=>∃ ys,H4 l=some (.lst ys)/\ys.length<sizeLine/\Pv (i+1) σ2 (upd H4 l (.lst (ys++[v]))) else Pv (i+1) σ2 H3) :
  ∃ W:Nat->Nat->St->Hp->Prop,(∃ m,W 0 m σ0 H0)/\∀ i m σ H,W i m σ H ->
   (J.stop i H/\R H)\/(J.go i H/\∃ N:St->Hp->Prop,(∀ σ' H',N σ' H'->∃ m',m'<m/\W (i+1) m' σ' H') /\
    ∀ x H',J.yld i H x H'->g x σ H' fun σ2 H2=>tc σ2 H2 fun b H3=>if b=true then te σ2 H3 fun v H4=>∃ ys,H4 l=some (.lst ys)/\ys.length<sizeLine/\N σ2 (upd H4 l (.lst (ys++[v]))) else N σ2 H3):=by
 refine⟨fun i m σ H=>m=n - i/\i<=n/\Pv i σ H,⟨n,by simp,Nat.zero_le _,h0⟩,?_⟩;rintro i m σ H ⟨rfl,hi,p⟩;by_cases hlt:i<n
 ·obtain⟨go,st⟩:=hgo i σ H hlt p;exact .inr ⟨go,Pv (i+1),fun σ' H' p'=>⟨n - (i+1),by lia,rfl,hlt,p'⟩,st⟩
 ·have e:i=n:=by lia
  subst e;exact .inl (hstop σ H p)
def Fe{F:Bool->Hp->Prop}(h:F true H):Ro σ H F:=h
def gN{Q:St->Hp->Prop}(h:Q (σ.set i (some v)) H):zf i v σ H Q:=h
def gB:fP X (.builtin "isinstance") (fun xs H Q=>∃ x n t b,xs=[x,.ty n]/\yS X.K H x t/\W.kitOne X.K t (.type n)=some b/\Q (.bl b) H):=by
 intro pins s σ H xs us Q I r h;obtain⟨x,n,t,b,rfl,ty,e,q⟩:=h;obtain⟨u,v,rfl,ru,rv⟩:=vals2 r;cases rv;exact Cz I ru ty e fun tk=>⟨.bl b,H,I.tok _,rfl,q⟩
def yu:∀ {us:List Value},Vals (ys.map V.str) us->StrsAre us ys:=by
 induction ys with
 | nil=>intro us r;rw[map_nil] at r;cases r;exact .nil
 | cons y ys ih =>
  intro us r;rw[map_cons] at r;cases r with
  | cons r1 r2 =>
   obtain⟨t,e⟩:=r1;subst e;exact .cons y t (ih r2)
def Rc(i j:Int):Prop:=0<j/\j<2^64
def jl:OpR X (binaryOp .FloorDiv) (rI Rc fun i j=>.int (i / j)):=opI fun i j _ _ _ _ _ hc q=>by
 have h1:(0:Int)<j:=hc.1;have h2:j<2^64:=hc.2;refine floordiv_int (by lia) (by rw[Int.fdiv_eq_ediv_of_nonneg i (by lia)];exact q) (.inl (PyProof.noPylong_of_log2 ?_));have h3:j.natAbs≠0:=by lia
 have h4:j.natAbs<2^64:=by lia
 have h5:j.natAbs.log2<64:=(Nat.log2_lt h3).mpr h4;lia
def j5(js:List (Option Nat))(σ:St):St:=js.map fun j=>match j with | some j=>σ.getD j none | none=>none
def jX(N:List Str)(js:List (Option Nat))(XN:List Str)(names:List (Str × NameKind)):Bool :=
 decide (N.length=js.length) && (N.zip js).all fun p=>match p.2 with | none=>true | some j=>decide (XN[j]?=some p.1) && decide (names.lookup p.1=some .free)
def Em(h:jX N js XN names=true)(σ:St):(j5 js σ).length=N.length:=by
 unfold jX at h;rw[Bool.and_eq_true] at h;unfold j5;rw[Xa];exact(W3 h.1).symm
def Jr(h:jX N js XN names=true)(σ:St)(i:Nat)(x:Str)(v:V)(h1:N[i]?=some x)(h2:(j5 js σ)[i]?=some (some v)) :
  names.lookup x=some .free/\∃ j:Nat,XN[j]?=some x/\σ[j]?=some (some v):=by
 unfold jX at h;rw[Bool.and_eq_true,all_eq_true] at h;unfold j5 at h2;rw[W8] at h2;cases e:js[i]? with
 | none=>rw[e] at h2;cases h2
 | some j =>
  rw[e] at h2;cases j with
  | none=>cases h2
  | some j =>
   have h3:σ.getD j none=some v:=WT h2;have hm:(x,some j)∈N.zip js:=by
    refine W2 (i:=i) ?_;rw[getElem?_zip_eq_some];exact⟨h1,e⟩
   have q:=h.2 _ hm;simp only[Bool.and_eq_true,decide_eq_true_eq] at q;refine⟨q.2,j,q.1,?_⟩;rw[Wv] at h3;cases e2:σ[j]? with
   | none=>rw[e2] at h3;cases h3
   | some o=>rw[e2] at h3;exact congrArg some h3
def cD(XN:List Str)(sc:Scope)(N:List Str)(js:List (Option Nat))(hXN:X.N=XN)(hsc:X.env.scope=sc)(hc:X.calm=true)(hi:PI X tg iter wi)
  (hkind:scope.kind=.function)(hchk:jX N js XN scope.names=true)(hcell:∀ y∈scope.names,y.2≠.cell)(hfree:∀ y∈scope.names,y.2=.free->sc.names.lookup y.1=some .cell\/sc.names.lookup y.1=some .free)
  (hnames:∀ y∈scope.names,y.2=.local->scope.names.lookup y.1=some .local)
  (hg:∀ cl C s H ex pn E,PG (cL X scope N cl C s H ex pn E) tg g)(ht:∀ cl C s H ex pn E,LK (cL X scope N cl C s H ex pn E) ifs tc)(he:∀ cl C s H ex pn E,PE (cL X scope N cl C s H ex pn E) elt te)
  (hs:∀ x,foldedSetIterable iter X.env x=pure x:=by intro _;rfl) :
  PE X (.ListComp elt [⟨tg,iter,ifs,0⟩] scope pos) (Fz wi g tc te (j5 js)):=by
 subst hXN;subst hsc;exact Kw N (j5 js) hc hi hkind hcell hfree hnames (fun σ _=>Em hchk σ) (fun σ i x v _ h1 h2=>Jr hchk σ i x v h1 h2) hg ht he hs
def mK(K:W.Frag)(h:(if (Value.type T == Value.type U)=true then some true else (if W.kitMeta U=true then (fastBuiltinMro T).map (·.contains (.type U)) else none))=some b) :
  W.kitOne K (.type T) (.type U)=some b:=h
def rE(K:W.Frag):W.kitOne K (.type "int") (.type "tuple")=some false:=mK K (by decide +kernel)
def tY(K:W.Frag):W.kitOne K (.type "int") (.type "bool")=some false:=mK K (by decide +kernel)
def vP(K:W.Frag):W.kitOne K (.type "int") (.type "str")=some false:=mK K (by decide +kernel)
def wA(K:W.Frag):W.kitOne K (.type "int") (.type "int")=some true:=mK K (by decide +kernel)
def Nu{α:Type}{xs:List α}{r:Int}(h0:0<=r)(h1:r<xs.length):∃ v,atI xs r=some v/\v∈xs:=by
 have hk:r.toNat<xs.length:=by lia
 have ek:r=((r.toNat:Nat):Int):=by lia
 refine⟨xs[r.toNat],?_,getElem_mem hk⟩;have q:=aZ (Wr hk);rw[← ek] at q;exact q
def ao(h:H p=none)(o:HO):Same H (upd H p o):=fun b u q=>by rw[aF (aD q h)];exact q
def zy{ns:List Int}{i:Nat}{y:V}(h:(ns.map V.int)[i]?=some y):∃ z,y=V.int z:=by
 rw[W8] at h;cases e:ns[i]? with
 | none=>rw[e] at h;cases h
 | some z=>rw[e] at h;exact⟨z,(WT h).symm⟩
def small(h:n<=1000):n<=sizeLine:=Nat.le_of_lt (aH h)
def smn(n:Nat)(h:n<=1000:=by decide):n<=sizeLine:=small h
def gZ:(1000000:Nat)<=sizeLine:=by rw[sizeLine_eq];decide
def Ov{bs:List Bool}{its:List Value}(r:Vals (bs.map V.bl) its){i:Nat}{v:Value}(h:its.toArray[i]?=some v):v=.bool (bs.getD i true):=by
 have h':its[i]?=some v:=by simpa using h
 have hl:=r.length;have hi:i<its.length:=(Wt.mp h').1;have hb:i<bs.length:=by rw[Xa] at hl;lia
 obtain⟨u,hu,ru⟩:=r.get (i:=i) (x:=V.bl bs[i]) (by rw[W8,Wr hb];rfl);rw[h'] at hu;cases hu;have e:bs.getD i true=bs[i]:=by rw[Wv,Wr hb];rfl
 rw[e];exact ru
def all_range(bs:List Bool):(List.range bs.length).all (fun i=>bs.getD i true)=bs.all id:=by
 rw[Bool.eq_iff_iff,all_eq_true,all_eq_true];constructor
 ·intro h b hb;obtain⟨i,hi,e⟩:=List.getElem_of_mem hb;have q:=h i (mem_range.mpr hi);rw[Wv,Wr hi] at q;rw[← e];exact q
 ·intro h i hi;have hi':=mem_range.mp hi;rw[Wv,Wr hi'];exact h _ (getElem_mem hi')
def Bg(hc:X.calm=true):fP X (.builtin "all") (fun xs H Q=>∃(l:Addr)(bs:List Bool),xs=[.ref l]/\SqL X.K H l (bs.map V.bl)/\Q (.bl (bs.all id)) H):=by
 intro pins s σ H xs us Q I r h;obtain⟨l,bs,rfl,hq,q⟩:=h;obtain⟨u,rfl,ru⟩:=vals1 r;cases ru;obtain⟨its,rv,p,hz⟩:=I.list hq;have hd:X.A.in1.handled=none:=I.ok.hd hc;have hl:=rv.length;refine call_all_walk (wpAny_pyIter_list p.isList ?_);obtain⟨o,n,eo,_⟩:=id p;have hne:l≠s.heap.objs.size:=Wx (Ww eo);refine⟨s.heap.objs.size,_,_,_,_,_,fun i=>bs.getD i true,rfl,Walks.list hd s.heap.objs.size l hne its.toArray,⟨⟨_,Wy _ rfl,rfl,rfl⟩,p.isList.push _⟩,fun i v s' Q' E' hv hQ'=>?_,fun h' tk hk=>?_⟩
 ·rw[Ov rv hv];exact wpAny_truthy_bool hQ'
 ·have e:its.toArray.size=bs.length:=by rw[Xd,← hl,Xa]
  rw[e,all_range];have I1:Inv X pins σ H { s with heap:=s.heap.push { cls:=.type "list_iterator",data:=.fields #[.ref l,.int 0 0] } }:=I.kept (t':=s.toks) fun b o q=>Ws _ q
  obtain⟨f0,f1,f2,f3,f4,f5⟩:=I.fpOk (b:=s.heap.objs.size) (Wu _) I.fresh;exact⟨.bl _,H,I1.turned (it:=s.heap.objs.size) (fun b o hb e=>hk b o (by simpa using hb) e) f0 f1 f3 f4 f5,rfl,q⟩
def qM(K:W.Frag):W.kitOne K (.type "str") (.type "tuple")=some false:=mK K (by decide +kernel)
def uV(K:W.Frag):W.kitOne K (.type "str") (.type "str")=some true:=mK K (by decide +kernel)
def mz(K:W.Frag):W.kitOne K (.type "tuple") (.type "tuple")=some true:=mK K (by decide +kernel)
def LET:Str:="abcdefghijklmnopqrstuvwxyz"
def uY:LET.length=26:=by decide +kernel
def isNm(x:Str):Bool:=decide (1<=x.length) && decide (x.length<=8) && x.cps.toList.all fun c=>decide (97<=c/\c<=122)
def uq(h:IsPart v o):∃ q:Option (Int × Tok),v=partValue q/\o=q.map (·.1):=by
 cases h with
 | none=>exact⟨none,rfl,rfl⟩
 | int i t=>exact⟨some (i,t),rfl,rfl⟩
def Sg:V->Option Int->Option Int->Hp->VK->Prop:=fun x lo hi H Q=>∃ y:Str,x=.str y/\y.length<=sizeLine/\Q (.str (Txt.slice y lo hi)) H
def El:SlR X Sg:=by
 intro pins s σ H x v vl vu lo hi sl Q I rx hs pl pu h;obtain⟨y,rfl,hz,q⟩:=h;obtain⟨t,rfl⟩:=rx;obtain⟨ql,rfl,rfl⟩:=uq pl;obtain⟨qu,rfl,rfl⟩:=uq pu;refine⟨"str",_,F.slot_str_getitem.lookup,typeIs_str _ _ _,?_⟩;refine wpAny_getItem_str_slice (l:=ql) (u:=qu) (st:=none) hs rfl ?_;exact post_val_or_str ⟨W7 (Txt.slice_le y _ _) hz,fun t' k=>⟨.str _,H,I.tok _,⟨_,rfl⟩,q⟩⟩
structure Cal(P:Program)(w:World)(K:W.Frag)(mg:Str->Option Value)(base:Heap)(x:Str)(k:Nat)(ps:List Str)(sp:Sp):Prop where
 ex:∃(f:Addr)(fd:FuncData),qR P w K mg base CX0 k f fd ps sp/\Binds K fd ps []/\W.keepIn K (.ref f)=true/\mg x=some (.ref f)
structure Has(K:W.Frag)(mg:Str->Option Value)(x:Str)(st:Stmt)(ps:List Str):Prop where
 ex:∃(f:Addr)(fd:FuncData),Fun K x x st f fd/\Binds K fd ps []/\mg x=some (.ref f)
section
variable {P:Program}{w:World}{K:W.Frag}{mg:Str->Option Value}{base:Heap}
def Has.cal{x:Str}{st:Stmt}{ps:List Str}{k:Nat}{sp:Sp}(h:Has K mg x st ps)(ok:∀(f:Addr)(fd:FuncData),Fun K x x st f fd->mg x=some (.ref f)->Binds K fd ps []->qR P w K mg base CX0 k f fd ps sp):Cal P w K mg base x k ps sp:=by
 obtain⟨f,fd,F,b,m⟩:=h.ex;exact⟨f,fd,ok f fd F m b,b,F.kp,m⟩
def Has.mk'{x:Str}{st:Stmt}{N ps:List Str}{k:Nat}{sp:Sp}(h:Has K mg x st ps)(S:aR N ps (aC st))(len:∀ vs H Q E,sp vs H Q E->vs.length=ps.length)
  (hbody:∀(f:Addr)(cdv:Value)(A:Around)(outer:List Env)(s:Shared)(H:Hp)(vs:List V)(Q:VK)(E:XK),kY k (A.deeper (envOfC x (aC st) s.heap.objs.size f cdv))->sp vs H Q E ->
   ∃ t,PSs (yE CX0 P w K mg base N x (aC st) f cdv A outer s H E).nox (fG st) t/\t { nx:=fun _ H'=>Q .non H',rt:=Q } (start N vs) H):Cal P w K mg base x (k+1) ps sp :=
 h.cal fun f fd F _ _=>F.ok S len (hbody f)
end
def aM(C:Cal X.prog X.w X.K X.mg X.base x k ps sp)(hr:kY n X.A)(hk:k<=n)(hg:Gl X x)(ha:PA X (e::es) t)
  (hdb:(x == ("__debug__" : Str))=false:=by decide)(he:starEach (e::es) X.env=(false,eval e X.env)::starEach es X.env:=by rfl)(hpl:(backTo pos (starEach es X.env)).any (·.1)=false:=by rfl) :
  PE X (.Call (.Name x p) (e::es) [] pos) (JQ sp [] E0 t):=by
 obtain⟨f,fd,F,b,kp,m⟩:=C.ex;exact Ls F (hr.mono hk) hg m kp b .nil Qq ha hdb he hpl
inductive D where
 | non | bl (b:Bool) | int (i:Int) | str (x:Str) | tup (ds:List D)
mutual
def Den(H:Hp):V->D->Prop
 | v,.non=>v=.non
 | v,.bl b=>v=.bl b
 | v,.int i=>v=.int i
 | v,.str x=>v=.str x
 | v,.tup ds=>∃(p:Addr)(vs:List V),v=.ref p/\H p=some (.tup vs)/\bL H vs ds
def bL(H:Hp):List V->List D->Prop
 | [],[]=>True
 | v::vs,d::ds=>Den H v d/\bL H vs ds
 | _,_=>False
end
mutual
theorem Den.same(e:Same H H'):∀ {d:D}{v:V},Den H v d->Den H' v d
 | .non,_,h=>h
 | .bl _,_,h=>h
 | .int _,_,h=>h
 | .str _,_,h=>h
 | .tup ds,_,h=>by
  obtain⟨p,vs,rfl,hp,hd⟩:=h;exact⟨p,vs,rfl,e _ _ hp,bL.same e hd⟩
theorem bL.same(e:Same H H'):∀ {ds:List D}{vs:List V},bL H vs ds->bL H' vs ds
 | [],[],_=>trivial
 | _::_,_::_,h=>⟨Den.same e h.1,bL.same e h.2⟩
 | [],_::_,h=>h.elim
 | _::_,[],h=>h.elim
end
theorem bL.len:∀ {ds:List D}{vs:List V},bL H vs ds->vs.length=ds.length
 | [],[],_=>rfl
 | _::ds,_::vs,h=>by rw[length_cons,length_cons,bL.len h.2]
 | [],_::_,h=>h.elim
 | _::_,[],h=>h.elim
theorem bL.at_:∀ {ds:List D}{vs:List V}{i:Nat}{v:V},bL H vs ds->vs[i]?=some v->∃ d,ds[i]?=some d/\Den H v d
 | [],[],i,v,_,h=>by simp at h
 | d::ds,_::vs,0,v,h,e=>by
  simp at e;subst e;exact⟨d,rfl,h.1⟩
 | _::ds,_::vs,i+1,v,h,e=>bL.at_ (i:=i) h.2 (by simpa using e)
 | [],_::_,_,_,h,_=>h.elim
 | _::_,[],_,_,h,_=>h.elim
theorem bL.snoc(hd:Den H v d):∀ {ds:List D}{vs:List V},bL H vs ds->bL H (vs++[v]) (ds++[d])
 | [],[],_=>⟨hd,trivial⟩
 | _::_,_::_,h=>⟨h.1,bL.snoc hd h.2⟩
 | [],_::_,h=>h.elim
 | _::_,[],h=>h.elim
def cN:Nat->D->Prop
 | 0,d=>d≠.non/\∀ ds,d≠.tup ds
 | n+1,d=>d≠.non/\∀ ds,d=.tup ds->ds.length<=100000/\∀ e∈ds,cN n e
theorem cN.up:∀ {n:Nat}{d:D},cN n d->cN (n+1) d
 | 0,d,h=>⟨h.1,fun ds e=>absurd e (h.2 ds)⟩
 | n+1,d,h=>⟨h.1,fun ds e=>⟨(h.2 ds e).1,fun x hx=>((h.2 ds e).2 x hx).up⟩⟩
def cN.ne:∀ {n:Nat}{d:D},cN n d->d≠.non
 | 0,_,h=>h.1
 | _+1,_,h=>h.1
def Nf{xs:List Str}(h:xs.length<=100000):cN 1 (.tup (xs.map D.str)):=by
 refine⟨(fun z=>nomatch z),fun ds e=>?_⟩;injection e with e;subst e;refine⟨by rw[Xa];exact h,fun d hd=>?_⟩;obtain⟨x,_,rfl⟩:=mem_map.mp hd;exact⟨(fun z=>nomatch z),fun ds e=>nomatch e⟩
def eF(x:Str):cN 0 (.str x):=⟨(fun z=>nomatch z),fun _ z=>nomatch z⟩
def qT(x:Int):cN 0 (.int x):=⟨(fun z=>nomatch z),fun _ z=>nomatch z⟩
def Has.never{P:Program}{w:World}{K:W.Frag}{mg:Str->Option Value}{base:Heap}{x:Str}{st:Stmt}{ps:List Str}{sp:Sp}(h:Has K mg x st ps)(no:∀ vs H Q E,¬ sp vs H Q E):Cal P w K mg base x 0 ps sp :=
 h.cal fun f fd F _ _=>⟨fun vs H Q E z=>absurd z (no vs H Q E),fun A outer s H args us vs Q E _ _ _ _ z=>absurd z (no vs H Q E)⟩
def aN(h:Den H v (.tup ds)):∃(p:Addr)(vs:List V),v=.ref p/\H p=some (.tup vs)/\bL H vs ds:=h
mutual
theorem Den.keepT(e:∀(b:Addr)(vs:List V),H b=some (.tup vs)->H' b=some (.tup vs)):∀ {d:D}{v:V},Den H v d->Den H' v d
 | .non,_,h=>h
 | .bl _,_,h=>h
 | .int _,_,h=>h
 | .str _,_,h=>h
 | .tup ds,_,h=>by
  obtain⟨p,vs,rfl,hp,hd⟩:=h;exact⟨p,vs,rfl,e _ _ hp,bL.keepT e hd⟩
theorem bL.keepT(e:∀(b:Addr)(vs:List V),H b=some (.tup vs)->H' b=some (.tup vs)):∀ {ds:List D}{vs:List V},bL H vs ds->bL H' vs ds
 | [],[],_=>trivial
 | _::_,_::_,h=>⟨Den.keepT e h.1,bL.keepT e h.2⟩
 | [],_::_,h=>h.elim
 | _::_,[],h=>h.elim
end
section
variable {X:Cx}{K:W.Frag}{o e:Expr}{es:List Expr}{to:TE}{t:TA}{name:Str}{apos cpos:Pos}{T id:String}{r:V->List V->Hp->VK->Prop}
def GD(hK:X.K=K):IxR X (Qy K):=by subst hK;exact bI
def vd(hK:X.K=K):IxR X (Rz K):=by subst hK;exact bJ
end
section
variable {κ:Type} [DecidableEq κ]
def gk(kvs:List (κ × V))(k:κ):Option V:=(kvs.find? fun kv=>decide (kv.1=k)).map (·.2)
def putK(kvs:List (κ × V))(k:κ)(v:V):List (κ × V) :=
 if (kvs.any fun kv=>decide (kv.1=k))=true then kvs.map (fun kv=>if kv.1=k then (kv.1,v) else kv) else kvs++[(k,v)]
def bD{p:κ × V}{r:List (κ × V)}{k:κ}(e:p.1=k):gk (p::r) k=some p.2:=by simp[gk,find?_cons,e]
def aX{p:κ × V}{r:List (κ × V)}{k:κ}(e:¬ p.1=k):gk (p::r) k=gk r k:=by simp[gk,find?_cons,e]
theorem lH(k:κ):∀ kvs:List (κ × V),(kvs.any fun kv=>decide (kv.1=k))=(gk kvs k).isSome
 | []=>rfl
 | p::r=>by
  rw[any_cons];by_cases e:p.1=k
  ·simp only[bD e,W9 e,Bool.true_or,Option.isSome_some]
  ·rw[aX e,WX e,Bool.false_or];exact lH k r
theorem yq(k j:κ)(y:V):∀ kvs:List (κ × V),gk (kvs.map fun kv=>if kv.1=k then (kv.1,y) else kv) j=(gk kvs j).map fun x=>if j=k then y else x
 | []=>rfl
 | p::r=>by
  have ih:=yq k j y r;rw[map_cons];by_cases h:p.1=k
  ·rw[if_pos h];by_cases e:p.1=j
   ·rw[bD (p:=(p.1,y)) e,bD e,Option.map_some,if_pos (e.symm.trans h)]
   ·rw[aX (p:=(p.1,y)) e,aX e,ih]
  ·rw[if_neg h];by_cases e:p.1=j
   ·rw[bD e,bD e,Option.map_some,if_neg (fun z=>h (e.trans z))]
   ·rw[aX e,aX e,ih]
theorem tL(k j:κ)(y:V):∀ kvs:List (κ × V),gk kvs k=none->gk (kvs++[(k,y)]) j=if j=k then some y else gk kvs j
 | [],_=>by
  by_cases e:k=j
  ·rw[if_pos e.symm];exact bD e
  ·rw[if_neg (fun z=>e z.symm)];exact aX e
 | p::r,hn=>by
  rw[List.cons_append];have hk:¬ p.1=k:=fun z=>by rw[bD z] at hn;cases hn
  rw[aX hk] at hn;have ih:=tL k j y r hn;by_cases e:p.1=j
  ·rw[bD e,bD e,if_neg (fun z=>hk (e.trans z))]
  ·rw[aX e,aX e,ih]
def qH(kvs:List (κ × V))(k j:κ)(y:V):gk (putK kvs k y) j=if j=k then some y else gk kvs j:=by
 unfold putK;by_cases a:(kvs.any fun kv=>decide (kv.1=k))=true
 ·rw[if_pos a,yq];rw[lH] at a;by_cases e:j=k
  ·obtain⟨x,hx⟩:=Option.isSome_iff_exists.mp a;rw[if_pos e,e,hx,Option.map_some,if_pos rfl]
  ·rw[if_neg e];cases gk kvs j with
   | none=>rfl
   | some x=>rw[Option.map_some,if_neg e]
 ·rw[if_neg a];refine tL k j y kvs ?_;rw[lH] at a;cases q:gk kvs k with
  | none=>rfl
  | some x=>rw[q] at a;exact(a rfl).elim
def jf(kvs:List (κ × V))(k:κ)(v:V):(putK kvs k v).length<=kvs.length+1:=by
 unfold putK;split
 ·rw[Xa];lia
 ·rw[W0,length_cons,length_nil];lia
def zW.isSome_eq(r:zW o u):o.isSome=u.isSome:=by
 cases o with
 | none=>cases u with
  | none=>rfl
  | some _=>exact(show False from r).elim
 | some _=>cases u with
  | none=>exact(show False from r).elim
  | some _=>rfl
def KV.val{kvs:List (κ × V)}{vs:List (κ × Value)}(r:KV kvs vs)(k:κ):zW (gk kvs k) (valueAt vs k):=by
 unfold KV at r
 induction r with
 | nil=>exact True.intro
 | @cons p q ps qs h t ih =>
  obtain⟨h1,h2⟩:=h;by_cases e:p.1=k
  ·have e':=h1.symm.trans e;have b:valueAt (q::qs) k=some q.2:=by simp[valueAt,find?_cons,e']
   rw[bD e,b];exact h2
  ·have e':¬ q.1=k:=fun z=>e (h1.trans z)
   have b:valueAt (q::qs) k=valueAt qs k:=by simp[valueAt,find?_cons,e']
   rw[aX e,b];exact ih
def KV.any{kvs:List (κ × V)}{vs:List (κ × Value)}(r:KV kvs vs)(k:κ):(kvs.any fun kv=>decide (kv.1=k))=vs.any fun kv=>decide (kv.1=k):=by
 unfold KV at r
 induction r with
 | nil=>rfl
 | cons h t ih=>rw[any_cons,any_cons,ih,h.1]
def KV.repl{kvs:List (κ × V)}{vs:List (κ × Value)}(r:KV kvs vs)(k:κ)(ry:RelV y u) :
  KV (kvs.map fun kv=>if kv.1=k then (kv.1,y) else kv) (vs.map fun kv=>if kv.1=k then (kv.1,u) else kv):=by
 unfold KV at r ⊢
 induction r with
 | nil=>exact .nil
 | @cons p q ps qs h t ih =>
  rw[map_cons,map_cons];refine .cons ?_ ih;obtain⟨h1,h2⟩:=h;by_cases e:p.1=k
  ·rw[if_pos e,if_pos (h1.symm.trans e)];exact⟨h1,ry⟩
  ·rw[if_neg e,if_neg (fun z=>e (h1.trans z))];exact⟨h1,h2⟩
def KV.put{kvs:List (κ × V)}{vs:List (κ × Value)}(r:KV kvs vs)(k:κ)(ry:RelV y u):KV (putK kvs k y) (stored vs k u):=by
 unfold putK stored;rw[r.any k];by_cases e:(vs.any fun kv=>decide (kv.1=k))=true
 ·rw[if_pos e,if_pos e];exact r.repl k ry
 ·rw[if_neg e,if_neg e];exact Paired.snoc r ⟨rfl,ry⟩
def KV.length{kvs:List (κ × V)}{vs:List (κ × Value)}(r:KV kvs vs):kvs.length=vs.length:=Paired.length r
end
def GC(r:RelV (kV k) u):(cP P w).is k u=true:=by
 cases k with
 | inl i=>obtain⟨t,e⟩:=(show ∃ t,u=Value.int i t from r);subst e;exact uW P w i t
 | inr x=>obtain⟨t,e⟩:=(show ∃ t,u=Value.str x t from r);subst e;exact vD P w x t
theorem tR:∀ {ks:List Key}{us:List Value},Vals (ks.map kV) us->ItemsAre (cP P w) ks us
 | [],_,r=>by rw[map_nil] at r;cases r;exact .nil
 | k::ks,_,r=>by
  rw[map_cons] at r;cases r with
  | cons h t=>exact .cons (GC h) (tR t)
abbrev KT(H:Hp):List (List Key × V)->List (List Key × Addr × Value)->Prop:=Paired fun p q=>p.1=q.1/\H q.2.1=some (.tup (p.1.map kV))/\RelV p.2 q.2.2
def KT.val(r:KT H kvs xs)(k:List Key):zW (gk kvs k) ((atKey xs k).map (·.2)):=by
 induction r with
 | nil=>exact True.intro
 | @cons p q ps qs h t ih =>
  obtain⟨h1,_,h2⟩:=h;by_cases e:p.1=k
  ·have e':=h1.symm.trans e;have b:atKey (q::qs) k=some q.2:=by simp[atKey,find?_cons,e']
   rw[bD e,b];exact h2
  ·have e':¬ q.1=k:=fun z=>e (h1.trans z)
   have b:atKey (q::qs) k=atKey qs k:=by simp[atKey,find?_cons,e']
   rw[aX e,b];exact ih
def KT.repl(r:KT H kvs xs)(k:List Key)(ry:RelV y u) :
  KT H (kvs.map fun kv=>if kv.1=k then (kv.1,y) else kv) (xs.map (putAt k u)):=by
 induction r with
 | nil=>exact .nil
 | @cons p q ps qs h t ih =>
  rw[map_cons,map_cons];refine .cons ?_ ih;obtain⟨h1,h2,h3⟩:=h;unfold putAt;by_cases e:p.1=k
  ·rw[if_pos e,if_pos (h1.symm.trans e)];exact⟨h1,h2,ry⟩
  ·rw[if_neg e,if_neg (fun z=>e (h1.trans z))];exact⟨h1,h2,h3⟩
def KT.put(r:KT H kvs xs)(k:List Key)(hb:H b=some (.tup (k.map kV)))(ry:RelV y u) :
  KT H (putK kvs k y) (storedH xs k b u):=by
 have e:(kvs.any fun kv=>decide (kv.1=k))=(atKey xs k).isSome:=by
  rw[lH,(r.val k).isSome_eq,Option.isSome_map]
 unfold putK storedH;rw[e];by_cases q:(atKey xs k).isSome=true
 ·rw[if_pos q,if_pos q];exact r.repl k ry
 ·rw[if_neg q,if_neg q];exact Paired.snoc r ⟨rfl,hb,ry⟩
def KT.keeps(r:KT H kvs xs)(ht:∀ b ys,H b=some (.tup ys)->H' b=some (.tup ys)):KT H' kvs xs :=
 Paired.mapP r fun _ _ z=>⟨z.1,ht _ _ z.2.1,z.2.2⟩
section
variable {P:Program}{w:World}{H:Hp}{h:Heap}{a:Addr}
def Oa(ok:HOk P w H h)(e:Rd H a u):cM P w H h a u:=e.ok ok
def JH(ok:HOk P w H h)(e:Rd H a (.dK kvs)):kvs.length<=sizeLine/\(a == sysModules)=false/\∃ vs,KV kvs vs/\h.DictOf (cP P w) a vs :=
 show cM P w H h a (.dK kvs) from Oa ok e
theorem Pj(ok:HOk P w H h)(e:H a=some (.dK kvs)):kvs.length<=sizeLine/\(a == sysModules)=false/\∃ vs,KV kvs vs/\h.DictOf (cP P w) a vs:=JH ok (.inl e)
def Cj(ok:HOk P w H h)(e:H a=some (.tup (ks.map kV))):(tupleKind (cP P w)).is h ks a:=by
 obtain⟨_,its,r,o,h1,h2,n,h3⟩:=(show cM P w H h a (.tup (ks.map kV)) from ok a _ e)
 exact⟨o,its.toArray,n,h1,h2,h3,by simpa using tR r⟩
def J9(ok:HOk P w H h)(e:Rd H a (.dT kvs)):kvs.length<=sizeLine/\(a == sysModules)=false /\
  ∃ xs,KT H kvs xs/\h.DictOfH (tupleKind (cP P w)) a xs:=by
 obtain⟨z,y,xs,r,o,es,ep,h1,h2,h3,h4,h5⟩:=(show cM P w H h a (.dT kvs) from Oa ok e)
 refine⟨z,y,xs,r,o,es,ep,h1,h2,h3,h4,fun x hx=>?_,h5⟩;have all:∀ {l:List (List Key × V)}{m:List (List Key × Addr × Value)},KT H l m->∀ x∈m,(tupleKind (cP P w)).is h x.1 x.2.1:=by
  intro l m q
  induction q with
  | nil=>intro x hx;exact nomatch hx
  | @cons p q ps qs hq t ih =>
   intro x hx;rcases mem_cons.mp hx with e | hx
   ·subst e;exact Cj ok (by rw[← hq.1];exact hq.2.1)
   ·exact ih x hx
 exact all r x hx
def QZ(ok:HOk P w H h)(e:H a=some (.dT kvs)):kvs.length<=sizeLine/\(a == sysModules)=false /\
  ∃ xs,KT H kvs xs/\h.DictOfH (tupleKind (cP P w)) a xs:=J9 ok (.inl e)
end
def iG(H:Hp)(a:Addr)(y:V)(r:Option V):Prop :=
 (∃ kvs k,Rd H a (.dK kvs)/\y=kV k/\r=gk kvs k)\/∃ kvs k b,Rd H a (.dT kvs)/\y=.ref b/\H b=some (.tup (k.map kV))/\r=gk kvs k
def rW(H:Hp)(a:Addr)(y v:V)(H':Hp):Prop :=
 (∃ kvs k,H a=some (.dK kvs)/\y=kV k/\kvs.length<sizeLine/\H'=upd H a (.dK (putK kvs k v))) \/
 ∃ kvs k b,H a=some (.dT kvs)/\y=.ref b/\H b=some (.tup (k.map kV))/\kvs.length<sizeLine/\H'=upd H a (.dT (putK kvs k v))
def iG.k{H:Hp}{a:Addr}{kvs:List (Key × V)}{k:Key}(e:H a=some (.dK kvs)):iG H a (kV k) (gk kvs k):=.inl ⟨kvs,k,.inl e,rfl,rfl⟩
def rW.k{H:Hp}{a:Addr}{kvs:List (Key × V)}{k:Key}{v:V}(e:H a=some (.dK kvs))(hl:kvs.length<sizeLine):rW H a (kV k) v (upd H a (.dK (putK kvs k v))):=.inl ⟨kvs,k,e,rfl,hl,rfl⟩
section
variable {X:Cx}{pins:List (Addr × Obj)}{σ:St}{H:Hp}{s:Shared}{a:Addr}{y v:V}{u r:Value}{o:Option V}{A:Around}{E:Value->Shared->Prop}
def Inv.big(I:Inv X pins σ H s):sysModules<s.heap.objs.size:=by
 have h:=(I.mod.glob.keeps I.bk).lt;exact Nat.lt_trans (by decide) h
def BJ{Q:Value->Shared->Prop}(hu:A.units+1<cLine)(I:Inv X pins σ H s)(g:iG H a y (some v))(ry:RelV y u)(h:∀ w' s',Inv X pins σ H s'->RelV v w'->Q w' s') :
  wpAny (model X.prog X.w) A (getItem (.ref a) u) Q E s:=by
 rcases g with⟨kvs,k,e,ey,l⟩ | ⟨kvs,k,b,e,ey,eb,l⟩
 ·subst ey;obtain⟨z,hd,vs,rel,dd⟩:=JH I.hok e;obtain⟨w',hw,rw'⟩:=zW.some_of (by rw[l];exact rel.val k);exact wpAny_getItem_of (GC ry) dd.mapOf hw (h w' _ (I.tok _) rw')
 ·subst ey;cases(show u=Value.ref b from ry);obtain⟨z,hd,xs,rel,dd⟩:=J9 I.hok e;obtain⟨w',hw,rw'⟩:=zW.some_of (by rw[l];exact rel.val k);obtain⟨p,hp,hp2⟩:=Option.map_eq_some_iff.mp hw;refine wpAny_getItem_heap (tupleKind_room_in1 hu) (Cj I.hok eb) dd hp ?_;rw[hp2];exact h w' _ (I.tok _) rw'
def vq(I:Inv X pins σ H s)(mu:Mut (H a))(hs:Heap.SameBut a s.heap h')(he:∃ q,h'.get? a=some q)(new:cM X.prog X.w (upd H a ob) h' a ob) :
  Inv X pins σ (upd H a ob) { s with heap:=h',toks:=t' } :=
 I.write mu (.inl rfl) (fun b q hb z=>(hs.2 b hb).trans z) he new
def Ji(z:kvs.length<=sizeLine)(hd:(a == sysModules)=false)(rel:KV kvs vs)(dd:h'.DictOf (cP P w) a vs) :
  cM P w H' h' a (.dK kvs):=⟨z,hd,vs,rel,dd⟩
def DW{Q:Unit->Shared->Prop}(hu:A.units+1<cLine)(I:Inv X pins σ H s)(g:rW H a y v H')(ry:RelV y u)(rv:RelV v r)(h:∀ s',Inv X pins σ H' s'->Q () s') :
  wpAny (model X.prog X.w) A (setItem (.ref a) u r) Q E s:=by
 rcases g with⟨kvs,k,e,ey,l,eH⟩ | ⟨kvs,k,b,e,ey,eb,l,eH⟩
 ·subst ey eH;obtain⟨z,hd,vs,rel,dd⟩:=Pj I.hok e;have hz:vs.length<=sizeLine:=by rw[← rel.length];exact z
  have hl:(putK kvs k v).length<=sizeLine:=by have:=jf kvs k v;lia
  refine wpAny_setItem_pairs (GC ry) dd fun h' dd' hs=>h _ ?_
  have he:∃ q,h'.get? a=some q:=let ⟨q,_,_,hq,_⟩:=dd';⟨q,hq⟩;exact vq I (by rw[e];exact True.intro) hs he (Ji hl hd (rel.put k rv) dd')
 ·subst ey eH;cases(show u=Value.ref b from ry);obtain⟨z,hd,xs,rel,dd⟩:=QZ I.hok e;have hz:xs.length<=sizeLine:=by rw[← Paired.length rel];exact z
  have hl:(putK kvs k v).length<=sizeLine:=by have:=jf kvs k v;lia
  refine wpAny_setItem_heap (tupleKind_room_in1 hu) (Cj I.hok eb) dd fun h' dd' hs=>h _ ?_
  obtain⟨q,es,ep,hq,h2,h3,h4,_,h5⟩:=dd';refine vq I (by rw[e];exact True.intro) hs ⟨q,hq⟩ ⟨hl,hd,_,(rel.put k eb rv).keeps fun c ys ec=>?_,q,es,ep,hq,h2,h3,h4,h5⟩;rw[aF (lA ec e (fun z=>nomatch z))];exact ec
end
def QD(i:Expr):Prop:=∀ ov iv,subscripted i false ov iv=operate [ov,iv] (getItem ov iv)
def Ek{prog:Program}{w:World}{A:Around}{E:Value->Shared->Prop}{s:Shared}{env:Env}{value slice:Expr}{pos:Pos}{T id:String}{Q:Value->Shared->Prop}
  (hl:typeLookup (.type T) "__getitem__" = pure (some (.builtin id)))(hs:QD slice)
  (h:wpAny (model prog w) A (eval value env) (fun o s₁=>wpAny (model prog w) A (eval slice env) (fun i s₂=>s₂.TypeIs o T/\wpAny (model prog w) A (getItem o i) Q E s₂) E s₁) E s) :
  wpAny (model prog w) A (eval (.Subscript value slice pos) env) Q E s:=by
 refine Subscript_ (wpAny_mono h (fun o s₁ h₁=>wpAny_mono h₁ (fun i s₂ h₂=>?_) fun _ _ x=>x) fun _ _ x=>x);obtain⟨hT,h₂⟩:=h₂;unfold subscriptTail;refine Wo ?_;rw[getitemInPython_of_ne hT.not_modules];refine Wo (wpAny_specialOf hT hl ?_);have fin:wpAny (model prog w) A (subscripted slice false o i) (fun r s₃=>wpAny (model prog w) A (letTemporaryGo value o r >>= fun _=>pure r) Q E s₃) E s₂:=by
  rw[hs o i];exact wpAny_operating (wpAny_mono h₂ (fun r s₃ h₃=>Wo (wpAny_letTemporaryGo (Wq h₃))) fun _ _ x=>x)
 first
  | exact Wq (Wo fin)
  | exact Wo (Wq (Wo fin))
  | exact Wo fin
def uX(I:Inv X pins σ H s)(g:iG H a y o):s.TypeIs (.ref a) "dict":=by
 rcases g with⟨kvs,k,e,_,_⟩ | ⟨kvs,k,b,e,_,_,_⟩
 ·obtain⟨_,_,vs,_,dd⟩:=JH I.hok e;exact dd.typeIs
 ·obtain⟨_,_,xs,_,dd⟩:=J9 I.hok e;exact dd.typeIs
def QM(td ty:TE):TE:=fun σ H Q=>td σ H fun x H1=>ty σ H1 fun y H2=>∃ a v,x=.ref a/\iG H2 a y (some v)/\Q v H2
def Qn(td ty tv:TE):TS:=fun D σ H=>tv σ H fun v H1=>td σ H1 fun x H2=>ty σ H2 fun y H3=>∃ a H4,x=.ref a/\rW H3 a y v H4/\D.nx σ H4
section
variable {X:Cx}{o i e value:Expr}{pos pos' tpos:Pos}{td ty tv:TE}
def bw(hu:X.A.units+1<cLine)(ho:PE X o td)(hi:PE X i ty)(hs:QD i):PE X (.Subscript o i pos) (QM td ty):=by
 intro pins s σ H Q I h;refine Ek PySem.F.slot_dict_getitem.lookup hs (thn (ho pins s σ H _ I h) fun u s1 ⟨x,H1,I1,rx,q1⟩=>thn (hi pins s1 σ H1 _ I1 q1) fun iv s2 ⟨y,H2,I2,ry,a,v,ex,g,q2⟩=>?_);subst ex;obtain rfl:u=Value.ref a:=rx;exact⟨uX I2 g,BJ hu I2 g ry fun w' s3 I3 rw'=>⟨v,H2,I3,rw',q2⟩⟩
def dY(hu:X.A.units+1<cLine)(ho:PE X o td)(hi:PE X i ty)(hv:PE X value tv)(hs:swapsWith value (some (.Subscript o i pos')) pos.line X.env=pure false) :
  PS X (.Assign [.Subscript o i pos'] value pos) (Qn td ty tv):=by
 intro pins s σ H D I h;refine wpAny_Assign_Subscript (thn (hv pins s σ H _ I h) fun r s1 ⟨v,H1,I1,rv,q1⟩=>thn (ho pins s1 σ H1 _ I1 q1) fun u s2 ⟨x,H2,I2,rx,q2⟩=>thn (hi pins s2 σ H2 _ I2 q2) fun iv s3 ⟨y,H3,I3,ry,a,H4,ex,g,q3⟩=>?_) hs;subst ex;obtain rfl:u=Value.ref a:=rx;exact DW hu I3 g ry rv fun s4 I4=>⟨σ,H4,I4,q3⟩
end
def wD(h:Heap)(hb:sysModules<h.objs.size):cM P w H (h.push { cls:=.type "dict",data:=.dict #[] }) h.objs.size (.dK []) :=
 ⟨Nat.zero_le _,beq_eq_false_iff_ne.mpr (Ne.symm (Wx hb)),[],.nil,Heap.DictOf.new h⟩
def Mr:TE:=fun _ H Q=>∀ p,H p=none->Q (.ref p) (upd H p (.dK []))
section
variable {X:Cx}{pos:Pos}
def wL:PE X (.Dict [] [] pos) Mr:=fun pins s σ H Q I h =>
 wpAny_Dict_empty ⟨.ref s.heap.objs.size,_,I.laid (fun _ _ q=>Ws _ q) (Wu _) (wD s.heap I.big),rfl,h _ (I.hok.fresh (Wu _))⟩
end
def Ey:List (TE × TE)->St->Hp->(List (V × V)->Hp->Prop)->Prop
 | [],_,H,Q=>Q [] H
 | (tk,tv)::r,σ,H,Q=>tk σ H fun x H1=>tv σ H1 fun y H2=>Ey r σ H2 fun ps H3=>Q ((x,y)::ps) H3
abbrev VV:List (V × V)->List (Value × Value)->Prop:=Paired fun p q=>RelV p.1 q.1/\RelV p.2 q.2
def PPs(X:Cx)(pos:Pos)(keys:List (Option Expr))(values:List Expr)(trs:List (TE × TE)):Prop :=
 ∀(pins:List (Addr × Obj))(s:Shared)(σ:St)(H:Hp)(Q:List (V × V)->Hp->Prop),Inv X pins σ H s->Ey trs σ H Q ->
  wpAny (model X.prog X.w) X.A (evalPairs (pairTrees keys values X.env pos)) (fun vs s'=>∃ ps H',Inv X pins σ H' s'/\VV ps vs/\Q ps H') X.xe s
def vR:PPs X pos [] [] []:=fun pins s σ H Q I h=>pairTrees_nil_walk ⟨[],H,I,.nil,h⟩
def fM(hk:PE X k tk)(hv:PE X v tv)(hr:PPs X pos ks vs trs) :
  PPs X pos (some k::ks) (v::vs) ((tk,tv)::trs):=fun pins s σ H Q I h =>
 pairTrees_cons_walk (thn (hk pins s σ H _ I h) fun u s1 ⟨x,H1,I1,rx,q1⟩=>thn (hv pins s1 σ H1 _ I1 q1) fun w2 s2 ⟨y,H2,I2,ry,q2⟩ =>
  thn (hr pins s2 σ H2 _ I2 q2) fun ws s3 ⟨ps,H3,I3,rel,q3⟩=>⟨(x,y)::ps,H3,I3,.cons ⟨rx,ry⟩ rel,q3⟩)
def gP(kvs more:List (Key × V)):List (Key × V):=more.foldl (fun acc kv=>putK acc kv.1 kv.2) kvs
def KV.merge:∀ {more:List (Key × V)}{rs:List (Key × Value)}{kvs:List (Key × V)}{vs:List (Key × Value)},KV more rs->KV kvs vs->KV (gP kvs more) (merged vs rs):=by
 intro more rs kvs vs r;unfold KV at r
 induction r generalizing kvs vs with
 | nil=>intro q;exact q
 | @cons p q ps qs h t ih =>
  intro r0;have e:KV (putK kvs p.1 p.2) (stored vs q.1 q.2):=by
   have:=r0.put p.1 h.2;rw[← h.1];exact this
  exact ih e
theorem jH:∀(more kvs:List (Key × V)),(gP kvs more).length<=kvs.length+more.length
 | [],kvs=>by show kvs.length<=kvs.length+0;lia
 | p::r,kvs=>by
  have h1:=jH r (putK kvs p.1 p.2);have h2:=jf kvs p.1 p.2;show(gP (putK kvs p.1 p.2) r).length<=_;rw[length_cons];lia
theorem pC:∀ {kvs:List (Key × V)}{ws:List (Value × Value)},VV (kvs.map fun kv=>(kV kv.1,kv.2)) ws->∃ rs,Carries (cP P w) ws rs/\KV kvs rs
 | [],_,r=>by rw[map_nil] at r;cases r;exact⟨[],True.intro,.nil⟩
 | p::kvs,_,r=>by
  rw[map_cons] at r;cases r with
  | @cons a b as bs h t =>
   obtain⟨rs,c,q⟩:=pC t;obtain⟨b1,b2⟩:=b;exact⟨(p.1,b2)::rs,⟨GC h.1,rfl,c⟩,.cons ⟨rfl,h.2⟩ q⟩
def Ot(trs:List (TE × TE)):TE:=fun σ H Q=>∀ p,H p=none->Ey trs σ (upd H p (.dK [])) fun ps H2=>H2 p=some (.dK [])/\∃ kvs:List (Key × V),ps=kvs.map (fun kv=>(kV kv.1,kv.2))/\kvs.length<=15/\Q (.ref p) (upd H2 p (.dK (gP [] kvs)))
def uU(h:PPs X pos keys values trs)(hall:keys.all (·.isSome)=true)(hl:keys.length=values.length)(h0:keys≠[])
  (h15:keys.length<=15):PE X (.Dict keys values pos) (Ot trs):=by
 intro pins s σ H Q I q;have hn:=I.hok.fresh (Wu s.heap.objs.size);have I1:=I.laid (t':=s.toks) (fun _ _ q=>Ws _ q) (Wu _) (wD s.heap I.big);refine wpAny_Dict_walk (knd:=cP X.prog X.w) hall hl h0 h15 (thn (h pins _ σ _ _ I1 (q _ hn)) fun ws s2 ⟨ps,H2,I2,rel,e,kvs,ep,lk,q2⟩=>?_);subst ep;obtain⟨rs,c,rk⟩:=pC rel;obtain⟨z,hd,vs0,r0,dd⟩:=Pj I2.hok e;cases r0;refine⟨rs,c,dd,fun h' dd' hs=>⟨.ref s.heap.objs.size,_,?_,rfl,q2⟩⟩;have hz:(gP [] kvs).length<=sizeLine:=by
  have h1:=jH kvs [];rw[length_nil] at h1;rw[sizeLine_eq];lia
 have he:∃ q,h'.get? s.heap.objs.size=some q:=let ⟨q,_,_,hq,_⟩:=dd';⟨q,hq⟩;exact vq I2 (by rw[e];exact True.intro) hs he (Ji hz hd (rk.merge .nil) dd')
end L2
namespace SLi
open PySem
def clip(a b n:Nat):Builtin.Str.strSliceIndices (some (a:Int)) (some (b:Int)) 1 n=Builtin.Str.strSliceIndices (some ((min a n:Nat):Int)) (some ((min b n:Nat):Int)) 1 n:=by
 have e1:¬ ((a:Int)<0):=by lia
 have e2:¬ ((b:Int)<0):=by lia
 have e3:¬ (((min a n:Nat):Int)<0):=by lia
 have e4:¬ (((min b n:Nat):Int)<0):=by lia
 have h1:max (0:Int) (min (a:Int) (n:Int))=max 0 (min ((min a n:Nat):Int) (n:Int)):=by lia
 have h2:max (0:Int) (min (b:Int) (n:Int))=max 0 (min ((min b n:Nat):Int) (n:Int)):=by lia
 simp only[Builtin.Str.strSliceIndices,e1,e2,e3,e4,if_false,h1,h2]
 rfl
def both(x:Str){a b:Nat}(h:a<=b):Txt.slice x (some (a:Int)) (some (b:Int))=⟨((x.cps.toList.drop a).take (b - a)).toArray⟩:=by
 have hl:x.cps.toList.length=x.length:=by simp[Str.length]
 have e:Txt.slice x (some (a:Int)) (some (b:Int))=Txt.slice x (some ((min a x.length:Nat):Int)) (some ((min b x.length:Nat):Int)):=by
  unfold Txt.slice;rw[clip]
 rw[e];have p:=StrLaws.sliceText_plain (x:=x) (i:=((min a x.length:Nat):Int)) (j:=((min b x.length:Nat):Int)) ⟨by lia,by lia,by lia⟩;have p':Txt.slice x (some ((min a x.length:Nat):Int)) (some ((min b x.length:Nat):Int))=_:=p;rw[p'];congr 1;have e1:(((min a x.length:Nat):Int)).toNat=min a x.length:=by lia
 have e2:(((min b x.length:Nat):Int) - ((min a x.length:Nat):Int)).toNat=min b x.length - min a x.length:=by lia
 rw[e1,e2];congr 1;by_cases ha:a<=x.length
 ·rw[Nat.min_eq_left ha];by_cases hb:b<=x.length
  ·rw[Nat.min_eq_left hb]
  ·rw[Nat.min_eq_right (by lia)];rw[take_of_length_le (by rw[length_drop];lia),take_of_length_le (by rw[length_drop];lia)]
 ·rw[Nat.min_eq_right (by lia),List.drop_eq_nil_of_le (by lia),List.drop_eq_nil_of_le (by lia)];simp
def upto(x:Str)(b:Nat):Txt.slice x none (some (b:Int))=⟨(x.cps.toList.take b).toArray⟩:=by
 have e:Txt.slice x none (some (b:Int))=Txt.slice x (some ((0:Nat):Int)) (some (b:Int)):=by
  unfold Txt.slice;rw[StrLaws.sliceIdx_none_lo]
  rfl
 rw[e,both x (Nat.zero_le b)];simp
def from_(x:Str)(a:Nat):Txt.slice x (some (a:Int)) none=⟨(x.cps.toList.drop a).toArray⟩:=by
 have hl:x.cps.toList.length=x.length:=by simp[Str.length]
 have e:Txt.slice x (some (a:Int)) none=Txt.slice x (some (a:Int)) (some (x.length:Int)):=by
  unfold Txt.slice;rw[StrLaws.sliceIdx_none_hi]
 rw[e];by_cases h:a<=x.length
 ·rw[both x h,take_of_length_le (by rw[length_drop];lia)]
 ·have e2:Txt.slice x (some (a:Int)) (some (x.length:Int))=Txt.slice x (some ((x.length:Nat):Int)) (some (x.length:Int)):=by
   unfold Txt.slice;rw[clip,clip x.length x.length];rw[Nat.min_eq_right (by lia:x.length<=a),Nat.min_self]
  rw[e2,both x (Wu _),List.drop_eq_nil_of_le (by lia:x.cps.toList.length<=a),Nat.sub_self];simp
end SLi
namespace L2
open PySem PySem.Spec PyProof.Rows
abbrev mkT(r:List Nat):V:=V.str ⟨r.toArray⟩
abbrev sD(r:List Nat):D:=.str ⟨r.toArray⟩
def SJ{cs:List (List Nat)}{i:Nat}(hi:i<cs.length):(cs.map mkT)[i]?=some (mkT cs[i]):=by
 rw[W8,Wr hi]
 rfl
def bC{α:Type}(x:α)(xs:List α):atI (x::xs) 0=some x:=aZ (xs:=x::xs) (j:=0) rfl
def Rh:R2:=fun x y H Q=>∃(a b:Addr)(xs ys:List V),x=.ref a/\y=.ref b/\H a=some (.tup xs)/\H b=some (.tup ys)/\xs.length+ys.length<=sizeLine/\∀(q:Addr)(H':Hp),Same H H'->H' q=some (.tup (xs++ys))->Q (.ref q) H'
def jr:OpR X (binaryOp .Add) Rh:=by
 intro pins s σ H x y v u Q I rx ry h;obtain⟨a,b,xs,ys,rfl,rfl,ha,hb,hz,q⟩:=h;cases xs with
 | cons x1 xs =>
  refine BX pins s σ H (.ref a) (.ref b) v u Q I rx ry ⟨a,b,_,_,rfl,rfl,SqT.of ha,SqT.of hb,by simp,hz,fun z=>?_,fun z p hp=>q p _ (ao hp _) ak⟩;refine q a H (Same.refl H) ?_;rw[ha,z,append_nil]
 | nil =>
  cases rx;cases ry;obtain⟨its,r1,p1,_⟩:=I.tuple (SqT.of (K:=X.K) ha);obtain⟨its2,r2,p2,_⟩:=I.tuple (SqT.of (K:=X.K) hb);cases r1;obtain⟨⟨cls,dd,data,sl⟩,ho,hc,n,hd⟩:=id p1;obtain⟨⟨cls2,dd2,data2,sl2⟩,ho2,hc2,n2,hd2⟩:=id p2;simp only at hc hd hc2 hd2;subst hc hd hc2 hd2;refine concat_meets ⟨_,ho,rfl⟩ ⟨_,ho2,rfl⟩ noFill_tuple_add seq_tuple_add PySem.F.slot_tuple_add PySem.F.entry_tuple_add (PySem.F.args_tuple_add_2 _ _) (tuple_addW0 a b _ its2.toArray n n2 dd dd2 sl sl2 rfl) ⟨ho,ho2,?_⟩;exact⟨.ref b,H,I,rfl,q b H (Same.refl H) hb⟩
theorem zM(a:Str):∀ xs:List Str,inV (.str a) (xs.map V.str)=decide (a∈xs)
 | []=>rfl
 | x::xs=>by
  have ih:=zM a xs;unfold inV at ih ⊢;rw[map_cons,any_cons,ih];show(x == a || decide (a∈xs))=_;rw[Bool.eq_iff_iff,Bool.or_eq_true,decide_eq_true_eq,decide_eq_true_eq,mem_cons,beq_iff_eq];constructor
  ·rintro(h | h)
   ·exact .inl h.symm
   ·exact .inr h
  ·rintro(h | h)
   ·exact .inl h.symm
   ·exact .inr h
def j4{prog:Program}{w:World}{A:Around}{E:Value->Shared->Prop}{s:Shared}{t sl:Addr}{items:Array Value}{vl vu:Value}{lo hi:Option Int}{Q:Value->Shared->Prop}(ht:IsTup s.heap t items)(hs:s.heap.IsSliceOf sl vl vu .none)(pl:IsPart vl lo)(pu:IsPart vu hi)
  (hw:HT.sIx items.size 0 lo=0/\HT.sIx items.size items.size hi=items.size)(h:Q (.ref t) s):wpAny (model prog w) A (getItem (.ref t) (.ref sl)) Q E s:=by
 obtain⟨os,hos,hcs,hds⟩:=id hs;have hTs:s.TypeIs (.ref sl) "slice":=⟨os,hos,hcs⟩
 unfold getItem
 try with_reducible refine WW ?_
 first | refine Wo (Wq ?_) | skip
 refine Wo (wpAny_sequenceKey ht.typeIs (by decide) ?_);refine Wo (wpAny_callSpecial?_slot (name:=Str.ofString "__getitem__") ht.typeIs PyProof.Rows.slot_tuple_getitem
  (W6 PyProof.Rows.slot_tuple_getitem ht.typeIs PyProof.Rows.entry_tuple_getitem ?_ (PyProof.Rows.args_tuple_getitem _ _)))
 show wpAny _ _ (Builtin.Tuple.tupleItemsOf (.ref t) >>= _) _ _ s;refine Wo (PyProof.Rows.tupleItemsOf_ ht ?_);refine Wo (wpAny_typeOf hTs ?_);rw[if_pos (by decide)];refine Wo (HT.gJ hs pl pu ?_);have hno:(((HT.sIx items.size 0 lo:Nat):Int) == 0 && (1:Int) == 1 && (HT.sIx items.size items.size hi - HT.sIx items.size 0 lo) == items.size)=true:=by
  rw[hw.1,hw.2];simp
 show wpAny _ _ (if (((HT.sIx items.size 0 lo:Nat):Int) == 0 && (1:Int) == 1 && (HT.sIx items.size items.size hi - HT.sIx items.size 0 lo) == items.size)=true then _ else _) _ _ s;rw[if_pos hno];refine Wo (m:=Builtin.Tuple.tupleIsExact _) (Wo (wpAny_typeOf ht.typeIs (Wq ?_)));rw[if_pos (by decide)];exact Wo (wpAny_rule (Wq ⟨_,rfl,Wq h⟩))
def Rg(K:W.Frag):V->Option Int->Option Int->Hp->VK->Prop:=fun x lo hi H Q=>∃ a xs,x=.ref a/\H a=some (.tup xs)/\∀(p:Addr)(H':Hp),Same H H'->H' p=some (.tup (u6 xs lo hi))->Q (.ref p) H'
def wu:SlR X (Rg X.K):=by
 intro pins s σ H x v vl vu lo hi sl Q I rx hs pl pu h;obtain⟨a,xs,rfl,hx,q⟩:=h;by_cases hw:HT.sIx xs.length 0 lo=0/\HT.sIx xs.length xs.length hi=xs.length
 ·cases rx;obtain⟨its,r,ht,hz⟩:=I.tuple (SqT.of hx);have hlen:its.toArray.size=xs.length:=by rw[Xd];exact r.length.symm
  refine⟨"tuple",_,PyProof.Rows.slot_tuple_getitem.lookup,ht.typeIs,?_⟩;refine j4 ht hs pl pu (by rw[hlen];exact hw) ⟨.ref a,H,I,rfl,q a H (Same.refl H) ?_⟩;rw[hx];unfold u6;rw[hw.1,hw.2,drop_zero,Nat.sub_zero,take_length]
 ·exact Pq pins s σ H _ v vl vu lo hi sl Q I rx hs pl pu ⟨a,xs,rfl,SqT.of hx,hw,fun p hp=>q p _ (ao hp _) ak⟩
def Ss:R2:=fun x y H Q=>∃(l b:Addr)(xs:List V),x=.ref l/\y=.ref b/\H l=some (.lst xs)/\H b=some (.lst [])/\Q (.bl (!xs.isEmpty)) H
def wC(hu:X.A.units<cLine):OpR X (compareOp .NotEq) Ss:=by
 intro pins s σ H x y v u Q I rx ry h;obtain⟨l,b,xs,rfl,rfl,hl,hb,q⟩:=h;cases rx;cases ry;obtain⟨its,r1,p1,_⟩:=I.list (SqL.of (K:=X.K) hl);obtain⟨its2,r2,p2,_⟩:=I.list (SqL.of (K:=X.K) hb);cases r2;cases r1 with
 | nil=>exact SeqAt.RcNeAt.lists (e:=fun _=>true) p1.isList p2.isList rfl hu (fun j h1 _=>absurd h1 (Nat.not_lt_zero j)) X.prog X.w _ _ ⟨.bl false,H,I,rfl,q⟩
 | cons _ _=>exact SeqAt.RcNeAt.lists_lengths p1.isList p2.isList (by simp) hu X.prog X.w _ _ ⟨.bl true,H,I,rfl,q⟩
theorem Dr(I:Inv X pins σ H s):∀(n:Nat)(d:D)(A:Around)(x y:V)(v u:Value),cN n d->Den H x d->Den H y d->RelV x v->RelV y u->A.units+n<cLine->SeqAt.EqAt A s v u true
 | _,.non,A,x,y,v,u,hs,hx,hy,rx,ry,hu=>absurd rfl hs.ne
 | _,.bl b,A,x,y,v,u,hs,hx,hy,rx,ry,hu=>by
  have e1:=hx;have e2:=hy;subst e1;subst e2;cases rx;cases ry;exact SeqAt.EqAt.same _
 | _,.int i,A,x,y,v,u,hs,hx,hy,rx,ry,hu=>by
  have e1:=hx;have e2:=hy;subst e1;subst e2;obtain⟨t,rfl⟩:=rx;obtain⟨t',rfl⟩:=ry;have:=SeqAt.EqAt.int_int (A:=A) (s:=s) i t i t'
  simpa using this
 | _,.str z,A,x,y,v,u,hs,hx,hy,rx,ry,hu=>by
  have e1:=hx;have e2:=hy;subst e1;subst e2;obtain⟨t,rfl⟩:=rx;obtain⟨t',rfl⟩:=ry;have:=SeqAt.EqAt.str_str (A:=A) (s:=s) z t z t'
  simpa using this
 | 0,.tup ds,A,x,y,v,u,hs,hx,hy,rx,ry,hu=>absurd rfl (hs.2 ds)
 | n+1,.tup ds,A,x,y,v,u,hs,hx,hy,rx,ry,hu=>by
  obtain⟨a,vs,rfl,ha,hda⟩:=aN hx;obtain⟨b,us,rfl,hb,hdb⟩:=aN hy;cases rx;cases ry;by_cases hab:a=b
  ·subst hab;exact SeqAt.EqAt.same _
  ·obtain⟨its,r1,p1,_⟩:=I.tuple (SqT.of ha);obtain⟨its2,r2,p2,_⟩:=I.tuple (SqT.of hb);have l1:=hda.len;have l2:=hdb.len;have m1:=r1.length;have m2:=r2.length;have key:=SeqAt.EqAt.of_refs hab (SeqAt.RcAt.tuples (A:=A) (e:=fun _=>true) p1 p2 (by lia) fun j h1 h2=>?_)
   ·have e:((List.range (min its.toArray.size its2.toArray.size)).all (fun _=>true) && its.toArray.size == its2.toArray.size)=true:=by
     simp;lia
    rw[e] at key;exact key
   ·have hj1:j<vs.length:=by simpa [m1] using h1
    have hj2:j<us.length:=by simpa [m2] using h2
    obtain⟨d1,g1,b1⟩:=hda.at_ (Wr hj1);obtain⟨d2,g2,b2⟩:=hdb.at_ (Wr hj2);rw[g1] at g2;cases g2;obtain⟨w1,hw1,rw1⟩:=r1.get (Wr hj1);obtain⟨w2,hw2,rw2⟩:=r2.get (Wr hj2);have q1:its.toArray[j]=w1:=by
     have:=(Wt.mp hw1).2
     simpa using this
    have q2:its2.toArray[j]=w2:=by
     have:=(Wt.mp hw2).2
     simpa using this
    rw[q1,q2];exact Dr I n d1 A.in1 _ _ _ _ ((hs.2 ds rfl).2 d1 (W2 g1)) b1 b2 rw1 rw2 (by first | (simp only[Around.in1];lia) | lia)
def S6:R2:=fun x y H Q=>∃(ds:List D)(n:Nat),Den H x (.tup ds)/\Den H y (.tup ds)/\cN n (.tup ds)/\n<=60/\Q (.bl false) H
def Ia(hu:X.A.units+64<cLine):OpR X (compareOp .NotEq) S6:=by
 intro pins s σ H x y v u Q I rx ry h;obtain⟨ds,n,hx,hy,hs,hn,q⟩:=h;obtain⟨a,vs,rfl,ha,hda⟩:=aN hx;obtain⟨b,us,rfl,hb,hdb⟩:=aN hy;cases rx;cases ry;cases n with
 | zero=>exact absurd rfl (hs.2 ds)
 | succ n =>
 obtain⟨its,r1,p1,_⟩:=I.tuple (SqT.of ha);obtain⟨its2,r2,p2,_⟩:=I.tuple (SqT.of hb);have l1:=hda.len;have l2:=hdb.len;have m1:=r1.length;have m2:=r2.length;have key:=SeqAt.RcNeAt.tuples (A:=X.A) (e:=fun _=>true) p1 p2 (by lia) fun j h1 h2=>?_
 ·have e:(!((List.range (min its.toArray.size its2.toArray.size)).all (fun _=>true) && its.toArray.size == its2.toArray.size))=false:=by
   simp;lia
  rw[e] at key;exact key X.prog X.w _ _ ⟨.bl false,H,I,rfl,q⟩
 ·have hj1:j<vs.length:=by simpa [m1] using h1
  have hj2:j<us.length:=by simpa [m2] using h2
  obtain⟨d1,g1,b1⟩:=hda.at_ (Wr hj1);obtain⟨d2,g2,b2⟩:=hdb.at_ (Wr hj2);rw[g1] at g2;cases g2;obtain⟨w1,hw1,rw1⟩:=r1.get (Wr hj1);obtain⟨w2,hw2,rw2⟩:=r2.get (Wr hj2);have q1:its.toArray[j]=w1:=by
   have:=(Wt.mp hw1).2
   simpa using this
  have q2:its2.toArray[j]=w2:=by
   have:=(Wt.mp hw2).2
   simpa using this
  rw[q1,q2];exact Dr I n d1 X.A.in1 _ _ _ _ ((hs.2 ds rfl).2 d1 (W2 g1)) b1 b2 rw1 rw2 (by first | (simp only[Around.in1];lia) | lia)
def GQ(hN:X.N.Nodup)(hix:X.N[ix]?=some xn)(hxl:X.env.scope.names.lookup xn=some .local)(N:List Str)(lift:St->St)(hc:X.calm=true)(hi:PI X tg iter wi)
  (hkind:scope.kind=.function)(hcell:∀ y∈scope.names,y.2≠.cell)(hfree:∀ y∈scope.names,y.2=.free->X.env.kindOf y.1=some .cell\/X.env.kindOf y.1=some .free)
  (hnames:∀ y∈scope.names,y.2=.local->scope.names.lookup y.1=some .local)
  (hlen:∀ σ:St,σ.length=X.N.length->(lift σ).length=N.length)
  (hσ:∀(σ:St)(i:Nat)(x:Str)(v:V),σ.length=X.N.length->N[i]?=some x->(lift σ)[i]?=some (some v)->scope.names.lookup x=some .free/\∃ j:Nat,X.N[j]?=some x/\σ[j]?=some (some v))
  (hg:∀ cl C s H ex pn E,PG (cL X scope N cl C s H ex pn E) tg g)(ht:∀ cl C s H ex pn E,LK (cL X scope N cl C s H ex pn E) ifs tc)(he:∀ cl C s H ex pn E,PE (cL X scope N cl C s H ex pn E) elt te)
  (hs:∀ x,foldedSetIterable iter X.env x=pure x)(hsw:swapsWith (.ListComp elt [⟨tg,iter,ifs,0⟩] scope pos) (some (.Name xn pos')) spos.line X.env=pure true) :
  PS X (.Assign [.Name xn pos'] (.ListComp elt [⟨tg,iter,ifs,0⟩] scope pos) spos) (NP (Fz wi g tc te lift) (zf ix)):=by
 intro pins s σ H D I h;rw[exec_Assign_Name_used _ _ _ _ hsw];refine Wo (wpAny_standAt (Wo ?_))
 suffices key:wpAny (model X.prog X.w) X.A (comprehension (.ListComp elt [⟨tg,iter,ifs,0⟩] scope pos) scope X.env (firstIterPos [⟨tg,iter,ifs,0⟩] pos) (newList []) (firstAsync [⟨tg,iter,ifs,0⟩]) (firstIter [⟨tg,iter,ifs,0⟩] X.env) (some (assign (.Name xn pos') X.env))) (fun _ s''=>∃ σ' H',Inv X pins σ' H' s''/\D.nx σ' H') X.xe s by
  exact Wo (thn key fun _ s' q=>Wq (Wq q))
 obtain⟨cl,hclos,hcl1,hcl2⟩:=pH fun y hy hf=>I.ok.has y.1 (hfree y hy hf)
 refine wpAny_comprehension_free rfl hs hclos hkind hnames (thn (hi pins s σ H _ I h) fun v s1 h1=>thn h1 fun itv s2 h2=>?_);obtain⟨it,fp,tn,J,H2,e,I2,T,st2,f2,q⟩:=h2;subst e;refine Xe (wpAny_newFunctionEnv hcell (by intro y hy;simp at hy) (fun h₁ hns₁ hsb₁=>?_) hkind);have I3:=I2.lnew (t':=s2.toks) .nil (Nat.zero_le _);have fr:=I2.fresh;have hold:=fun b o e=>hsb₁.extBut b o (Wx (Ww e)) (Ws _ e)
 have f3:∀ b∈fp,Bj X pins (upd H2 s2.heap.objs.size (.lst [])) b:=fun b hb=>by
  obtain⟨o,eo,_⟩:=T.obj 0 _ st2 b hb;exact⟨by rw[aF (Wx (Ww eo))];exact(f2 b hb).1,(f2 b hb).2⟩
 have fo:∀ b∈fp,∃ o,(s2.heap.push { cls:=.type "list",data:=.seq ([]:List Value).toArray }).get? b=some o:=fun b hb=>by
  obtain⟨o,eo,_⟩:=T.obj 0 _ st2 b hb;exact⟨o,Ws _ eo⟩
 generalize hP:s2.heap.push { cls:=.type "list",data:=.seq ([]:List Value).toArray }=P at *;obtain⟨W,⟨m0,w0⟩,turn⟩:=q s2.heap.objs.size fr;generalize hL:s2.heap.objs.size=L at *
 let R:Result->Shared->Prop:=compPost (model X.prog X.w) X.A X.xe (some (assign (.Name xn pos') X.env)) (fun _ s''=>∃ σ' H',Inv X pins σ' H' s''/\D.nx σ' H') (.ref L) P.objs.size
 let Y:Cx:=cL X scope N cl P.objs.size { s2 with heap:=P } (upd H2 L (.lst [])) fp (X.pn++pins) (notedBy (model X.prog X.w) X.A (compEnvC scope cl P.objs.size X.env) fun e s'=>R (.error e) s')
 have IY:Inv Y [] (lift σ) (upd H2 L (.lst [])) { s2 with heap:=h₁,toks:=s2.toks+([]:List (Str × Value)).length } :=
  xq I3 hkind hcell hfree hcl1 hcl2 f3 fo (hlen σ I.len) (fun i x v=>hσ σ i x v I.len) hns₁ hold
 have stY:=T.keep _ _ _ st2 fun b hb o e=>hold b o (by rw[← hP];exact Ws _ e)
 have fC:∀ b∈fp,b≠P.objs.size/\(b∈fp):=fun b hb=>by
  obtain⟨o,eo⟩:=fo b hb;exact⟨Wx (Ww eo),hb⟩
 have fpY:∀ {H':Hp},(∀ b∈fp,H' b=none)->∀ b∈fp,Bj Y [] H' b:=fun {H'} hn b hb=>by
  refine⟨hn b hb,(fC b hb).1,fun z=>?_,.inl hb,fun x c ex=>(f3 b hb).2.2.2.2.1 x c (hcl2 _ _ ex),fun p hp=>?_⟩
  ·rcases mem_cons.mp (I3.stkSub b z) with y | y
   ·exact(f3 b hb).2.1 y
   ·exact(f3 b hb).2.2.1 y
  ·have hp':=hp;rw[append_nil] at hp';exact(f3 b hb).2.2.2.2.2 p hp'
 have loop:∀ s4:Shared,s4={ s2 with heap:=h₁,toks:=s2.toks+([]:List (Str × Value)).length } ->
   codeAny (model X.prog X.w) X.A (.compLoop (.ListComp elt [⟨tg,iter,ifs,0⟩] scope pos) 0 (.ref it) (.ref L) (compEnvC scope cl P.objs.size X.env)) R s4:=by
  rintro s4 rfl;refine d9 (fun n s'=>∃ i σ' H',Inv Y [] σ' H' s'/\tn i s'.heap/\(∀ b∈fp,H' b=none)/\W i n σ' H') ?_ m0 ⟨0,_,_,IY,stY,fun b hb=>(f3 b hb).1,w0⟩;rintro n s5 ⟨i,σ5,H5,I5,st5,fr5,w5⟩;rcases turn i n σ5 H5 w5 with⟨stop,qn⟩ | ⟨go,Nx,hNx,step⟩
  ·refine thn (T.done Y rfl rfl rfl hc i [] s5 σ5 H5 Y.xe I5 (fpY fr5) st5 stop) fun r s6 ⟨hr,I6⟩=>?_
   subst hr;obtain⟨m6,hn6,_⟩:=id I6.loc;have IX:=I3.call' I6.os I6.base I6.hok I6.bare fun b hb=>⟨(f3 b hb).2.2.2.1,(f3 b hb).2.1,(f3 b hb).2.2.2.2.1,(f3 b hb).2.2.2.2.2⟩
   have nC:∀ x c,X.env.cells.lookup x=some c->c≠P.objs.size:=fun x c ec z=>by
    obtain⟨v0,qv⟩:=I3.cell x c ec;exact absurd qv.lt (by rw[z];exact Nat.lt_irrefl _)
   have nP:∀ p∈X.pn++pins,p.1≠P.objs.size:=fun p hp z=>by
    have z0:=Ww (I3.pin p hp).1;exact absurd z0 (by rw[z];exact Nat.lt_irrefl _)
   refine wpAny_assign_Name (tK IX hN hix (.inl hxl) (v:=.ref L) rfl (fun s7 I7 hsb=>?_) (.inr hxl));obtain⟨a7,sb7,ha7⟩:=hsb;have na7:P.objs.size≠a7:=by
    rcases ha7 with z | z
    ·rw[z];exact Nat.ne_of_gt I3.lt
    ·exact(nC _ _ z).symm
   refine⟨m6,hn6.at' fun o e=>(sb7.2 _ na7).trans e,fun h' sb=>⟨_,H5,I7.turned (fun b o hb e=>(sb.2 b hb).trans e) I6.free (Nat.ne_of_gt I3.lt) (.inr I3.sz) nC nP,qn⟩⟩
  ·refine thn (T.item Y rfl rfl rfl hc i [] s5 σ5 H5 Y.xe I5 (fpY fr5) st5 go) fun r s6 ⟨u,hr,h6⟩=>?_
   subst hr;refine thn h6 fun _ s7 ⟨x,H7,I7,r7,y7,st7,fr7⟩=>?_
   have I7':=I7.pinned (fpY fr7) (T.obj _ _ st7);refine thn (hg _ _ _ _ _ _ _ _ s7 σ5 H7 x u _ I7' r7 (step x H7 y7)) fun _ s8 ⟨σ8,H8,I8,q8⟩=>?_
   refine thn (ht _ _ _ _ _ _ _ _ s8 σ8 H8 _ I8 q8) fun ok s9 ⟨H9,I9,q9⟩=>?_
   have again:∀ {sx:Shared}{Hx:Hp},Inv Y ([]++pW fp s7.heap) σ8 Hx sx->Nx σ8 Hx->∃ m,m<n/\∃ i σ' H',Inv Y [] σ' H' sx/\tn i sx.heap/\(∀ b∈fp,H' b=none)/\W i m σ' H':=fun {sx Hx} Ix nx=>by
    obtain⟨m',hm,wx⟩:=hNx σ8 Hx nx;refine⟨m',hm,i+1,σ8,Hx,Ix.unpinned,T.keep _ _ _ st7 fun b hb o e=>(Ix.pin (b,o) (W4 _ (W4 _ (eO hb e)))).1,fun b hb=>?_,wx⟩;obtain⟨o,e,d⟩:=T.obj _ _ st7 b hb;exact(Ix.pin (b,o) (W4 _ (W4 _ (eO hb e)))).2.1
   cases ok with
   | false =>
    rw[if_neg Wz] at q9 ⊢;exact again I9 q9
   | true =>
    rw[if_pos rfl] at q9 ⊢;refine thn (he _ _ _ _ _ _ _ _ s9 σ8 H9 _ I9 q9) fun y s10 ⟨v10,H10,I10,r10,ys,hys,hz,q10⟩=>?_
    refine thn (bY _ s10 σ8 H10 (.ref L) [v10] (.ref L) [y] (fun _ H'=>Nx σ8 H') I10 rfl (.cons r10 .nil) ⟨L,ys,v10,rfl,rfl,hys,hz,q10⟩) fun _ s11 ⟨_,H11,I11,_,q11⟩=>?_
    exact again I11 q11
 exact codeAny_compStart_list (loop _ rfl) (T.self X.A 0 _ _ _ stY (loop _ rfl))
def wB(hN:X.N.Nodup)(hix:X.N[ix]?=some xn)(hxl:X.env.scope.names.lookup xn=some .local)(XN:List Str)(sc:Scope)(N:List Str)(js:List (Option Nat))(hXN:X.N=XN)(hsc:X.env.scope=sc)(hc:X.calm=true)(hi:PI X tg iter wi)
  (hkind:scope.kind=.function)(hchk:jX N js XN scope.names=true)(hcell:∀ y∈scope.names,y.2≠.cell)(hfree:∀ y∈scope.names,y.2=.free->sc.names.lookup y.1=some .cell\/sc.names.lookup y.1=some .free)
  (hnames:∀ y∈scope.names,y.2=.local->scope.names.lookup y.1=some .local)
  (hg:∀ cl C s H ex pn E,PG (cL X scope N cl C s H ex pn E) tg g)(ht:∀ cl C s H ex pn E,LK (cL X scope N cl C s H ex pn E) ifs tc)(he:∀ cl C s H ex pn E,PE (cL X scope N cl C s H ex pn E) elt te)
  (hs:∀ x,foldedSetIterable iter X.env x=pure x:=by intro _;rfl)(hsw:swapsWith (.ListComp elt [⟨tg,iter,ifs,0⟩] scope pos) (some (.Name xn pos')) spos.line X.env=pure true:=by rfl) :
  PS X (.Assign [.Name xn pos'] (.ListComp elt [⟨tg,iter,ifs,0⟩] scope pos) spos) (NP (Fz wi g tc te (j5 js)) (zf ix)):=by
 subst hXN;subst hsc;exact GQ hN hix hxl N (j5 js) hc hi hkind hcell hfree hnames (fun σ _=>Em hchk σ) (fun σ i x v _ h1 h2=>Jr hchk σ i x v h1 h2) hg ht he hs hsw
end L2
set_option maxHeartbeats 1000000
namespace SO
open PySem PySem.W PyProof.Rows
variable {O:KeyOrd}{key:Nat->O.α}{N:Nat}
def KN(key:Nat->O.α)(p:Array Nat)(i:Nat):O.α:=key (p.getD i 0)
def dh(key:Nat->O.α)(p:Array Nat)(k:Nat):Prop:=∀ i j,i<=j->j<k->O.kle (KN key p i) (KN key p j)
def zR(key:Nat->O.α)(p:Array Nat)(k:Nat):Prop:=∀ i j,i<=j->j<k->O.kle (KN key p j) (KN key p i)
def InN(N:Nat)(p:Array Nat):Prop:=p.toList.Perm (List.range N)
def InN.size(h:InN N p):p.size=N:=by simpa using h.length_eq
def InN.lt(h:InN N p)(hi:i<N):p.getD i 0<N:=by
 have hs:i<p.size:=by rw[h.size];exact hi
 have e:p.getD i 0=p[i]:=by simp[Array.getD,hs]
 rw[e];exact mem_range.mp (h.mem_iff.mp (by simp))
def InN.of(h:InN N p)(g:q.Perm p):InN N q:=(Array.perm_iff_toList_perm.mp g).trans h
def jE(h:p[i]?=q[j]?):KN key p i=KN key q j:=by
 unfold KN;rw[Array.getD_eq_getD_getElem?,Array.getD_eq_getD_getElem?,h]
def tZ(hs:src<p.size)(hd:d<=src)(k:Nat) :
  KN key (bubble p src d) k=if k=src - d then KN key p src else if src - d<k/\k<=src then KN key p (k - 1) else KN key p k:=by
 have e:=getElem?_bubble hs d hd k;by_cases h1:k=src - d
 ·rw[if_pos h1] at e ⊢;exact jE e
 ·rw[if_neg h1] at e ⊢;by_cases h2:src - d<k/\k<=src
  ·rw[if_pos h2] at e ⊢;exact jE e
  ·rw[if_neg h2] at e ⊢;exact jE e
def Ak(hj:j<=p.size)(k:Nat):KN key (kas_rev p i j) k=if i<=k/\k<j then KN key p (i+j - 1 - k) else KN key p k:=by
 have e:=getElem?_mirror_all (i:=i) hj k;unfold kas_rev;by_cases h1:i<=k/\k<j
 ·rw[if_pos h1] at e ⊢;exact jE e
 ·rw[if_neg h1] at e ⊢;exact jE e
def dN(hj:j<=p.size)(heq:∀ k,i<=k->k<j->KN key p k=KN key p (j - 1))(k:Nat):KN key (kas_rev p i j) k=KN key p k:=by
 rw[Ak hj];split
 ·rw[heq _ (by lia) (by lia),heq k (by lia) (by lia)]
 ·rfl
def InN.rev(h:InN N p)(i j:Nat):InN N (kas_rev p i j):=h.of (mirror_perm _ _ _ _)
section
variable {cmp:Nat->Nat->(Bool->Shared->Prop)->Shared->Prop}{s:Shared}
def Cmp(key:Nat->O.α)(N:Nat)(cmp:Nat->Nat->(Bool->Shared->Prop)->Shared->Prop)(s:Shared):Prop :=
 ∀(i j:Nat)(C:Bool->Shared->Prop),i<N->j<N->C (O.blt (key i) (key j)) s->cmp i j C s
def ask{α:Type}{k:Bool->KasT α}{G:α->Shared->Prop}(hc:Cmp key N cmp s)(hp:InN N p)(hi:i<N)(hj:j<N)
  (h:(k (O.blt (KN key p i) (KN key p j))).kasWp cmp G s):(KasT.ask (p.getD i 0) (p.getD j 0) k).kasWp cmp G s :=
 hc _ _ _ (hp.lt hi) (hp.lt hj) h
theorem asc{G:Nat->Shared->Prop}(hc:Cmp key N cmp s)(hp:InN N p)(hN:nrem<=N):∀(f n:Nat),1<=n->n+f=nrem->dh key p n ->
  (∀ m,n<=m->m<=nrem->dh key p m->(m=nrem\/O.klt (KN key p m) (KN key p (m - 1)))->G m s)->(kas_asc p f n).kasWp cmp G s
 | 0,n,h1,hf,hs,h=>h n (Wu _) (by lia) hs (.inl (by lia))
 | f+1,n,h1,hf,hs,h=>by
  unfold kas_asc;refine ask hc hp (by lia) (by lia) ?_;cases hl:O.blt (KN key p n) (KN key p (n - 1)) with
  | true =>
   rw[if_pos rfl];exact h n (Wu _) (by lia) hs (.inr hl)
  | false =>
   rw[if_neg (by simp)];refine asc hc hp hN f (n+1) (by lia) (by lia) (fun i j hij hj=>?_) fun m a b c d=>h m (by lia) b c d
   by_cases hjx:j<n
   ·exact hs i j hij hjx
   ·have hj':j=n:=by lia
    subst hj';by_cases hi':i=j
    ·subst hi';exact KeyOrd.kle_refl _
    ·exact KeyOrd.kle_trans (hs i (j - 1) (by lia) (by lia)) hl
theorem desc{G:Array Nat × Nat × Nat->Shared->Prop}(hc:Cmp key N cmp s)(hN:nrem<=N):∀(f:Nat)(p:Array Nat)(n q:Nat),InN N p->1<=n->n+f=nrem->zR key p n->q+1<=n ->
  (∀ i,n - (q+1)<=i->i<n->KN key p i=KN key p (n - 1)) ->
  (∀ p m q,InN N p->n<=m->m<=nrem->zR key p m->q+1<=m->(∀ i,m - (q+1)<=i->i<m->KN key p i=KN key p (m - 1))->G (p,m,q) s)->(kas_desc f p n q).kasWp cmp G s
 | 0,p,n,q,hp,h1,hf,hs,hq,he,h=>h p n q hp (Wu _) (by lia) hs hq he
 | f+1,p,n,q,hp,h1,hf,hs,hq,he,h=>by
  unfold kas_desc;have hsz:n<=p.size:=by rw[hp.size];lia
  refine ask hc hp (by lia) (by lia) ?_;cases hl:O.blt (KN key p n) (KN key p (n - 1)) with
  | true =>
   rw[if_pos rfl];have step1:∀ xs:Array Nat,(∀ k,KN key xs k=KN key p k)->zR key xs (n+1):=by
    intro xs hk i j hij hj;rw[hk,hk];by_cases hjx:j<n
    ·exact hs i j hij hjx
    ·have hj':j=n:=by lia
     subst hj';by_cases hi':i=j
     ·subst hi';exact KeyOrd.kle_refl _
     ·exact KeyOrd.kle_trans (KeyOrd.kle_of_klt hl) (hs i (j - 1) (by lia) (by lia))
   by_cases hneq:q>0
   ·rw[if_pos hneq];exact desc hc hN f _ (n+1) 0 (hp.rev _ _) (by lia) (by lia) (step1 _ (dN hsz he)) (by lia) (fun i a b=>by congr 1;lia) fun p m q x a b c d e=>h p m q x (by lia) b c d e
   ·rw[if_neg hneq];exact desc hc hN f _ (n+1) 0 hp (by lia) (by lia) (step1 _ fun _=>rfl) (by lia) (fun i a b=>by congr 1;lia) fun p m q x a b c d e=>h p m q x (by lia) b c d e
  | false =>
   rw[if_neg (by simp)];refine ask hc hp (by lia) (by lia) ?_;cases hg:O.blt (KN key p (n - 1)) (KN key p n) with
   | true =>
    rw[if_pos rfl];exact h p n q hp (Wu _) (by lia) hs hq he
   | false =>
    rw[if_neg (by simp)];have heqx:=KeyOrd.kle_antisymm hg hl;refine desc hc hN f p (n+1) (q+1) hp (by lia) (by lia) (fun i j hij hj=>?_) (by lia) (fun i a b=>?_) fun p m q x a b c d e=>h p m q x (by lia) b c d e
    ·by_cases hjx:j<n
     ·exact hs i j hij hjx
     ·have hj':j=n:=by lia
      subst hj';by_cases hi':i=j
      ·subst hi';exact KeyOrd.kle_refl _
      ·rw[heqx];exact hs i (j - 1) (by lia) (by lia)
    ·rw[show n+1 - 1=n by lia];by_cases hix:i=n
     ·subst hix;rfl
     ·rw[heqx];exact he i (by lia) (by lia)
def tail3{G:Nat × Array Nat->Shared->Prop}(hc:Cmp key N cmp s)(hp:InN N p)(hN:nrem<=N)(h1:1<=n)(hn:n<=nrem)(hs:zR key p n)
  (h:∀ m q,InN N q->1<=m->m<=nrem->dh key q m->G (m,q) s):(kas_tail3 n nrem p).kasWp cmp G s:=by
 unfold kas_tail3;rw[KasT.kasWp_bind];have hsz:n<=p.size:=by rw[hp.size];lia
 refine asc hc (hp.rev _ _) hN _ n h1 (by lia) (fun i j hij hj=>?_) fun m a b c _=>h m _ (hp.rev _ _) (by lia) b c
 rw[Ak hsz,Ak hsz,if_pos (by lia),if_pos (by lia)];exact hs _ _ (by lia) (by lia)
def descPart{G:Nat × Array Nat->Shared->Prop}(hc:Cmp key N cmp s)(hp:InN N p)(hN:nrem<=N)(hn:n+1<=nrem)(hs:zR key p (n+1))
  (h:∀ m q,InN N q->1<=m->m<=nrem->dh key q m->G (m,q) s):(kas_descPart n nrem p).kasWp cmp G s:=by
 unfold kas_descPart;rw[KasT.kasWp_bind];refine desc hc hN _ p (n+1) 0 hp (by lia) (by lia) hs (by lia) (fun i a b=>by congr 1;lia) fun p' m q hp' hm1 hm2 hf hq he=>?_
 dsimp only;have hsz:m<=p'.size:=by rw[hp'.size];lia
 by_cases hneq:q>0
 ·rw[if_pos hneq];refine tail3 hc (hp'.rev _ _) hN (by lia) hm2 (fun i j hij hj=>?_) h;rw[dN hsz he,dN hsz he];exact hf i j hij hj
 ·rw[if_neg hneq];exact tail3 hc hp' hN (by lia) hm2 hf h
def count{G:Nat × Array Nat->Shared->Prop}(hc:Cmp key N cmp s)(hp:InN N p)(hN:nrem<=N)(h1:1<=nrem)
  (h:∀ m q,InN N q->1<=m->m<=nrem->dh key q m->G (m,q) s):(kas_count nrem p).kasWp cmp G s:=by
 unfold kas_count;rw[KasT.kasWp_bind];refine asc hc hp hN _ 1 (Wu _) (by lia) (fun i j hij hj=>by have:i=j:=(by lia);subst this;exact KeyOrd.kle_refl _) fun n hn1 hn2 hsn hor=>?_
 by_cases hnn:n=nrem
 ·rw[if_pos (by simpa using hnn)];exact h n p hp hn1 hn2 hsn
 ·rw[if_neg (by simpa using hnn)];have hlt:=hor.resolve_left hnn;by_cases hgt:n>1
  ·rw[if_pos hgt];refine ask hc hp (by lia) (by lia) ?_;cases hrose:O.blt (KN key p 0) (KN key p (n - 1)) with
   | true =>
    rw[if_pos rfl];exact h n p hp hn1 hn2 hsn
   | false =>
    rw[if_neg (by simp)];have hsz:n<=p.size:=by rw[hp.size];lia
    have hall:∀ k,0<=k->k<n->KN key p k=KN key p (n - 1):=by
     intro k _ hk;have a1:=hsn 0 k (by lia) hk;have a2:=hsn k (n - 1) (by lia) (by lia);exact KeyOrd.kle_antisymm a2 (KeyOrd.kle_trans hrose a1)
    refine descPart hc (hp.rev _ _) hN (by lia) (fun i j hij hj=>?_) h;rw[dN hsz hall,dN hsz hall];by_cases hjn:j<n
    ·rw[hall i (by lia) (by lia),hall j (by lia) hjn];exact KeyOrd.kle_refl _
    ·have hj':j=n:=by lia
     subst hj';by_cases hi':i=j
     ·subst hi';exact KeyOrd.kle_refl _
     ·rw[hall i (by lia) (by lia)];exact KeyOrd.kle_of_klt hlt
  ·rw[if_neg hgt];have hn1':n=1:=by lia
   subst hn1';refine descPart hc hp hN (by lia) (fun i j hij hj=>?_) h;by_cases hi':i=j
   ·subst hi';exact KeyOrd.kle_refl _
   ·have hi0:i=0:=by lia
    have hj1:j=1:=by lia
    subst hi0;subst hj1;exact KeyOrd.kle_of_klt hlt
theorem place{G:Nat->Shared->Prop}(hc:Cmp key N cmp s)(hp:InN N p)(hk:k<N)(hs:dh key p k):∀(f l r:Nat),l<=r->r<=k->r - l<=f ->
  (∀ i,i<l->O.kle (KN key p i) (KN key p k))->(∀ i,r<=i->i<k->O.klt (KN key p k) (KN key p i)) ->
  (∀ l,l<=k->(∀ i,i<l->O.kle (KN key p i) (KN key p k))->(∀ i,l<=i->i<k->O.klt (KN key p k) (KN key p i))->G l s)->(kas_place p k f l r).kasWp cmp G s
 | 0,l,r,hlr,hrk,hf,hlo,hhi,h=>by
  have e:l=r:=by lia
  subst e;exact h l hrk hlo hhi
 | f+1,l,r,hlr,hrk,hf,hlo,hhi,h=>by
  unfold kas_place;by_cases hge:l ≥ r
  ·rw[if_pos hge];have e:l=r:=by lia
   subst e;exact h l hrk hlo hhi
  ·rw[if_neg hge];refine ask hc hp hk (by lia) ?_;cases hl:O.blt (KN key p k) (KN key p ((l+r) / 2)) with
   | true =>
    rw[if_pos rfl];exact place hc hp hk hs f l ((l+r) / 2) (by lia) (by lia) (by lia) hlo (fun i a b=>KeyOrd.klt_of_klt_of_kle hl (hs _ _ a b)) h
   | false =>
    rw[if_neg (by simp)];exact place hc hp hk hs f ((l+r) / 2+1) r (by lia) (by lia) (by lia) (fun i a=>KeyOrd.kle_trans (hs i ((l+r) / 2) (by lia) (by lia)) hl) hhi h
theorem bin{G:Array Nat->Shared->Prop}(hc:Cmp key N cmp s)(hN:n<=N):∀(f:Nat)(p:Array Nat)(k:Nat),InN N p->k+f=n->dh key p k ->
  (∀ p,InN N p->dh key p n->G p s)->(kas_bin f p k).kasWp cmp G s
 | 0,p,k,hp,hf,hs,h=>h p hp (by rw[show n=k by lia];exact hs)
 | f+1,p,k,hp,hf,hs,h=>by
  unfold kas_bin;rw[KasT.kasWp_bind];refine place hc hp (by lia) hs k 0 k (by lia) (Wu _) (by lia) (fun i a=>by lia) (fun i a b=>by lia) fun l hlk hlo hhi=>?_
  refine bin hc hN f _ (k+1) (hp.of (bubble_perm _ _ _)) (by lia) (fun i j hij hj=>?_) h;have hks:k<p.size:=by rw[hp.size];lia
  rw[tZ hks (by lia),tZ hks (by lia),show k - (k - l)=l by lia]
  repeat' split
  all_goals first
   | (exfalso;lia)
   | exact KeyOrd.kle_refl _
   | exact hlo _ (by lia)
   | exact KeyOrd.kle_of_klt (hhi _ (by lia) (by lia))
   | exact hs _ _ (by lia) (by lia)
def sort{G:Array Nat->Shared->Prop}(hc:Cmp key N cmp s)(h1:1<=N)(h:∀ p,InN N p->dh key p N->G p s):(kas_sort N).kasWp cmp G s:=by
 unfold kas_sort;rw[KasT.kasWp_bind];refine count hc (show InN N _ by unfold InN;simp) (Wu _) h1 fun m q hq hm1 hm2 hs=>?_
 by_cases hlt:m<N
 ·rw[if_pos hlt,show max m 1=m by lia];exact bin hc (Wu _) _ q m hq (by lia) hs h
 ·rw[if_neg hlt];obtain rfl:m=N:=by lia
  exact h q hq hs
variable {prog:Program}{w:World}{A:Around}{E:Value->Shared->Prop}
def Keeps(h h':Heap):Prop:=∀ b o,h.get? b=some o->h'.get? b=some o
def nR{P:PySem.Fin->Shared->Prop}(key:Nat->O.α)(κ:SortKind)(ho:s.heap.get? a=some (seqObj "list" vs.toArray n))(h64:vs.length<64)
  (hk:2<=vs.length->∀ h',(∀ b o,b≠a->s.heap.get? b=some o->h'.get? b=some o)->∀(Q:SortKind->Shared->Prop),Q κ { s with heap:=h' }->wpAny (model prog w) A (keyKind' vs.toArray) Q E { s with heap:=h' })
  (hc:∀ h',(∀ b o,b≠a->s.heap.get? b=some o->h'.get? b=some o)->Cmp key vs.length (kas_ask prog w A κ vs) { s with heap:=h' })
  (h:∀ p,InN vs.length p->dh key p vs.length->P (.done (.ret .none)) { s with heap:=sortedHeap s.heap a vs (List.toArray (p.toList.map fun i=>vs.getD i Value.none)) }) :
  wpAny (model prog w) A (Builtin.«list.sort» ⟨[.ref a],[]⟩) P E s:=by
 rw[list_sort_plain];have ha:=Ww ho;refine Wo (listItems_at ho rfl ?_);refine Wo (listUpdate_at ho rfl ?_ (by rw[sizeLine_eq];simp;lia));obtain⟨e1,ho1⟩:∃ e1,(s.heap.update a (Obj.mapSeq fun _=>#[])).get? a=some (seqObj "list" #[] e1):=⟨_,get?_update_seq ho (fun _=>#[])⟩
 refine Wo (seqEpoch_at ho1 rfl ?_);refine Wo (wpAny_newTuple ?_ (by rw[sizeLine_eq];simp;lia));refine Wo (wpAny_newList ?_);refine WW ?_;have keep:∀ b o,b≠a->s.heap.get? b=some o->(((s.heap.update a (Obj.mapSeq fun _=>#[])).push (seqObj "tuple" vs.toArray 0)).push (seqObj "list" #[] 0)).get? b=some o:=fun b o hb q=>by
  have hlt:=Ww q;rw[Xc _ _ _ (by rw[size_push',WY];exact Wx (Xb hlt)),Xc _ _ _ (by rw[WY];exact Wx hlt),Heap.get?_update_ne _ _ _ _ hb];exact q
 have ho6:(((s.heap.update a (Obj.mapSeq fun _=>#[])).push (seqObj "tuple" vs.toArray 0)).push (seqObj "list" #[] 0)).get? a=some (seqObj "list" #[] e1):=by
  rw[Xc _ _ _ (by rw[size_push',WY];exact Wx (Xb ha)),Xc _ _ _ (by rw[WY];exact Wx ha)];exact ho1
 dsimp only;have hsz:vs.toArray.size=vs.length:=by simp
 by_cases h2:vs.toArray.size<2
 ·rw[if_pos h2,if_pos h2];refine Wo (Wq ?_);rw[StateT.run_pure];refine Wo (Wq ?_);refine Wo (seqEpoch_at ho6 rfl ?_);have e:((arrOf (SortSt.mk' general' (vs.toArray.zip vs.toArray) #[] 7 none)).map (·.2))=List.toArray ((List.range vs.length).toArray.toList.map fun i=>vs.getD i Value.none):=by
   apply Array.toList_inj.mp;apply ext_getElem
   ·simp
   ·intro i h1 h2';simp at h1 h2' ⊢;simp[h1]
  rw[e];refine Wo (listUpdate_at ho6 rfl ?_ (hsz2:=by rw[sizeLine_eq];simp;lia));simp only[bne_self_eq_false,Bool.false_eq_true,if_false];refine Wq (h _ (show InN vs.length (List.range vs.length).toArray from List.Perm.refl _) ?_);intro i j hij hj;have:i=j:=by lia
  subst this;exact KeyOrd.kle_refl _
 ·rw[if_neg h2,if_neg h2];refine Wo (hk (by lia) _ keep _ ?_);refine Wo (wpAny_mono (kat_run (Q:=fun st' s'=>∃ p:Array Nat,arrOf st'=p.map (kas_item (vs.toArray.zip vs.toArray))/\failedOf st'=none/\s'=_/\InN vs.length p/\dh key p vs.length)
   rfl (by lia) h64 (fun p st' s' _ har hf hg=>⟨p,har,hf,hg⟩) (sort (hc _ keep) (by lia) fun p a b=>⟨rfl,a,b⟩)) ?_ fun _ _ x=>x)
  rintro⟨⟨⟩,st'⟩ s' ⟨p,har,hf,rfl,hi,hso⟩;have hpl:p.size<=63:=by rw[hi.size];lia
  refine Wo (seqEpoch_at ho6 rfl ?_);rw[kat_snds rfl har];refine Wo (listUpdate_at ho6 rfl ?_ (hsz2:=by rw[sizeLine_eq];simp;lia));rw[hf];simp only[bne_self_eq_false,Bool.false_eq_true,if_false];exact Wq (h p hi hso)
def Bu{Q:Value->Shared->Prop}(key:Nat->O.α)(κ:SortKind)(h64:vs.length<64)(kg:Keeps s.heap g)
  (hcol:∀(Q:List Value->Shared->Prop),Q vs { s with heap:=g }->wpAny (model prog w) A.in1 (collect v) Q E { s with heap:=s.heap })
  (hk:2<=vs.length->∀ h',Keeps s.heap h'->∀(E:Value->Shared->Prop)(Q:SortKind->Shared->Prop),Q κ { s with heap:=h' }->wpAny (model prog w) A.in1.in1 (keyKind' vs.toArray) Q E { s with heap:=h' })
  (hc:∀ h',Keeps s.heap h'->Cmp key vs.length (kas_ask prog w A.in1.in1 κ vs) { s with heap:=h' })
  (h:∀(g':Heap)(p:Array Nat),Keeps s.heap g'->InN vs.length p->dh key p vs.length->(∃ n,g'.get? g.objs.size=some (seqObj "list" (List.toArray (p.toList.map fun i=>vs.getD i Value.none)) n))->Q (.ref g.objs.size) { s with heap:=g' }) :
  wpAny (model prog w) A (call (.builtin "sorted") [v]) Q E s:=by
 refine Calls.call_function_entry kind_sorted plain_sorted entry_sorted (args_sorted1 _) ?_;unfold Builtin.«sorted»;refine Wo (Wq ?_);refine Wo (hcol _ ?_);refine Wo (wpAny_newList ?_ (by rw[sizeLine_eq];lia));have hoL:(g.push (seqObj "list" vs.toArray 0)).get? g.objs.size=some (seqObj "list" vs.toArray 0):=Wy _ rfl;have keep:∀ h',(∀ b o,b≠g.objs.size->(g.push (seqObj "list" vs.toArray 0)).get? b=some o->h'.get? b=some o)->Keeps s.heap h':=fun h' k b o q=>by
  have q':=kg b o q;exact k b o (Wx (Ww q')) (Ws _ q')
 refine Wo (WW (W6 slot_list_sort ⟨_,hoL,rfl⟩ entry_list_sort (nR key κ hoL h64 (fun z h' k Q q=>hk z h' (keep h' k) _ Q q) (fun h' k=>hc h' (keep h' k)) fun p a1 a2=>⟨_,rfl,?_⟩) (args_list_sort _)));refine Wq ⟨_,rfl,h _ p (keep _ fun b o hb q=>?_) a1 a2 ?_⟩
 ·unfold sortedHeap;have hlt:=Ww q;rw[Heap.get?_update_ne _ _ _ _ hb,Xc _ _ _ (by rw[size_push',WY];exact Wx (Xb hlt)),Xc _ _ _ (by rw[WY];exact Wx hlt),Heap.get?_update_ne _ _ _ _ hb];exact q
 ·unfold sortedHeap;have ha:=Ww hoL;obtain⟨e1,ho1⟩:∃ e1,((g.push (seqObj "list" vs.toArray 0)).update g.objs.size (Obj.mapSeq fun _=>#[])).get? g.objs.size=some (seqObj "list" #[] e1):=⟨_,get?_update_seq hoL (fun _=>#[])⟩
  have ho6:((((g.push (seqObj "list" vs.toArray 0)).update g.objs.size (Obj.mapSeq fun _=>#[])).push (seqObj "tuple" vs.toArray 0)).push (seqObj "list" #[] 0)).get? g.objs.size=some (seqObj "list" #[] e1):=by
   rw[Xc _ _ _ (by rw[size_push',WY];exact Wx (Xb ha)),Xc _ _ _ (by rw[WY];exact Wx ha)];exact ho1
  exact⟨_,get?_update_seq ho6 _⟩
end
end SO
set_option maxHeartbeats 4000000
namespace PySem.SeqAt
open AutoSeq1 (wpAny_loadPart')
open MeetsSeq MeetsSeq2 MeetsSeq3 SeqRoads2
def zE(A:Around)(s:Shared)(y x:Value)(b:Bool):Prop :=
 ∀(prog:Program)(w:World)(E:Value->Shared->Prop)(Q:Value->Shared->Prop),Q (.bool b) s->wpAny (model prog w) A (richCompare .Lt y x) Q E s
def oJ(e f:Nat->Bool)(fin:Bool):List Nat->Bool
 | []=>fin
 | i::r=>if e i=true then oJ e f fin r else f i
def yW(l b:Addr)(items items2:Array Value)(n n2:Nat)(dd dd2:Option Addr)(sl sl2:Array (Option Value))(e f:Nat->Bool) :
  Meets (Builtin.«tuple.__lt__» ⟨[.ref l,.ref b],[]⟩)
   (fun A R s=>s.heap.get? l=some { cls:=.type "tuple",dict:=dd,data:=.seq items n,slots:=sl }/\s.heap.get? b=some { cls:=.type "tuple",dict:=dd2,data:=.seq items2 n2,slots:=sl2 } /\
    (∀ j (h1:j<items.size) (h2:j<items2.size),EqAt A.in1 s items[j] items2[j] (e j))/\(∀ j (h1:j<items.size) (h2:j<items2.size),e j=false->zE A.in1 s items[j] items2[j] (f j)) /\
    R (.ok (.ret (.bool (oJ e f (decide (items.size<items2.size)) (List.range (min items.size items2.size)))))) s) :=
 .of_wp fun prog w A R s h=>by
  obtain⟨hp,g,d,tk,os⟩:=s;obtain⟨hl,hb,he,hf,h⟩:=h;have f2:=AutoSeq1.sub_tuple_tuple;have hZ:(items.toList.zip items2.toList).length=min items.size items2.size:=by simp
  wp_walk using wpAny_loadPart' hl,wpAny_loadPart' hb,wpAny_forIn_list _ (fun rest b s'=>b.1=none/\s'=⟨hp,g,d,tk,os⟩/\∃ i,rest=(items.toList.zip items2.toList).drop i /\
   R (.ok (.ret (.bool (oJ e f (decide (items.size<items2.size)) ((List.range (min items.size items2.size)).drop i))))) ⟨hp,g,d,tk,os⟩) _
  case turn =>
   rintro⟨y,x⟩ rest b s' ⟨hb',rfl,i,hz,hR⟩;have hlt:i<(items.toList.zip items2.toList).length:=by
    rcases Nat.lt_or_ge i (items.toList.zip items2.toList).length with h' | h'
    ·exact h'
    ·rw[List.drop_of_length_le h'] at hz;cases hz
   have hm:i<min items.size items2.size:=hZ ▸ hlt;have h1:i<items.size:=WM hm (Nat.min_le_left _ _);have h2:i<items2.size:=WM hm (Nat.min_le_right _ _);rw[List.drop_eq_getElem_cons hlt] at hz;injection hz with hyx hrest;have hy:y=items[i]:=by have:=congrArg Prod.fst hyx;simpa using this
   have hx:x=items2[i]:=by have:=congrArg Prod.snd hyx;simpa using this
   subst hy hx;have hd:(List.range (min items.size items2.size)).drop i=i::(List.range (min items.size items2.size)).drop (i+1):=by simp[List.drop_eq_getElem_cons,hm]
   rw[hd] at hR;refine Wo (he i h1 h2 prog w _ _ ?_);cases hy:e i with
   | true =>
    have hR':R (.ok (.ret (.bool (oJ e f (decide (items.size<items2.size)) ((List.range (min items.size items2.size)).drop (i+1)))))) ⟨hp,g,d,tk,os⟩:=by
     have:oJ e f (decide (items.size<items2.size)) (i::(List.range (min items.size items2.size)).drop (i+1))=oJ e f (decide (items.size<items2.size)) ((List.range (min items.size items2.size)).drop (i+1)):=by
      show(if e i=true then _ else _)=_;rw[if_pos hy]
     rw[this] at hR;exact hR
    wp_walk
    exact⟨rfl,rfl,i+1,hrest,hR'⟩
   | false =>
    have hR':R (.ok (.ret (.bool (f i)))) ⟨hp,g,d,tk,os⟩:=by
     have:oJ e f (decide (items.size<items2.size)) (i::(List.range (min items.size items2.size)).drop (i+1))=f i:=by
      show(if e i=true then _ else _)=_;rw[if_neg (by simp[hy])]
     rw[this] at hR;exact hR
    simp only[Bool.not_false,if_true];refine Wo (wpAny_rule (Wo (hf i h1 h2 hy prog w _ _ ?_)))
    wp_walk
    exact⟨_,rfl,hR'⟩
  case fin =>
   rintro⟨b1,b2⟩ s' ⟨hb',rfl,i,hz,hR⟩;simp only at hb';subst hb';have hge:min items.size items2.size<=i:=by
    rcases Nat.lt_or_ge i (items.toList.zip items2.toList).length with h' | h'
    ·rw[List.drop_eq_getElem_cons h'] at hz;cases hz
    ·exact hZ ▸ h'
   rw[List.drop_of_length_le (by simpa using hge)] at hR
   wp_walk
   exact⟨_,rfl,by simpa [Builtin.Tuple.tupleCompareSizes,oJ] using hR⟩
  case h =>
   exact⟨rfl,rfl,0,rfl,by simpa using h⟩
section
variable {A:Around}{s:Shared}
def zE.tuples{e f:Nat->Bool}(hl:s.heap.IsTuple l items)(hb:s.heap.IsTuple b items2)(hu:A.units<cLine)
  (he:∀ j (h1:j<items.size) (h2:j<items2.size),EqAt A.in1 s items[j] items2[j] (e j))(hf:∀ j (h1:j<items.size) (h2:j<items2.size),e j=false->zE A.in1 s items[j] items2[j] (f j)) :
  zE A s (.ref l) (.ref b) (oJ e f (decide (items.size<items2.size)) (List.range (min items.size items2.size))):=fun prog w E Q h=>by
 obtain⟨⟨cls,dd,data,sl⟩,ho,hc,n,hd⟩:=id hl;obtain⟨⟨cls2,dd2,data2,sl2⟩,ho2,hc2,n2,hd2⟩:=id hb;simp only at hc hd hc2 hd2;subst hc hd hc2 hd2;exact richCompare_meets_room (op:=.Lt) ⟨_,ho,rfl⟩ ⟨_,ho2,rfl⟩ F.slot_tuple_lt F.entry_tuple_lt (F.args_tuple_lt_2 _ _) (yW l b items items2 n n2 dd dd2 sl sl2 e f)
  ⟨ho,ho2,he,hf,show Value.bool (oJ e f (decide (items.size<items2.size)) (List.range (min items.size items2.size)))≠Value.notImplemented/\Q (.bool (oJ e f (decide (items.size<items2.size)) (List.range (min items.size items2.size)))) s from⟨(fun x=>nomatch x),h⟩⟩ hu
end
end PySem.SeqAt
set_option maxHeartbeats 400000
namespace L2
open PySem PySem.Spec PyProof.Rows
def dG:D->Nat
 | .non=>0 | .bl _=>1 | .int _=>2 | .str _=>3 | .tup _=>4
open Classical in
noncomputable def eqD(a b:D):Bool:=decide (a=b)
def Ln{x y:Str}(e:x.cps.toList=y.cps.toList):x=y:=by
 cases x;cases y;simp only at e;congr;exact Array.toList_inj.mp e
def gH(h:eqD a b=true):a=b:=@of_decide_eq_true _ (Classical.propDecidable _) h
def jG(d:D):eqD d d=true:=@decide_eq_true _ (Classical.propDecidable _) rfl
def dW:eqD a b=true↔a=b:=⟨gH,fun h=>by subst h;exact jG _⟩
def mG(h:eqD a b=false):a≠b:=fun e=>by
 rw[dW.mpr e] at h;cases h
def Dt(h:a≠b):eqD a b=false:=by
 cases e:eqD a b with
 | true=>exact absurd (gH e) h
 | false=>rfl
def klt:D->D->Bool
 | .bl a=>fun e=>match e with | .bl b=>!a && b | _=>false
 | .int a=>fun e=>match e with | .int b=>decide (a<b) | _=>false
 | .str x=>fun e=>match e with | .str y=>decide (x.cps.toList<y.cps.toList) | _=>false
 | _=>fun _=>false
def EY(a b:D):Bool:=decide (dG a<dG b) || klt a b
mutual
noncomputable def dlt:D->D->Bool
 | .tup xs=>fun e=>match e with | .tup ys=>vm xs ys | _=>false
 | .non=>EY .non
 | .bl b=>EY (.bl b)
 | .int i=>EY (.int i)
 | .str x=>EY (.str x)
noncomputable def vm:List D->List D->Bool
 | []=>fun ys=>match ys with | []=>false | _::_=>true
 | x::xs=>fun ys=>match ys with | []=>false | y::ys=>if eqD x y=true then vm xs ys else dlt x y
end
def vK(a b:Int):dlt (.int a) (.int b)=decide (a<b):=rfl
def Ci(x y:Str):dlt (.str x) (.str y)=decide (x.cps.toList<y.cps.toList):=rfl
def Aq(xs ys:List D):dlt (.tup xs) (.tup ys)=vm xs ys:=rfl
def JD(y:D)(ys:List D):vm [] (y::ys)=true:=rfl
def J3(x:D)(xs:List D):vm (x::xs) []=false:=rfl
def rT(x y:D)(xs ys:List D):vm (x::xs) (y::ys)=if eqD x y=true then vm xs ys else dlt x y:=rfl
def JK{x y:Str}(h1:¬ x.cps.toList<y.cps.toList)(h2:¬ y.cps.toList<x.cps.toList):x=y :=
 Ln (List.le_antisymm (not_lt.mp h2) (not_lt.mp h1))
def ff{P:Prop}(h:false=true):P:=Bool.noConfusion h
def M8{P:D->D->Prop}(h1:P (.bl false) (.bl true))(h2:∀ i j:Int,i<j->P (.int i) (.int j))(h3:∀ x y:Str,x.cps.toList<y.cps.toList->P (.str x) (.str y)):∀ {a b:D},klt a b=true->P a b:=by
 intro a b h;cases a with
 | bl p =>
  cases b with
  | bl q=>cases p <;> cases q <;> first | exact h1 | exact ff h
  | non=>exact ff h
  | int _=>exact ff h
  | str _=>exact ff h
  | tup _=>exact ff h
 | int p =>
  cases b with
  | int q=>exact h2 p q (W3 h)
  | non=>exact ff h
  | bl _=>exact ff h
  | str _=>exact ff h
  | tup _=>exact ff h
 | str p =>
  cases b with
  | str q=>exact h3 p q (W3 h)
  | non=>exact ff h
  | bl _=>exact ff h
  | int _=>exact ff h
  | tup _=>exact ff h
 | non=>exact ff h
 | tup _=>exact ff h
def xW(h:klt a b=true):dG a=dG b/\dG a<4:=M8 (P:=fun a b=>dG a=dG b/\dG a<4) ⟨rfl,by decide⟩ (fun _ _ _=>⟨rfl,by show 2<4;decide⟩) (fun _ _ _=>⟨rfl,by show 3<4;decide⟩) h
def Mx{a b c:D}(h:klt a b=true):klt b c=true->klt a c=true:=M8 (P:=fun a b=>klt b c=true->klt a c=true) (fun h=>by cases c <;> exact ff h)
 (fun i j hij h=>by
  cases c with
  | int k=>exact W9 (Int.lt_trans hij (W3 h))
  | _=>exact ff h)
 (fun x y hxy h=>by
  cases c with
  | str z=>exact W9 (List.lt_trans hxy (W3 h))
  | _=>exact ff h) h
def Cd(h:EY a b=true):dG a<dG b\/klt a b=true:=(Bool.or_eq_true _ _ ▸ h:_\/_).imp W3 id
def wR(h:dG a<dG b):EY a b=true:=by unfold EY;rw[W9 h];rfl
def Bk(h:klt a b=true):EY a b=true:=by unfold EY;rw[h,Bool.or_true]
def DX:∀ {a:D} (b:D),dG a<4->dlt a b=EY a b
 | .non,_,_=>rfl
 | .bl _,_,_=>rfl
 | .int _,_,_=>rfl
 | .str _,_,_=>rfl
 | .tup _,_,h=>absurd h (by show ¬ 4<4;decide)
def DN{xs:List D}{b:D}(h:dlt (.tup xs) b=true):∃ ys,b=.tup ys/\vm xs ys=true:=by
 cases b with
 | tup ys=>exact⟨ys,rfl,h⟩
 | _=>exact ff h
def Jc(h:¬ dG a<4):∃ xs,a=.tup xs:=by
 cases a with
 | tup xs=>exact⟨xs,rfl⟩
 | non=>exact absurd (show 0<4 by decide) h
 | bl _=>exact absurd (show 1<4 by decide) h
 | int _=>exact absurd (show 2<4 by decide) h
 | str _=>exact absurd (show 3<4 by decide) h
def Gx(h:dlt a b=true):dG a<=dG b:=by
 by_cases ha:dG a<4
 ·rw[DX b ha] at h;rcases Cd h with h | h
  ·lia
  ·exact Nat.le_of_eq (xW h).1
 ·obtain⟨xs,rfl⟩:=Jc ha;obtain⟨ys,rfl,_⟩:=DN h;exact Wu _
def tr0(ha:dG a<4)(h1:dlt a b=true)(h2:dlt b c=true):dlt a c=true:=by
 rw[DX _ ha] at h1 ⊢;have hr:=Gx h2;rcases Cd h1 with h | h
 ·exact wR (WM h hr)
 ·have hk:=xW h;rw[DX _ (by rw[← hk.1];exact hk.2)] at h2;rcases Cd h2 with q | q
  ·exact wR (by rw[hk.1];exact q)
  ·exact Bk (Mx h q)
def Ow:∀ {a:D} (b:D),dG a<4->dlt a b=false->dlt b a=false->a=b:=by
 intro a b ha h1 h2;rw[DX _ ha] at h1;have k1:¬ dG a<dG b:=fun z=>by rw[wR z] at h1;cases h1
 have hb:dG b<4:=by lia
 rw[DX _ hb] at h2;have k2:¬ dG b<dG a:=fun z=>by rw[wR z] at h2;cases h2
 have q1:klt a b=false:=by
  cases h:klt a b with
  | false=>rfl
  | true=>rw[Bk h] at h1;cases h1
 have q2:klt b a=false:=by
  cases h:klt b a with
  | false=>rfl
  | true=>rw[Bk h] at h2;cases h2
 have e:dG a=dG b:=by lia
 cases a with
 | non=>cases b <;> first | rfl | exact absurd e (Nat.ne_of_beq_eq_false rfl)
 | bl p =>
  cases b with
  | bl q=>cases p <;> cases q <;> first | rfl | exact ff q1.symm | exact ff q2.symm
  | _=>exact absurd e (Nat.ne_of_beq_eq_false rfl)
 | int p =>
  cases b with
  | int q=>exact congrArg D.int (Int.le_antisymm (Int.not_lt.mp (of_decide_eq_false q2)) (Int.not_lt.mp (of_decide_eq_false q1)))
  | _=>exact absurd e (Nat.ne_of_beq_eq_false rfl)
 | str p =>
  cases b with
  | str q=>exact congrArg D.str (JK (of_decide_eq_false q1) (of_decide_eq_false q2))
  | _=>exact absurd e (Nat.ne_of_beq_eq_false rfl)
 | tup _=>exact absurd ha (by show ¬ 4<4;decide)
mutual
def vg:∀ d:D,dlt d d=false
 | .non=>rfl
 | .bl b=>by cases b <;> rfl
 | .int i=>WX (Int.lt_irrefl i)
 | .str x=>WX (List.lt_irrefl _)
 | .tup xs=>xV xs
def xV:∀ ds:List D,vm ds ds=false
 | []=>rfl
 | d::ds=>by rw[rT,if_pos (jG d)];exact xV ds
end
mutual
theorem jZ:∀ a b:D,dlt a b=false->dlt b a=false->a=b
 | .non,b,h1,h2=>Ow b (by show 0<4;decide) h1 h2
 | .bl x,b,h1,h2=>Ow b (by show 1<4;decide) h1 h2
 | .int x,b,h1,h2=>Ow b (by show 2<4;decide) h1 h2
 | .str x,b,h1,h2=>Ow b (by show 3<4;decide) h1 h2
 | .tup xs,b,h1,h2=>by
  by_cases hb:dG b<4
  ·exact(Ow (.tup xs) hb h2 h1).symm
  ·obtain⟨ys,rfl⟩:=Jc hb;exact congrArg D.tup (wU xs ys h1 h2)
theorem wU:∀ a b:List D,vm a b=false->vm b a=false->a=b
 | [],[],_,_=>rfl
 | [],_::_,h1,_=>ff h1.symm
 | _::_,[],_,h2=>ff h2.symm
 | x::xs,y::ys,h1,h2=>by
  rw[rT] at h1 h2;cases he:eqD x y with
  | true =>
   have e:=gH he;subst e;rw[if_pos he] at h1 h2;rw[wU xs ys h1 h2]
  | false =>
   rw[if_neg (fun z=>mG he (gH z))] at h1;rw[if_neg (fun z=>mG he (gH z).symm)] at h2;exact absurd (jZ x y h1 h2) (mG he)
end
mutual
theorem xu:∀ a b c:D,dlt a b=true->dlt b c=true->dlt a c=true
 | .non,b,c,h1,h2=>tr0 (by show 0<4;decide) h1 h2
 | .bl x,b,c,h1,h2=>tr0 (by show 1<4;decide) h1 h2
 | .int x,b,c,h1,h2=>tr0 (by show 2<4;decide) h1 h2
 | .str x,b,c,h1,h2=>tr0 (by show 3<4;decide) h1 h2
 | .tup xs,b,c,h1,h2=>by
  obtain⟨ys,rfl,q1⟩:=DN h1;obtain⟨zs,rfl,q2⟩:=DN h2;exact CT xs ys zs q1 q2
theorem CT:∀ a b c:List D,vm a b=true->vm b c=true->vm a c=true
 | [],[],_,h1,_=>ff h1
 | [],_::_,[],_,h2=>ff h2
 | [],_::_,_::_,_,_=>rfl
 | _::_,[],_,h1,_=>ff h1
 | _::_,_::_,[],_,h2=>ff h2
 | x::xs,y::ys,z::zs,h1,h2=>by
  rw[rT] at h1 h2 ⊢;cases hxy:eqD x y with
  | true =>
   have e:=gH hxy;subst e;rw[if_pos hxy] at h1;cases hxz:eqD x z with
   | true =>
    rw[if_pos hxz] at h2;rw[if_pos rfl];exact CT xs ys zs h1 h2
   | false =>
    rw[if_neg (fun z=>mG hxz (gH z))] at h2;rw[if_neg Wz];exact h2
  | false =>
   rw[if_neg (fun z=>mG hxy (gH z))] at h1;cases hyz:eqD y z with
   | true =>
    have e:=gH hyz;subst e;rw[if_neg (fun z=>mG hxy (gH z))];exact h1
   | false =>
    rw[if_neg (fun z=>mG hyz (gH z))] at h2;have g:=xu x y z h1 h2;rw[if_neg]
    ·exact g
    ·intro z';have e:=gH z';subst e;rw[vg] at g;cases g
end
noncomputable def Ip:KeyOrd where
 α:=D
 blt:=dlt
 irrefl:=vg
 trans:=xu
 negTrans:=fun a b c h=>by
  cases h1:dlt a b with
  | true=>exact .inl rfl
  | false =>
   cases h2:dlt b a with
   | true=>exact .inr (xu b a c h2 h)
   | false =>
    have e:=jZ a b h1 h2;subst e;exact .inr h
 total:=jZ
end L2
set_option maxHeartbeats 200000
namespace L2
open PySem PySem.Spec PyProof.Rows
def UpD(ds:List D):Prop:=ds.Pairwise fun a b=>dlt b a=false
def oZ(hx:UpD xs)(hy:UpD ys)(h:xs.Perm ys):xs=ys :=
 h.eq_of_pairwise (fun a b _ _ h1 h2=>jZ a b h2 h1) hx hy
mutual
def Sim:D->D->Prop
 | .int _=>fun e=>match e with | .int _=>True | _=>False
 | .str _=>fun e=>match e with | .str _=>True | _=>False
 | .tup xs=>fun e=>match e with | .tup ys=>uh xs ys | _=>False
 | _=>fun _=>False
def uh:List D->List D->Prop
 | []=>fun _=>True
 | x::xs=>fun ys=>match ys with | []=>True | y::ys=>Sim x y/\uh xs ys
end
def yI(h:uh xs ys):Sim (.tup xs) (.tup ys):=h
def Ij(h:Sim (.tup xs) (.tup ys)):uh xs ys:=h
def iV(h:Sim x y)(k:uh xs ys):uh (x::xs) (y::ys):=⟨h,k⟩
def Dc(h:uh (x::xs) (y::ys)):Sim x y/\uh xs ys:=h
def xQ(ys:List D):uh [] ys:=trivial
def OJ(xs:List D):uh xs []:=by cases xs <;> exact trivial
theorem uh.at_:∀ {xs ys:List D}{i:Nat}{x y:D},uh xs ys->xs[i]?=some x->ys[i]?=some y->Sim x y
 | [],_,i,x,y,_,hx,_=>by simp at hx
 | _::_,[],i,x,y,_,_,hy=>by simp at hy
 | a::xs,b::ys,0,x,y,h,hx,hy=>by
  simp at hx hy;subst hx;subst hy;exact(Dc h).1
 | a::xs,b::ys,i+1,x,y,h,hx,hy=>by
  exact uh.at_ (Dc h).2 (by simpa using hx) (by simpa using hy)
mutual
theorem Den.det:∀ {d e:D}{v:V},Den H v d->Den H v e->d=e
 | .non,e,v,h1,h2=>by
  have:=h1;subst this;cases e with
  | non=>rfl
  | tup ds=>obtain⟨p,vs,z,_⟩:=aN h2;cases z
  | bl b=>exact absurd (show V.non=.bl b from h2) (fun z=>nomatch z)
  | int b=>exact absurd (show V.non=.int b from h2) (fun z=>nomatch z)
  | str b=>exact absurd (show V.non=.str b from h2) (fun z=>nomatch z)
 | .bl b,e,v,h1,h2=>by
  have:=h1;subst this;cases e with
  | bl c=>have z:V.bl b=.bl c:=h2;cases z;rfl
  | tup ds=>obtain⟨p,vs,z,_⟩:=aN h2;cases z
  | non=>exact absurd (show V.bl b=.non from h2) (fun z=>nomatch z)
  | int c=>exact absurd (show V.bl b=.int c from h2) (fun z=>nomatch z)
  | str c=>exact absurd (show V.bl b=.str c from h2) (fun z=>nomatch z)
 | .int b,e,v,h1,h2=>by
  have:=h1;subst this;cases e with
  | int c=>have z:V.int b=.int c:=h2;cases z;rfl
  | tup ds=>obtain⟨p,vs,z,_⟩:=aN h2;cases z
  | non=>exact absurd (show V.int b=.non from h2) (fun z=>nomatch z)
  | bl c=>exact absurd (show V.int b=.bl c from h2) (fun z=>nomatch z)
  | str c=>exact absurd (show V.int b=.str c from h2) (fun z=>nomatch z)
 | .str b,e,v,h1,h2=>by
  have:=h1;subst this;cases e with
  | str c=>have z:V.str b=.str c:=h2;cases z;rfl
  | tup ds=>obtain⟨p,vs,z,_⟩:=aN h2;cases z
  | non=>exact absurd (show V.str b=.non from h2) (fun z=>nomatch z)
  | bl c=>exact absurd (show V.str b=.bl c from h2) (fun z=>nomatch z)
  | int c=>exact absurd (show V.str b=.int c from h2) (fun z=>nomatch z)
 | .tup ds,e,v,h1,h2=>by
  obtain⟨p,vs,rfl,hp,hd⟩:=aN h1;cases e with
  | tup es =>
   obtain⟨q,us,z,hq,he⟩:=aN h2;cases z;rw[hp] at hq;cases hq;rw[bL.det hd he]
  | non=>exact absurd (show V.ref p=.non from h2) (fun z=>nomatch z)
  | bl c=>exact absurd (show V.ref p=.bl c from h2) (fun z=>nomatch z)
  | int c=>exact absurd (show V.ref p=.int c from h2) (fun z=>nomatch z)
  | str c=>exact absurd (show V.ref p=.str c from h2) (fun z=>nomatch z)
theorem bL.det:∀ {ds es:List D}{vs:List V},bL H vs ds->bL H vs es->ds=es
 | [],[],_,_,_=>rfl
 | [],_::_,[],_,h=>h.elim
 | [],_::_,_::_,h,_=>h.elim
 | _::_,[],[],h,_=>h.elim
 | _::_,[],_::_,_,h=>h.elim
 | _::_,_::_,[],h,_=>h.elim
 | d::ds,e::es,v::vs,h1,h2=>by rw[Den.det h1.1 h2.1,bL.det h1.2 h2.2]
end
open SeqAt (oJ)
theorem xT(e f:Nat->Bool)(fin:Bool):∀ r:List Nat,oJ e f fin (r.map Nat.succ)=oJ (fun i=>e (i+1)) (fun i=>f (i+1)) fin r
 | []=>rfl
 | i::r=>by
  show(if e (i+1)=true then oJ e f fin (r.map Nat.succ) else f (i+1))=_;rw[xT e f fin r]
  rfl
theorem lD:∀ xs ys:List D,oJ (fun j=>eqD (xs.getD j .non) (ys.getD j .non)) (fun j=>dlt (xs.getD j .non) (ys.getD j .non)) (decide (xs.length<ys.length)) (List.range (min xs.length ys.length))=vm xs ys
 | [],[]=>rfl
 | [],y::ys=>by rw[JD];simp[oJ]
 | x::xs,[]=>by rw[J3];simp[oJ]
 | x::xs,y::ys=>by
  have ih:=lD xs ys;rw[rT,show min (x::xs).length (y::ys).length=min xs.length ys.length+1 by simp only[length_cons];lia,List.range_succ_eq_map];show(if eqD x y=true then oJ _ _ _ ((List.range (min xs.length ys.length)).map Nat.succ) else dlt x y)=_;rw[xT];have ed:decide ((x::xs).length<(y::ys).length)=decide (xs.length<ys.length):=by simp
  rw[ed];cases he:eqD x y with
  | true =>
   rw[if_pos rfl,if_pos rfl]
   simpa using ih
  | false =>
   rw[if_neg (by simp),if_neg (by simp)]
def allR_eq:∀ xs ys:List D,((List.range (min xs.length ys.length)).all (fun j=>eqD (xs.getD j .non) (ys.getD j .non)) && xs.length == ys.length)=eqD (.tup xs) (.tup ys):=by
 intro xs ys;rw[Bool.eq_iff_iff,dW];constructor
 ·intro h;simp only[Bool.and_eq_true,all_eq_true,mem_range,beq_iff_eq] at h;obtain⟨h1,h2⟩:=h;congr 1;apply ext_getElem h2;intro i a b;have:=dW.mp (h1 i (by lia))
  simpa [Wv,a,b] using this
 ·intro h;injection h with h;subst h;simp[dW]
section
variable {X:Cx}{pins:List (Addr × Obj)}{σ:St}{H:Hp}{s:Shared}
def lE(k:SO.Keeps h h')(t:h.IsTuple a its):h'.IsTuple a its:=by
 obtain⟨o,e,r⟩:=t;exact⟨o,k _ _ e,r⟩
def qI(hx:Den H x (.int i))(hy:Den H y (.int j))(rx:RelV x v)(ry:RelV y u):SeqAt.EqAt A s' v u (eqD (.int i) (.int j)):=by
 have e1:=hx;have e2:=hy;subst e1;subst e2;obtain⟨t,rfl⟩:=rx;obtain⟨t',rfl⟩:=ry;have key:=SeqAt.EqAt.int_int (A:=A) (s:=s') i t j t';have e:(i == j)=eqD (.int i) (.int j):=by
  rw[Bool.eq_iff_iff,dW,beq_iff_eq];exact⟨fun z=>by rw[z],fun z=>by injection z⟩
 rw[← e];exact key
def rM(hx:Den H x (.str i))(hy:Den H y (.str j))(rx:RelV x v)(ry:RelV y u):SeqAt.EqAt A s' v u (eqD (.str i) (.str j)):=by
 have e1:=hx;have e2:=hy;subst e1;subst e2;obtain⟨t,rfl⟩:=rx;obtain⟨t',rfl⟩:=ry;have key:=SeqAt.EqAt.str_str (A:=A) (s:=s') i t j t';have e:(i == j)=eqD (.str i) (.str j):=by
  rw[Bool.eq_iff_iff,dW,beq_iff_eq];exact⟨fun z=>by rw[z],fun z=>by injection z⟩
 rw[← e];exact key
def Cg(hx:Den H x (.int i))(hy:Den H y (.int j))(rx:RelV x v)(ry:RelV y u):SeqAt.zE A s' v u (dlt (.int i) (.int j)):=by
 have e1:=hx;have e2:=hy;subst e1;subst e2;obtain⟨t,rfl⟩:=rx;obtain⟨t',rfl⟩:=ry;intro prog w E Q h;rw[vK] at h;exact PyProof.Rows.lt_int h
def Er(hx:Den H x (.str i))(hy:Den H y (.str j))(rx:RelV x v)(ry:RelV y u):SeqAt.zE A s' v u (dlt (.str i) (.str j)):=by
 have e1:=hx;have e2:=hy;subst e1;subst e2;obtain⟨t,rfl⟩:=rx;obtain⟨t',rfl⟩:=ry;intro prog w E Q h;rw[Ci] at h;exact PyProof.Rows.lt_str h
def Ru(H:Hp)(s':Shared)(n:Nat):Prop :=
 ∀(d e:D)(A:Around)(x y:V)(v u:Value),cN n d->cN n e->Sim d e->Den H x d->Den H y e->RelV x v->RelV y u->A.units+n<cLine->SeqAt.EqAt A s' v u (eqD d e)/\SeqAt.zE A s' v u (dlt d e)
def Hf(I:Inv X pins σ H s)(kp:SO.Keeps s.heap s'.heap)(ih:Ru H s' n)(hs:cN (n+1) (.tup ds))(hs2:cN (n+1) (.tup es))
  (hm:Sim (.tup ds) (.tup es))(hx:Den H x (.tup ds))(hy:Den H y (.tup es))(rx:RelV x v)(ry:RelV y u)(hu:A.units+(n+1)<cLine):SeqAt.EqAt A s' v u (eqD (.tup ds) (.tup es))/\SeqAt.zE A s' v u (dlt (.tup ds) (.tup es)):=by
 obtain⟨a,vs,rfl,ha,hda⟩:=aN hx;obtain⟨b,us,rfl,hb,hdb⟩:=aN hy;cases rx;cases ry;obtain⟨its,r1,p1,_⟩:=I.tuple (SqT.of ha);obtain⟨its2,r2,p2,_⟩:=I.tuple (SqT.of hb);have l1:=hda.len;have l2:=hdb.len;have m1:=r1.length;have m2:=r2.length;have both:∀ j (h1:j<its.toArray.size) (h2:j<its2.toArray.size),SeqAt.EqAt A.in1 s' its.toArray[j] its2.toArray[j] (eqD (ds.getD j .non) (es.getD j .non))/\SeqAt.zE A.in1 s' its.toArray[j] its2.toArray[j] (dlt (ds.getD j .non) (es.getD j .non)):=by
  intro j h1 h2;have hj1:j<vs.length:=by simpa [m1] using h1
  have hj2:j<us.length:=by simpa [m2] using h2
  obtain⟨d1,g1,b1⟩:=hda.at_ (Wr hj1);obtain⟨d2,g2,b2⟩:=hdb.at_ (Wr hj2);obtain⟨w1,hw1,rw1⟩:=r1.get (Wr hj1);obtain⟨w2,hw2,rw2⟩:=r2.get (Wr hj2);have q1:its.toArray[j]=w1:=by
   have:=(Wt.mp hw1).2
   simpa using this
  have q2:its2.toArray[j]=w2:=by
   have:=(Wt.mp hw2).2
   simpa using this
  rw[q1,q2];rw[Wv,Wv,g1,g2];have s1:=(hs.2 ds rfl).2 d1 (W2 g1);have s2:=(hs2.2 es rfl).2 d2 (W2 g2);exact ih d1 d2 A.in1 _ _ _ _ s1 s2 (hm.at_ g1 g2) b1 b2 rw1 rw2 (by first | (simp only[Around.in1];lia) | lia)
 constructor
 ·by_cases hab:a=b
  ·subst hab;have e:=Den.det hx hy;rw[dW.mpr e];exact SeqAt.EqAt.same _
  ·have key:=SeqAt.EqAt.of_refs hab (SeqAt.RcAt.tuples (lE kp p1) (lE kp p2) (by lia) fun j h1 h2=>(both j h1 h2).1);have q:=allR_eq ds es;rw[show ds.length=its.toArray.size by simp;lia,show es.length=its2.toArray.size by simp;lia] at q;rw[q] at key;exact key
 ·have key:=SeqAt.zE.tuples (lE kp p1) (lE kp p2) (by lia)
   (fun j h1 h2=>(both j h1 h2).1) (fun j h1 h2 _=>(both j h1 h2).2)
  have q:=lD ds es;rw[show ds.length=its.toArray.size by simp;lia,show es.length=its2.toArray.size by simp;lia] at q;rw[q] at key;rw[Aq];exact key
def eY{P:D->D->Prop}(hi:∀ i j,P (.int i) (.int j))(hs:∀ i j,P (.str i) (.str j))(ht:∀ xs ys,uh xs ys->P (.tup xs) (.tup ys)):∀ {d e:D},Sim d e->P d e:=by
 intro d e h;cases d <;> cases e <;> first | exact hi _ _ | exact hs _ _ | exact ht _ _ (Ij h) | exact False.elim h
def Mv(I:Inv X pins σ H s)(kp:SO.Keeps s.heap s'.heap):∀ n:Nat,Ru H s' n:=by
 intro n
 induction n with
 | zero =>
  intro d e A x y v u hs hs2 hm
  revert hs hs2
  refine eY (P:=fun d e=>cN 0 d->cN 0 e->Den H x d->Den H y e->RelV x v->RelV y u->A.units+0<cLine->SeqAt.EqAt A s' v u (eqD d e)/\SeqAt.zE A s' v u (dlt d e)) ?_ ?_ ?_ hm
  ·exact fun i j _ _ hx hy rx ry _=>⟨qI hx hy rx ry,Cg hx hy rx ry⟩
  ·exact fun i j _ _ hx hy rx ry _=>⟨rM hx hy rx ry,Er hx hy rx ry⟩
  ·exact fun xs ys _ hs _ _ _ _ _ _=>absurd rfl (hs.2 xs)
 | succ n ih =>
  intro d e A x y v u hs hs2 hm
  revert hs hs2
  refine eY (P:=fun d e=>cN (n+1) d->cN (n+1) e->Den H x d->Den H y e->RelV x v->RelV y u->A.units+(n+1)<cLine->SeqAt.EqAt A s' v u (eqD d e)/\SeqAt.zE A s' v u (dlt d e)) ?_ ?_ ?_ hm
  ·exact fun i j _ _ hx hy rx ry _=>⟨qI hx hy rx ry,Cg hx hy rx ry⟩
  ·exact fun i j _ _ hx hy rx ry _=>⟨rM hx hy rx ry,Er hx hy rx ry⟩
  ·exact fun xs ys hm hs hs2 hx hy rx ry hu=>Hf I kp ih hs hs2 (yI hm) hx hy rx ry hu
end
end L2
set_option maxHeartbeats 400000
namespace SO
open PySem PySem.W PyProof.Rows
section
variable {prog:Program}{w:World}{A:Around}{E:Value->Shared->Prop}{s:Shared}
def vI{Q:List Value->Shared->Prop}(ho:s.heap.get? l=some o)(hc:o.cls=.type c)(hcc:c = "list"\/c = "tuple")(hd:o.data=.seq vs.toArray n)
  (h:Q vs { s with heap:=(s.heap.push (seqObj "list" #[] 0)).update s.heap.objs.size (Obj.mapSeq (· ++ vs.toArray)) })(hsz:vs.length<=sizeLine) :
  wpAny (model prog w) A (collect (.ref l)) Q E s:=by
 unfold collect;refine Wo (wpAny_runValue (codeAny_builtin entry_proto_collect' ?_));refine Wo (wpAny_newList (Wq ⟨Code.quiet_builtin _ (by decide +kernel),codeAny_builtin entry_list_iadd' ?_⟩));show wpAny _ _ (Builtin.List.listExtendWith (.ref s.heap.objs.size) (.ref l) (.ref s.heap.objs.size)) _ _ { s with heap:=s.heap.push (seqObj "list" #[] 0) };unfold Builtin.List.listExtendWith;have ho':(s.heap.push (seqObj "list" #[] 0)).get? l=some o:=Ws _ ho;refine Wo (wpAny_typeOf ⟨o,ho',hc⟩ ?_);rw[if_pos (by rcases hcc with rfl | rfl <;> simp)];refine Wo (listItems_at ho' hd ?_);refine Wo (listItems_at (Wy _ rfl) rfl ?_);rw[if_neg (by simp)];refine Wo (listUpdate_at (Wy _ rfl) rfl ?_ (Nat.zero_le _) (by show(#[]++vs.toArray).size<=sizeLine+1;simp only[Array.size_append,Xd,length_nil];lia));refine Wq ?_;show wpAny (model prog w) A (do
   let o ← load s.heap.objs.size
   match o.data with
   | .seq xs _=>pure xs.toList
   | _=>unsupported "internal:collect") Q E { s with heap:=(s.heap.push (seqObj "list" #[] 0)).update s.heap.objs.size (Obj.mapSeq (· ++ vs.toArray)) }
 refine Wo (wpAny_load (get?_update_seq (Wy _ rfl) _) ?_);show wpAny _ _ (pure ((#[]:Array Value)++vs.toArray).toList) Q E _;rw[show((#[]:Array Value)++vs.toArray).toList=vs by simp];exact Wq h
theorem Bv{Q:Bool->Shared->Prop}{e f:Nat->Bool}:∀(l:List (Value × Value))(i:Nat),(∀ j p q,l[j]?=some (p,q)->SeqAt.EqAt A s p q (e (i+j))) ->
  (∀ j p q,l[j]?=some (p,q)->e (i+j)=false->∀(Q:Bool->Shared->Prop)(E:Value->Shared->Prop),Q (f (i+j)) s->wpAny (model prog w) A (oneLt' (b && (i+j) == 0) p q) Q E s) ->
  Q (SeqAt.oJ e f fin (List.range' i l.length)) s->KatLex prog w A b fin Q l i s
 | [],i,_,_,h=>kat_nil h
 | (p,q)::l,i,he,hf,h=>by
  refine kat_cons ((he 0 p q rfl) prog w _ _ ?_);rw[Nat.add_zero];have h':Q (if e i=true then SeqAt.oJ e f fin (List.range' (i+1) l.length) else f i) s:=h;cases hy:e i with
  | true =>
   rw[hy,if_pos rfl] at h';exact kat_yes (Bv l (i+1) (fun j p q z=>by rw[show i+1+j=i+(j+1) by lia];exact he (j+1) p q (by simpa using z)) (fun j p q z=>by rw[show i+1+j=i+(j+1) by lia];exact hf (j+1) p q (by simpa using z)) h')
  | false =>
   rw[hy,if_neg (by simp)] at h';exact kat_no (by have:=hf 0 p q rfl (by simpa using hy) Q (fun _ _=>False) (by simpa using h');simpa using this)
end
end SO
namespace L2
open PySem PySem.Spec PyProof.Rows
open SeqAt (oJ)
def Hom(ds:List D):Prop:=(∀ a∈ds,∀ b∈ds,Sim a b)/\((∀ d∈ds,∃ i,d=.int i)\/(∀ d∈ds,∃ x,d=.str x)\/(∀ d∈ds,∃ e r,d=.tup (e::r)))
def O8(K:W.Frag):List V->Hp->VK->Prop:=fun xs H Q=>∃(p:Addr)(vs:List V)(ds:List D),xs=[.ref p]/\(SqL K H p vs\/SqT K H p vs)/\bL H vs ds/\Hom ds/\ds.length<64/\(∀ d∈ds,cN 50 d) /\
 ∀(l:Addr)(us:List V)(ds':List D),H l=none->ds'.Perm ds->UpD ds'->bL H us ds'->Q (.ref l) (upd H l (.lst us))
theorem lX(h:bL H vs ds):∀ l:List Nat,(∀ i∈l,i<ds.length)->bL H (l.map fun i=>vs.getD i .non) (l.map fun i=>ds.getD i .non)
 | [],_=>trivial
 | i::l,hl=>by
  refine⟨?_,lX h l fun j hj=>hl j (.tail _ hj)⟩;have hi:i<vs.length:=by rw[h.len];exact hl i (.head _)
  obtain⟨d,hd,r⟩:=h.at_ (Wr hi);dsimp only;rw[Wv,Wv,hd,Wr hi];exact r
theorem lN(h:Vals vs its):∀ l:List Nat,(∀ i∈l,i<vs.length)->Vals (l.map fun i=>vs.getD i .non) (l.map fun i=>its.getD i Value.none)
 | [],_=>.nil
 | i::l,hl=>by
  refine .cons ?_ (lN h l fun j hj=>hl j (.tail _ hj));have hi:=hl i (.head _);obtain⟨d,hd,r⟩:=h.get (Wr hi);dsimp only;rw[Wv,Wv,hd,Wr hi];exact r
section
variable {X:Cx}{pins:List (Addr × Obj)}{σ:St}{H:Hp}{s:Shared}
def at3(hd:bL H vs ds)(r:Vals vs its)(hi:i<ds.length):∃(x:V)(v:Value),vs[i]?=some x/\its[i]?=some v/\its.getD i Value.none=v/\Den H x (ds.getD i .non)/\RelV x v/\ds.getD i .non∈ds:=by
 have hv:i<vs.length:=by rw[hd.len];exact hi
 obtain⟨d,g,b⟩:=hd.at_ (Wr hv);obtain⟨u,hu,ru⟩:=r.get (Wr hv);have e:ds.getD i .non=d:=by rw[Wv,g];rfl
 rw[e];exact⟨_,u,Wr hv,hu,by rw[Wv,hu];rfl,b,ru,W2 g⟩
def uy(h:SeqAt.zE A s' v u b)(Q:Bool->Shared->Prop)(E:Value->Shared->Prop)(q:Q b s'):wpAny (model prog w) A (oneLt' false v u) Q E s' :=
 W.kat_one v u (h prog w E _ q)
def lQ(hm:Sim d e)(hd:Den H x d)(he:Den H y e)(rx:RelV x v)(ry:RelV y u)(nt:∀ ds,d≠.tup ds)(Q:Bool->Shared->Prop)(E:Value->Shared->Prop)(q:Q (dlt d e) s') :
  wpAny (model prog w) A (oneLt' true v u) Q E s':=by
 revert hd he nt q
 refine eY (P:=fun d e=>Den H x d->Den H y e->(∀ ds,d≠.tup ds)->Q (dlt d e) s'->wpAny (model prog w) A (oneLt' true v u) Q E s') ?_ ?_ ?_ hm
 ·intro i j hx hy _ q;have e1:=hx;have e2:=hy;subst e1;subst e2;obtain⟨t,rfl⟩:=rx;obtain⟨t',rfl⟩:=ry;rw[vK] at q;exact oneLt_int q
 ·intro i j hx hy _ q;have e1:=hx;have e2:=hy;subst e1;subst e2;obtain⟨t,rfl⟩:=rx;obtain⟨t',rfl⟩:=ry;rw[Ci] at q;exact oneLt_str q
 ·intro xs ys _ _ _ nt _;exact absurd rfl (nt xs)
def Ge(I:Inv X pins σ H s)(kp:SO.Keeps s.heap h')(hd:Den H x d)(rx:RelV x v):(∀ i,d=.int i->W.Looks M h' (typeOf v) (.type "int"))/\(∀ i,d=.str i->W.Looks M h' (typeOf v) (.type "str")) /\
  (∀ ds,d=.tup ds->W.Looks M h' (typeOf v) (.type "tuple")):=by
 refine⟨fun i e=>?_,fun i e=>?_,fun ds e=>?_⟩
 ·subst e;have e1:=hd;subst e1;obtain⟨t,rfl⟩:=rx;exact W.Looks.of_pure rfl
 ·subst e;have e1:=hd;subst e1;obtain⟨t,rfl⟩:=rx;exact W.Looks.of_pure rfl
 ·subst e;obtain⟨a,vs,rfl,ha,hda⟩:=aN hd;cases rx;obtain⟨its,r1,⟨o,eo,ec,_⟩,_⟩:=I.tuple (SqT.of ha);rw[← ec];exact(W.Looks.ld (kp _ _ eo)).andThen .now
def tyD:D->Value
 | .int _=>.type "int"
 | .str _=>.type "str"
 | _=>.type "tuple"
def Aj(h:Sim d e):tyD d=tyD e:=eY (P:=fun d e=>tyD d=tyD e) (fun _ _=>rfl) (fun _ _=>rfl) (fun _ _ _=>rfl) h
def xO(d:D):(tyD d == tyD d)=true:=by cases d <;> rfl
def Bb(hm:Sim d e)(h:(tyD d != .type "tuple")=true):∀ ds,d≠.tup ds:=by
 intro ds z;subst z;exact absurd (show(Value.type "tuple" != Value.type "tuple")=true from h) (by decide)
def lK(I:Inv X pins σ H s)(kp:SO.Keeps s.heap h')(hm:Sim d e)(hd:Den H x d)(rx:RelV x v):W.Looks M h' (typeOf v) (tyD d):=by
 obtain⟨a,b,c⟩:=Ge I kp hd rx
 revert a b c
 exact eY (P:=fun d e=>(∀ i,d=.int i->W.Looks M h' (typeOf v) (.type "int"))->(∀ i,d=.str i->W.Looks M h' (typeOf v) (.type "str"))->(∀ ds,d=.tup ds->W.Looks M h' (typeOf v) (.type "tuple"))->W.Looks M h' (typeOf v) (tyD d))
  (fun i _ a _ _=>a i rfl) (fun i _ _ b _=>b i rfl) (fun xs _ _ _ _ c=>c xs rfl) hm
theorem kat_tups(I:Inv X pins σ H s)(kp:SO.Keeps s.heap h'):∀ {vs:List V}{ds:List D}{its:List Value},bL H vs ds->Vals vs its->(∀ d∈ds,∃ e r,d=.tup (e::r)) ->
  ∃ fs,W.KatTups h' its fs/\fs.length=its.length/\∀ v∈fs,∃(x:V)(d:D)(r:List D),Den H x d/\RelV x v/\D.tup (d::r)∈ds
 | [],[],_,_,.nil,_=>⟨[],trivial,rfl,fun v hv=>by cases hv⟩
 | x::vs,d::ds,_,hd,.cons r rr,ht=>by
  obtain⟨fs,k,l,m⟩:=kat_tups I kp hd.2 rr fun d hd=>ht d (.tail _ hd)
  obtain⟨e,r0,rfl⟩:=ht d (.head _);obtain⟨a,ws,rfl,ha,hda⟩:=aN hd.1;cases r;obtain⟨its1,r1,⟨o,eo,ec,n,ed⟩,_⟩:=I.tuple (SqT.of ha)
  match ws,its1,hda,r1,ed with
  | w0::ws,_::its1,hda,.cons q0 q,ed =>
   refine⟨_::fs,W.KatTups.cons (kp _ _ eo) ec ed (by simp;rfl) k,by simp[l],fun v hv=>?_⟩;rcases mem_cons.mp hv with rfl | hv
   ·exact⟨w0,e,r0,hda.1,q0,.head _⟩
   ·obtain⟨x,d,r,z1,z2,z3⟩:=m v hv;exact⟨x,d,r,z1,z2,.tail _ z3⟩
  | [],_,hda,_,_=>exact hda.elim
def pG{E:Value->Shared->Prop}(I:Inv X pins σ H s)(κ:SortKind)(ho:s.heap.get? a=some o)(hc:o.cls=.type c)(hcc:c = "list"\/c = "tuple")(hd:o.data=.seq its.toArray n)
  (hD:bL H vs ds)(r:Vals vs its)(h64:ds.length<64)
  (hk:2<=its.length->∀ h',SO.Keeps s.heap h'->∀(E:Value->Shared->Prop)(Q:SortKind->Shared->Prop),Q κ { s with heap:=h' }->wpAny (model X.prog X.w) X.A.in1.in1 (keyKind' its.toArray) Q E { s with heap:=h' })
  (hcm:∀ h',SO.Keeps s.heap h'->SO.Cmp (O:=Ip) (fun i=>ds.getD i .non) its.length (W.kas_ask X.prog X.w X.A.in1.in1 κ its) { s with heap:=h' })
  (q:∀(l:Addr)(us:List V)(ds':List D),H l=none->ds'.Perm ds->UpD ds'->bL H us ds'->Q (.ref l) (upd H l (.lst us))):wpAny (model X.prog X.w) X.A (call (.builtin "sorted") [.ref a]) (EP X pins σ Q) E s:=by
 have l1:=hD.len;have l2:=r.length;have kg:SO.Keeps s.heap ((s.heap.push (seqObj "list" #[] 0)).update s.heap.objs.size (Obj.mapSeq (· ++ its.toArray))):=fun b u e=>by
  rw[Heap.get?_update_ne _ _ _ _ (Wx (Ww e))];exact Ws _ e
 refine SO.Bu (O:=Ip) (fun i=>ds.getD i .non) κ (by lia) kg (fun Q q=>SO.vI ho hc hcc hd q (by rw[sizeLine_eq];lia)) hk hcm fun g' p kp hp hs hob=>?_
 obtain⟨m,hob⟩:=hob;have hlt:∀ i∈p.toList,i<its.length:=fun i hi=>mem_range.mp (hp.mem_iff.mp hi)
 have hsz:s.heap.objs.size<=((s.heap.push (seqObj "list" #[] 0)).update s.heap.objs.size (Obj.mapSeq (· ++ its.toArray))).objs.size:=by
  rw[WY,size_push'];exact Nat.le_succ _
 have hps:p.toList.length=its.length:=by simpa using hp.length_eq
 have hU:=lN r p.toList fun i hi=>by rw[l2];exact hlt i hi
 refine⟨.ref _,_,I.laid (o:=.lst (p.toList.map fun i=>vs.getD i .non)) kp hsz ⟨?_,_,m,hU,hob⟩,rfl,q _ _ (p.toList.map fun i=>ds.getD i .non) (I.hok.fresh hsz) ?_ ?_ (lX hD _ fun i hi=>by have:=hlt i hi;lia)⟩
 ·rw[Xa,sizeLine_eq];lia
 ·have e:(List.range its.length).map (fun i=>ds.getD i .non)=ds:=by
   apply ext_getElem
   ·simp;lia
   ·intro i h1 h2;simp[Wv,h2]
  have:=hp.map fun i=>ds.getD i D.non
  rw[e] at this;exact this
 ·unfold UpD;rw[pairwise_iff_getElem];intro i j hi hj hij;have h:=hs i j (Nat.le_of_lt hij) (by simpa [hps] using hj);have e:∀ k (hk:k<p.toList.length),SO.KN (O:=Ip) (fun i=>ds.getD i .non) p k=(p.toList.map fun i=>ds.getD i D.non)[k]'(by rw[Xa];exact hk):=by
   intro k hk;have hk':k<p.size:=by simpa using hk
   unfold SO.KN;rw[getElem_map];congr 1;simp[Array.getD,hk']
  rw[e i (by simpa using hi),e j (by simpa using hj)] at h;exact h
def cG(hu:X.A.units+64<cLine):fP X (.builtin "sorted") (O8 X.K):=by
 intro pins s σ H xs us Q I r h;obtain⟨a,vs,ds,rfl,hp,hD,hom,h64,hsh,q⟩:=h;obtain⟨u,rfl,rx⟩:=vals1 r;cases rx;obtain⟨its,rv,c,o,n,hcc,ho,hc,hd⟩:∃ its:List Value,Vals vs its/\∃(c:String)(o:Obj)(n:Nat),(c = "list"\/c = "tuple")/\s.heap.get? a=some o/\o.cls=.type c/\o.data=.seq its.toArray n:=by
  rcases hp with hp | hp
  ·obtain⟨its,rv,pl,_⟩:=I.list hp;obtain⟨o,ho,hc,n,hd⟩:=pl.isList;exact⟨its,rv,"list",o,n,.inl rfl,ho,hc,hd⟩
  ·obtain⟨its,rv,⟨o,ho,hc,n,hd⟩,_⟩:=I.tuple hp;exact⟨its,rv,"tuple",o,n,.inr rfl,ho,hc,hd⟩
 have l1:=hD.len;have l2:=rv.length;have one:(∀ d∈ds,∀ xs,d≠.tup xs)->∀ T,(T != Value.type "tuple")=true->(T == T)=true->(∀ d∈ds,tyD d=T)->wpAny (model X.prog X.w) X.A (call (.builtin "sorted") [.ref a]) (EP X pins σ Q) X.xe s:=by
  intro nt T hT1 hT2 hT;refine pG I oneType' ho hc hcc hd hD rv h64 (fun h2 h' kp E Q q=>?_) (fun h' kp i j C hi hj q=>?_) q
  ·refine W.kas_kind h2 (fun v hv=>?_) hT1 hT2 q;obtain⟨i,hi,rfl⟩:=mem_iff_getElem.mp hv;obtain⟨x,v,e1,e2,e3,e4,e5,e6⟩:=at3 (i:=i) hD rv (by lia);rw[Wr hi] at e2;cases e2;rw[← hT _ e6];exact lK I kp (hom.1 _ e6 _ e6) e4 e5
  ·obtain⟨x,v,e1,e2,e3,e4,e5,e6⟩:=at3 (i:=i) hD rv (by lia);obtain⟨y,u,f1,f2,f3,f4,f5,f6⟩:=at3 (i:=j) hD rv (by lia);unfold W.kas_ask;rw[e3,f3,keyLt'_oneType];exact lQ (hom.1 _ e6 _ f6) e4 f4 e5 f5 (nt _ e6) _ _ q
 rcases hom.2 with hi | hi | hi
 ·exact one (fun d hd xs e=>by obtain⟨i,z⟩:=hi d hd;rw[z] at e;cases e) (.type "int") (by decide) (by rfl) (fun d hd=>by obtain⟨i,z⟩:=hi d hd;rw[z];rfl)
 ·exact one (fun d hd xs e=>by obtain⟨i,z⟩:=hi d hd;rw[z] at e;cases e) (.type "str") (by decide) (by rfl) (fun d hd=>by obtain⟨i,z⟩:=hi d hd;rw[z];rfl)
 ·obtain⟨T,hT2,hT⟩:∃ T:Value,(T == T)=true/\∀ d r,D.tup (d::r)∈ds->tyD d=T/\Sim d d:=by
   cases hds:ds with
   | nil=>exact⟨.type "int",by rfl,fun d r z=>by cases z⟩
   | cons d0 ds0 =>
    obtain⟨e0,r0,rfl⟩:=hi d0 (by rw[hds];exact .head _);refine⟨tyD e0,xO e0,fun d r z=>?_⟩;have s1:=hom.1 _ (show D.tup (d::r)∈ds by rw[hds];exact z) (.tup (e0::r0)) (by rw[hds];exact .head _);have s2:=hom.1 _ (show D.tup (d::r)∈ds by rw[hds];exact z) (.tup (d::r)) (by rw[hds];exact z);exact⟨Aj s1.1,s2.1⟩
  refine pG I (tuples' (T != Value.type "tuple")) ho hc hcc hd hD rv h64 (fun h2 h' kp E Q q=>?_) (fun h' kp i j C hi' hj q=>?_) q
  ·obtain⟨fs,k,l,m⟩:=kat_tups I kp hD rv hi;refine W.kat_kind k (by lia) (fun v hv=>?_) hT2 q;obtain⟨x,d,r,z1,z2,z3⟩:=m v hv;obtain⟨t1,t2⟩:=hT d r z3;rw[← t1];exact lK I kp t2 z1 z2
  ·obtain⟨x,v,e1,e2,e3,e4,e5,e6⟩:=at3 (i:=i) hD rv (by lia);obtain⟨y,u,f1,f2,f3,f4,f5,f6⟩:=at3 (i:=j) hD rv (by lia);unfold W.kas_ask;rw[e3,f3];have hq:C (dlt (ds.getD i .non) (ds.getD j .non)) { s with heap:=h' }:=q;obtain⟨d1,r1,E1⟩:=hi _ e6;obtain⟨d2,r2,E2⟩:=hi _ f6;have sh1:=hsh _ e6;have sh2:=hsh _ f6;have sm:=hom.1 _ e6 _ f6;rw[E1] at e4 e6 hq sh1 sm;rw[E2] at f4 f6 hq sh2 sm;obtain⟨a1,w1,rfl,ha1,hda1⟩:=aN e4;obtain⟨a2,w2,rfl,ha2,hda2⟩:=aN f4;cases e5;cases f5;obtain⟨its1,v1,⟨o1,eo1,ec1,n1,ed1⟩,_⟩:=I.tuple (SqT.of ha1);obtain⟨its2,v2,⟨o2,eo2,ec2,n2,ed2⟩,_⟩:=I.tuple (SqT.of ha2);have k1:=hda1.len;have k2:=hda2.len;have k3:=v1.length;have k4:=v2.length;have cm:=Mv I (s':={ s with heap:=h' }) kp 49;have each:∀(k:Nat)(p q:Value),(its1.zip its2)[k]?=some (p,q)->∃(x y:V),Den H x ((d1::r1).getD k .non)/\Den H y ((d2::r2).getD k .non)/\RelV x p/\RelV y q/\Sim ((d1::r1).getD k .non) ((d2::r2).getD k .non)/\cN 49 ((d1::r1).getD k .non)/\cN 49 ((d2::r2).getD k .non):=by
    intro k p q hz;rw[getElem?_zip_eq_some] at hz;have b1:=(Wt.mp hz.1).1;have b2:=(Wt.mp hz.2).1;obtain⟨x1,p1,_,g1,_,g2,g3,g4⟩:=at3 (i:=k) hda1 v1 (by lia);obtain⟨x2,p2,_,g1',_,g2',g3',g4'⟩:=at3 (i:=k) hda2 v2 (by lia);rw[hz.1] at g1;rw[hz.2] at g1';cases g1;cases g1';refine⟨x1,x2,g2,g2',g3,g3',sm.at_ (i:=k) ?_ ?_,(sh1.2 _ rfl).2 _ g4,(sh2.2 _ rfl).2 _ g4'⟩
    ·rw[Wv,Wr (by lia)];rfl
    ·rw[Wv,Wr (by lia)];rfl
   refine W.kat_lt (kp _ _ eo1) ed1 (kp _ _ eo2) ed2 (SO.Bv (e:=fun k=>eqD ((d1::r1).getD k .non) ((d2::r2).getD k .non)) (f:=fun k=>dlt ((d1::r1).getD k .non) ((d2::r2).getD k .non)) _ 0 (fun k p q z=>?_) (fun k p q z _ Q E hq=>?_) ?_)
   ·obtain⟨x,y,h1,h2,h3,h4,h5,h6,h7⟩:=each k p q z;rw[Nat.zero_add];exact(cm _ _ _ _ _ _ _ h6 h7 h5 h1 h2 h3 h4 (by simp only[Around.in1];lia)).1
   ·obtain⟨x,y,h1,h2,h3,h4,h5,h6,h7⟩:=each k p q z;rw[Nat.zero_add] at hq ⊢;have lt:=(cm _ _ X.A.in1.in1 _ _ _ _ h6 h7 h5 h1 h2 h3 h4 (by simp only[Around.in1];lia)).2;cases hb:(T != Value.type "tuple") && k == 0 with
    | false=>exact uy lt Q E hq
    | true =>
     rw[Bool.and_eq_true,beq_iff_eq] at hb;obtain⟨hb,rfl⟩:=hb;have t1:=hT d1 r1 e6;exact lQ h5 h1 h2 h3 h4 (show ∀ ds,d1≠.tup ds from Bb t1.2 (by rw[t1.1];exact hb)) Q E hq
   ·have hl:=lD (d1::r1) (d2::r2);have e:List.range' 0 (its1.toArray.toList.zip its2.toArray.toList).length=List.range (min (d1::r1).length (d2::r2).length):=by
     rw[List.range_eq_range'];congr 1;simp only[length_zip];lia
    have ef:decide (its1.toArray.size<its2.toArray.size)=decide ((d1::r1).length<(d2::r2).length):=by
     rw[show its1.toArray.size=(d1::r1).length by simp at k1 k3 ⊢;lia,show its2.toArray.size=(d2::r2).length by simp at k2 k4 ⊢;lia]
    rw[e,ef,hl];rw[Aq] at hq;exact hq
end
end L2
namespace L2
open PySem PySem.Spec PyProof.Rows
theorem pQ(t:List Nat):∀(k:Nat)(acc:List Nat),List.foldl (fun x1 x2=>x1++x2) acc.toArray (List.replicate k t.toArray)=(acc++(List.replicate k t).flatten).toArray
 | 0,acc=>by simp
 | k+1,acc=>by
  have e:acc.toArray++t.toArray=(acc++t).toArray:=by simp
  have e2:(acc++t)++(List.replicate k t).flatten=acc++(List.replicate (k+1) t).flatten:=by
   rw[replicate_succ,flatten_cons,append_assoc]
  rw[← e2,← pQ t k (acc++t),← e,replicate_succ,List.foldl_cons]
def Ld(n:Nat):(List.replicate n ([]:List Nat)).flatten=[]:=by
 induction n with
 | zero=>rfl
 | succ n ih=>rw[replicate_succ,flatten_cons,ih];rfl
def K7(t:List Nat)(n:Nat):Txt.mul ⟨t.toArray⟩ (n:Int)=⟨(List.replicate n t).flatten.toArray⟩:=by
 unfold Txt.mul;by_cases h1:(n:Int)<1
 ·rw[if_pos h1];have:n=0:=by lia
  subst this
  rfl
 ·rw[if_neg h1];by_cases h2:(((n:Int) == 1 || (⟨t.toArray⟩:Str).length == 0)=true)
  ·rw[if_pos h2];rw[Bool.or_eq_true,beq_iff_eq,beq_iff_eq] at h2;rcases h2 with z | z
   ·have:n=1:=by lia
    subst this;simp
   ·have z':t=[]:=by
     have:t.toArray.size=0:=z
     simpa using this
    subst z';rw[Ld]
  ·rw[if_neg h2];have:=pQ t n [];simp only[List.nil_append] at this;rw[← this];simp
def Q5:R2:=fun x y H Q=>∃(t:List Nat)(n:Nat),x=.str ⟨t.toArray⟩/\y=.int (n:Nat)/\n<=100000/\t.length*n<=100000/\Q (.str ⟨(List.replicate n t).flatten.toArray⟩) H
def m8:OpR X (binaryOp .Mult) Q5:=by
 intro pins s σ H x y v u Q I rx ry h;obtain⟨t,n,rfl,rfl,hn,hl,q⟩:=h;obtain⟨t',rfl⟩:=rx;obtain⟨t'',rfl⟩:=ry;have hlen:(⟨t.toArray⟩:Str).length=t.length:=by show t.toArray.size=_;simp
 refine SB.mul ⟨?_,fun h1 _=>?_,fun h1 _=>?_⟩ fun t3 k=>?_
 ·simp only[Bool.or_eq_false_iff,decide_eq_false_iff_not];lia
 ·rw[hlen];intro z;have h0:0<n:=by lia
  have z2:((2:Int)^63 - 1) / (n:Int)<(t.length:Int):=z;rw[Int.ediv_lt_iff_lt_mul (by lia)] at z2;have e:((t.length:Int)*(n:Int))=((t.length*n:Nat):Int):=by push_cast;rfl
  rw[e] at z2;lia
 ·rw[hlen,Int.toNat_natCast];unfold Builtin.Str.tooLong;exact WX (by have:=gZ;lia)
 ·rw[K7];exact⟨.str _,H,I.tok _,⟨_,rfl⟩,q⟩
end L2
namespace L2
open PySem
def ltr(t i:Nat):Nat:=97+(t+i)%26
def nm0(t k:Nat):List Nat:=ltr t (k%26)::List.replicate (k%7) (ltr t (k / 26))
def nm1(t k:Nat):List Nat:=List.replicate (1+k%8) (ltr t (k / 8))
def nm2(t a k:Nat):List Nat:=List.replicate a (ltr t 25)++ltr t (k%20)::ltr t (k / 20)::List.replicate (6 - a) (ltr t 25)
def rH(hi:i<26)(hj:j<26)(h:ltr t i=ltr t j):i=j:=by
 unfold ltr at h;lia
def Lb(hi:i<70)(hj:j<70)(h:nm0 t i=nm0 t j):i=j:=by
 have hl:=congrArg List.length h;unfold nm0 at h hl;rw[length_cons,length_cons,length_replicate,length_replicate] at hl;have:=rH (Nat.mod_lt _ (by decide)) (Nat.mod_lt _ (by decide)) (List.cons.inj h).1;omega
def JC(hi:i<70)(hj:j<70)(h:nm1 t i=nm1 t j):i=j:=by
 have hl:=congrArg List.length h;have h0:=congrArg (fun x=>x[0]?) h;unfold nm1 at h0 hl;rw[length_replicate,length_replicate] at hl;simp only[List.getElem?_replicate] at h0;rw[if_pos (by lia),if_pos (by lia)] at h0;have:=rH (by lia) (by lia) (WT h0);lia
def KZ(hi:i<70)(hj:j<70)(h:nm2 t a i=nm2 t a j):i=j:=by
 unfold nm2 at h;have h':=List.append_cancel_left h;have h1:=(List.cons.inj h').1;have h2:=(List.cons.inj (List.cons.inj h').2).1;have:=rH (by lia) (by lia) h1;have:=rH (by lia) (by lia) h2;lia
def nu{f:Nat->List Nat}(h:∀ i j,i<n->j<n->f i=f j->i=j):((List.range n).map f).Nodup:=by
 rw[nodup_iff_pairwise_ne,pairwise_map];refine(List.pairwise_lt_range).imp_of_mem fun {a b} ha hb hab e=>?_
 have:=h a b (mem_range.mp ha) (mem_range.mp hb) e;lia
def wk{x:List Nat}(h1:1<=x.length)(h2:x.length<=8)(h:∀ c∈x,97<=c/\c<=122):isNm ⟨x.toArray⟩=true:=by
 unfold isNm;have hl:(⟨x.toArray⟩:Str).length=x.length:=by show x.toArray.size=_;simp
 rw[hl,W9 h1,W9 h2];simp only[Bool.true_and,all_eq_true];intro c hc;exact W9 (h c (by simpa using hc))
def m7(t i:Nat):97<=ltr t i/\ltr t i<=122:=by
 unfold ltr;lia
def Mf(t k:Nat):isNm ⟨(nm0 t k).toArray⟩=true:=by
 refine wk (by simp[nm0]) (by simp[nm0];lia) fun c hc=>?_
 rcases mem_cons.mp hc with rfl | hc
 ·exact m7 _ _
 ·rw[(mem_replicate.mp hc).2];exact m7 _ _
def Od(t k:Nat):isNm ⟨(nm1 t k).toArray⟩=true:=by
 refine wk (by simp[nm1]) (by simp[nm1];lia) fun c hc=>?_
 rw[(mem_replicate.mp hc).2];exact m7 _ _
def M6{t a:Nat}(k:Nat)(ha:a<=6):isNm ⟨(nm2 t a k).toArray⟩=true:=by
 refine wk (by simp[nm2];lia) (by simp[nm2];lia) fun c hc=>?_
 unfold nm2 at hc;rcases mem_append.mp hc with hc | hc
 ·rw[(mem_replicate.mp hc).2];exact m7 _ _
 rcases mem_cons.mp hc with rfl | hc
 ·exact m7 _ _
 rcases mem_cons.mp hc with rfl | hc
 ·exact m7 _ _
 rw[(mem_replicate.mp hc).2];exact m7 _ _
structure zp(xs:List (List Nat)):Prop where
 len:xs.length=70
 nd:xs.Nodup
 nm:∀ x∈xs,isNm ⟨x.toArray⟩=true
def Kv{f:Nat->List Nat}(h1:∀ i j,i<70->j<70->f i=f j->i=j)(h2:∀ k,isNm ⟨(f k).toArray⟩=true):zp ((List.range 70).map f) :=
 ⟨by simp,nu h1,fun x hx=>by obtain⟨k,_,rfl⟩:=mem_map.mp hx;exact h2 k⟩
def R6(t:Nat):zp ((List.range 70).map (nm0 t)):=Kv (fun _ _ hi hj=>Lb hi hj) (Mf t)
def RL(t:Nat):zp ((List.range 70).map (nm1 t)):=Kv (fun _ _ hi hj=>JC hi hj) (Od t)
def row2(ha:a<=6):zp ((List.range 70).map (nm2 t a)):=Kv (fun _ _ hi hj=>KZ hi hj) (fun k=>M6 k ha)
def Cq(ht:t<26)(hi:i<26):((List.range 26).map (97 + ·)).drop t++((List.range 26).map (97 + ·)).take t=(List.range 26).map (ltr t):=by
 apply ext_getElem
 ·simp;lia
 ·intro n h1 h2;simp only[W0,length_drop,length_take,Xa,length_range] at h1 h2;rw[List.getElem_append];split
  ·simp[ltr];simp at *;lia
  ·simp[ltr];simp at *;lia
end L2
namespace L2
open PySem PySem.Spec PyProof.Rows
def Iw{sc:Scope}{ns:List (Str × NameKind)}(h:∀ y∈ns,y.2≠.free):∀ y∈ns,y.2=.free->sc.names.lookup y.1=some .cell\/sc.names.lookup y.1=some .free:=fun y hy hf=>absurd hf (h y hy)
def Dv{X:Cx}{K:W.Frag}{tg l:Expr}{tl:TE}(hK:X.K=K)(hl:PE X l tl):PI X tg l (Rq K tl):=by subst hK;exact fY hl
def stT{K:W.Frag}{H H':Hp}{a:Addr}{xs:List V}(e:Same H H')(h:SqT K H a xs):SqT K H' a xs:=by
 rcases h with(h | ⟨o,h⟩) | h
 ·exact .inl (.inl (e _ _ h))
 ·exact .inl (.inr ⟨o,e _ _ h⟩)
 ·exact .inr h
def QL(K:W.Frag):R2:=fun x y H Q=>∃(a b:Addr)(xs ys:List V),x=.ref a/\y=.ref b/\SqT K H a xs/\SqT K H b ys/\xs.length+ys.length<=sizeLine/\∀(q:Addr)(H':Hp),Same H H'->SqT K H' q (xs++ys)->Q (.ref q) H'
def Gf:OpR X (binaryOp .Add) (QL X.K):=by
 intro pins s σ H x y v u Q I rx ry h;obtain⟨a,b,xs,ys,rfl,rfl,ha,hb,hz,q⟩:=h;cases xs with
 | cons x1 xs =>
  refine BX pins s σ H (.ref a) (.ref b) v u Q I rx ry ⟨a,b,_,_,rfl,rfl,ha,hb,by simp,hz,fun z=>?_,fun z p hp=>q p _ (ao hp _) (SqT.of ak)⟩;refine q a H (Same.refl H) ?_;rw[z,append_nil];exact ha
 | nil =>
  cases rx;cases ry;obtain⟨its,r1,p1,_⟩:=I.tuple ha;obtain⟨its2,r2,p2,_⟩:=I.tuple hb;cases r1;obtain⟨⟨cls,dd,data,sl⟩,ho,hc,n,hd⟩:=id p1;obtain⟨⟨cls2,dd2,data2,sl2⟩,ho2,hc2,n2,hd2⟩:=id p2;simp only at hc hd hc2 hd2;subst hc hd hc2 hd2;refine concat_meets ⟨_,ho,rfl⟩ ⟨_,ho2,rfl⟩ noFill_tuple_add seq_tuple_add PySem.F.slot_tuple_add PySem.F.entry_tuple_add (PySem.F.args_tuple_add_2 _ _) (tuple_addW0 a b _ its2.toArray n n2 dd dd2 sl sl2 rfl) ⟨ho,ho2,?_⟩;exact⟨.ref b,H,I,rfl,q b H (Same.refl H) hb⟩
end L2
set_option maxHeartbeats 4000000
namespace L2
open PySem PySem.Spec PyProof.Rows
def QT:R2:=fun x y H Q=>∃(ds es:List D)(n:Nat),Den H x (.tup ds)/\Den H y (.tup es)/\cN (n+1) (.tup ds)/\cN (n+1) (.tup es)/\n<=50/\uh ds es/\Q (.bl (eqD (.tup ds) (.tup es))) H
def JF(hu:X.A.units+64<cLine):OpR X (compareOp .Eq) QT:=by
 intro pins s σ H x y v u Q I rx ry h;obtain⟨ds,es,n,hx,hy,hs1,hs2,hn,hm,q⟩:=h;have ih:=Mv I (s':=s) (fun b o z=>z) n;obtain⟨a,vs,rfl,ha,hda⟩:=aN hx;obtain⟨b,us,rfl,hb,hdb⟩:=aN hy;cases rx;cases ry;obtain⟨its,r1,p1,_⟩:=I.tuple (SqT.of (K:=X.K) ha);obtain⟨its2,r2,p2,_⟩:=I.tuple (SqT.of (K:=X.K) hb);have l1:=hda.len;have l2:=hdb.len;have m1:=r1.length;have m2:=r2.length;have e0:=allR_eq ds es;rw[show ds.length=its.toArray.size by simp;lia,show es.length=its2.toArray.size by simp;lia] at e0;refine SeqAt.eq_tupleAt (e:=fun j=>eqD (ds.getD j .non) (es.getD j .non)) p1 p2 (by lia) (fun j h1 h2=>?_) ?_
 ·have hj1:j<vs.length:=by simpa [m1] using h1
  have hj2:j<us.length:=by simpa [m2] using h2
  obtain⟨d1,g1,b1⟩:=hda.at_ (Wr hj1);obtain⟨d2,g2,b2⟩:=hdb.at_ (Wr hj2);obtain⟨w1,hw1,rw1⟩:=r1.get (Wr hj1);obtain⟨w2,hw2,rw2⟩:=r2.get (Wr hj2);have q1:its.toArray[j]=w1:=by
   have:=(Wt.mp hw1).2
   simpa using this
  have q2:its2.toArray[j]=w2:=by
   have:=(Wt.mp hw2).2
   simpa using this
  rw[q1,q2];rw[Wv,Wv,g1,g2];have s1:=(hs1.2 ds rfl).2 d1 (W2 g1);have s2:=(hs2.2 es rfl).2 d2 (W2 g2);exact(ih d1 d2 X.A.in1 _ _ _ _ s1 s2 (hm.at_ g1 g2) b1 b2 rw1 rw2 (by first | (simp only[Around.in1];lia) | lia)).1
 ·rw[e0];exact⟨.bl _,H,I,rfl,q⟩
def R4(K:W.Frag):R2:=fun x y H Q=>∃(p:Addr)(us:List V)(d:D)(es:List D)(n:Nat),y=.ref p/\(SqL K H p us\/SqT K H p us)/\Den H x d/\bL H us es/\(∀ e∈es,∃ r,e=.tup r)/\(∃ r,d=.tup r)/\cN n d/\(∀ e∈es,cN n e/\Sim e d)/\n<=50/\Q (.bl (es.any fun e=>eqD e d)) H
theorem Ig{α β:Type}{f:α->Bool}{g:β->Bool}:∀ {xs:List α}{ys:List β},xs.length=ys.length->(∀(i:Nat) x y,xs[i]?=some x->ys[i]?=some y->f x=g y)->xs.any f=ys.any g
 | [],[],_,_=>rfl
 | x::xs,y::ys,hl,h=>by
  rw[any_cons,any_cons,h 0 x y rfl rfl,Ig (by simpa using hl) fun i a b h1 h2=>h (i+1) a b (by simpa using h1) (by simpa using h2)]
 | [],_::_,hl,_=>by simp at hl
 | _::_,[],hl,_=>by simp at hl
open Classical in
def NT(hu:X.A.units+64<cLine):OpR X (compareOp .In) (R4 X.K):=by
 intro pins s σ H x y v u Q I rx ry h;obtain⟨p,us,d,es,n,rfl,hq,hx,hde,htup,⟨r0,rfl⟩,hsd,hse,hn,q⟩:=h;cases ry;have cm:=Mv I (s':=s) (fun b o z=>z) n;have key:∀ its:List Value,Vals us its->(∀ w∈its,SeqAt.EqAt X.A.in1 s w v (decide (∃ a e,w=Value.ref a/\Den H (.ref a) e/\eqD e (.tup r0)=true)))/\its.any (fun w=>decide (∃ a e,w=Value.ref a/\Den H (.ref a) e/\eqD e (.tup r0)=true))=es.any fun e=>eqD e (.tup r0):=by
  intro its r;have at_:∀(i:Nat)(w:Value),its[i]?=some w->∃ a e,es[i]?=some e/\w=.ref a/\Den H (.ref a) e:=fun i w hw=>by
   have hl:=r.length;have hi:=(Wt.mp hw).1;obtain⟨e,he,de⟩:=hde.at_ (Wr (by lia:i<us.length));obtain⟨r1,rfl⟩:=htup e (W2 he);obtain⟨a,vs,ea,ha,hd⟩:=aN de;obtain⟨w',hw',rw'⟩:=r.get (Wr (by lia:i<us.length));rw[hw] at hw';cases hw';rw[ea] at rw' de;cases rw';exact⟨a,_,he,rfl,de⟩
  have val:∀ {a:Addr}{e:D},Den H (.ref a) e->decide (∃ a' e',Value.ref a=Value.ref a'/\Den H (.ref a') e'/\eqD e' (.tup r0)=true)=eqD e (.tup r0):=fun {a e} de=>by
   rw[Bool.eq_iff_iff,decide_eq_true_eq];constructor
   ·rintro⟨a',e',ea,de',h⟩;injection ea with ea;subst ea;rw[Den.det de de'];exact h
   ·exact fun h=>⟨a,e,rfl,de,h⟩
  refine⟨fun w hw=>?_,?_⟩
  ·obtain⟨i,hi,rfl⟩:=List.getElem_of_mem hw;obtain⟨a,e,he,ew,de⟩:=at_ i _ (Wr hi)
   rw[ew,val de];obtain⟨s1,s2⟩:=hse e (W2 he);exact(cm e (.tup r0) X.A.in1 (.ref a) x (.ref a) v s1 hsd s2 de hx rfl rx (by first | (simp only[Around.in1];lia) | lia)).1
  ·refine Ig (by rw[← r.length,hde.len]) fun i w e hw he=>?_
   obtain⟨a,e',he',ew,de⟩:=at_ i w hw
   rw[he] at he';cases he';rw[ew];exact val de
 rcases hq with hq | hq
 ·obtain⟨its,r,pl,hz⟩:=I.list hq;obtain⟨k1,k2⟩:=key its r;refine SeqAt.in_listAt (fun w=>decide (∃ a e,w=Value.ref a/\Den H (.ref a) e/\eqD e (.tup r0)=true)) pl.isList (fun w hw=>k1 w (by simpa using hw)) ⟨.bl _,H,I,rfl,?_⟩;rw[show its.toArray.any (fun w=>decide (∃ a e,w=Value.ref a/\Den H (.ref a) e/\eqD e (.tup r0)=true))=its.any (fun w=>decide (∃ a e,w=Value.ref a/\Den H (.ref a) e/\eqD e (.tup r0)=true)) by simp,k2];exact q
 ·obtain⟨its,r,pl,hz⟩:=I.tuple hq;obtain⟨k1,k2⟩:=key its r;refine SeqAt.in_tupleAt (fun w=>decide (∃ a e,w=Value.ref a/\Den H (.ref a) e/\eqD e (.tup r0)=true)) pl (fun w hw=>k1 w (by simpa using hw)) ⟨.bl _,H,I,rfl,?_⟩;rw[show its.toArray.any (fun w=>decide (∃ a e,w=Value.ref a/\Den H (.ref a) e/\eqD e (.tup r0)=true))=its.any (fun w=>decide (∃ a e,w=Value.ref a/\Den H (.ref a) e/\eqD e (.tup r0)=true)) by simp,k2];exact q
structure Up(D E:Ends):Prop where
 n:∀ σ H,D.nx σ H->E.nx σ H
 r:∀ v H,D.rt v H->E.rt v H
 b:∀ σ H,D.bk σ H->E.bk σ H
 c:∀ σ H,D.ct σ H->E.ct σ H
def LC{g:TG}{tb:TS}{D:Ends}{v:V}{σ:St}{H:Hp}(k:∀ E:Ends,Up D E->g v σ H fun σ2 H2=>tb E σ2 H2):g v σ H fun σ2 H2=>tb D σ2 H2:=k D ⟨fun _ _ h=>h,fun _ _ h=>h,fun _ _ h=>h,fun _ _ h=>h⟩
def cZ{J:It}{g:TG}{tc:TT}{te:TE}{R:Hp->Prop}{l:Addr}{σ0:St}{H0:Hp}(n:Nat)(Pv:Nat->St->Hp->Prop)(h0:Pv 0 σ0 H0)(hstop:∀ σ H,Pv n σ H->J.stop n H/\R H)
  (hgo:∀ i σ H,i<n->Pv i σ H->J.go i H/\∀ N:St->Hp->Prop,(∀ σ' H',Pv (i+1) σ' H'->N σ' H')->∀ x H',J.yld i H x H'->g x σ H' fun σ2 H2=>tc σ2 H2 fun b H3=>if b=true then te σ2 H3 fun v H4=>∃ ys,H4 l=some (.lst ys)/\ys.length<sizeLine/\N σ2 (upd H4 l (.lst (ys++[v]))) else N σ2 H3) :
  ∃ W:Nat->Nat->St->Hp->Prop,(∃ m,W 0 m σ0 H0)/\∀ i m σ H,W i m σ H ->
   (J.stop i H/\R H)\/(J.go i H/\∃ N:St->Hp->Prop,(∀ σ' H',N σ' H'->∃ m',m'<m/\W (i+1) m' σ' H') /\
    ∀ x H',J.yld i H x H'->g x σ H' fun σ2 H2=>tc σ2 H2 fun b H3=>if b=true then te σ2 H3 fun v H4=>∃ ys,H4 l=some (.lst ys)/\ys.length<sizeLine/\N σ2 (upd H4 l (.lst (ys++[v]))) else N σ2 H3) :=
 iw n Pv h0 hstop fun i σ H hi hp=>⟨(hgo i σ H hi hp).1,(hgo i σ H hi hp).2 _ fun _ _ h=>h⟩
def FnI(K:W.Frag)(x:Str)(st:Stmt):Prop:=∃(f:Addr)(fd:FuncData),W.nsIn K mainGlobals x=some (some (.ref f))/\Fun K x x st f fd
def fni{K:W.Frag}{x:Str}{st:Stmt}{f:Addr}{oc:Value}{od an:Option Addr}{osl:Array (Option Value)}{kV doc pm cdv ct:Value}(a:W.nsIn K mainGlobals x=some (some (.ref f)))(l:K.lookup f=some ⟨oc,od,.func (W.fnOf x x (gR st) (fG st) (aC st) .none kV doc pm an cdv ct),osl⟩)
  (c:W.codeIn K cdv x=true)(k:W.keepIn K (.ref f)=true):FnI K x st:=⟨f,_,a,Je l c k⟩
def FnI.has{K:W.Frag}{mg:Str->Option Value}{h:Heap}{x:Str}{st:Stmt}{ps:List Str}(X:K.In h)(G:h.Ns mainGlobals mg)(i:FnI K x st)
  (hb:∀(kV doc pm:Value)(an:Option Addr)(cdv ct:Value)(us:List Value),us.length=ps.length->bindArgs (W.fnOf x x (gR st) (fG st) (aC st) .none kV doc pm an cdv ct) ⟨us,[]⟩=pure (ps.zip us)):Has K mg x st ps:=by
 obtain⟨f,fd,a,F⟩:=i;exact⟨f,fd,F,F.binds hb,W.mg_of X G a⟩
def len0{α:Type _}{P:List α->Prop}(us:List α)(hl:us.length=0)(h:P []):P us:=by
 cases us with
 | nil=>exact h
 | cons a t=>exact(Nat.succ_ne_zero _ hl).elim
theorem Px{α:Type _}{P:List α->Prop}(us:List α)(n:Nat)(hl:us.length=n+1)(h:∀ a t,t.length=n->P (a::t)):P us:=by
 cases us with
 | nil=>exact(Nat.succ_ne_zero n hl.symm).elim
 | cons a t=>exact h a t (Nat.succ.inj hl)
@[elab_as_elim] theorem len1{α:Type _}{P:List α->Prop}(us:List α)(hl:us.length=1)(h:∀ a0,P [a0]):P us:=Px (P:=P) us 0 hl fun a t ht=>len0 (P:=fun t=>P (a::t)) t ht (h a)
@[elab_as_elim] theorem len2{α:Type _}{P:List α->Prop}(us:List α)(hl:us.length=2)(h:∀ a0 a1,P [a0,a1]):P us:=Px (P:=P) us 1 hl fun a t ht=>len1 (P:=fun t=>P (a::t)) t ht (h a)
@[elab_as_elim] theorem Lz{α:Type _}{P:List α->Prop}(us:List α)(hl:us.length=3)(h:∀ a0 a1 a2,P [a0,a1,a2]):P us:=Px (P:=P) us 2 hl fun a t ht=>len2 (P:=fun t=>P (a::t)) t ht (h a)
@[elab_as_elim] theorem RB{α:Type _}{P:List α->Prop}(us:List α)(hl:us.length=4)(h:∀ a0 a1 a2 a3,P [a0,a1,a2,a3]):P us:=Px (P:=P) us 3 hl fun a t ht=>Lz (P:=fun t=>P (a::t)) t ht (h a)
end L2
namespace ST
open PySem PySem.SetTable
def S5:Nat->Nat
 | 0=>0
 | d+1=>5*S5 d+1
def O2(d:Nat):5^d=4*S5 d+1:=by
 induction d with
 | zero=>rfl
 | succ d ih=>rw[Nat.pow_succ,ih];show(4*S5 d+1)*5=4*(5*S5 d+1)+1;lia
def Jo(d e:Nat):S5 (d+e)=5^e*S5 d+S5 e:=by
 induction e with
 | zero=>show S5 d=5^0*S5 d+0;simp
 | succ e ih =>
  show 5*S5 (d+e)+1=5^(e+1)*S5 d+(5*S5 e+1);rw[ih,Nat.pow_succ];have:5*(5^e*S5 d)=5^e*5*S5 d:=by rw[Nat.mul_comm (5^e) 5,Nat.mul_assoc]
  lia
def Kl(k:Nat):∃ a b:Nat,5^(2^k)=1+2^(k+2)*a/\S5 (2^k)=2^k*(2*b+1):=by
 induction k with
 | zero=>exact⟨1,0,rfl,rfl⟩
 | succ k ih =>
  obtain⟨a,b,h1,h2⟩:=ih;have e:2^(k+1)=2^k+2^k:=by rw[Nat.pow_succ];lia
  refine⟨a+2^(k+1)*(a*a),b+2^k*a+2*(b*(2^k*a)),?_,?_⟩
  ·have e3:(2:Nat)^(k+1+2)=2*2^(k+2):=by rw[show k+1+2=(k+2)+1 from rfl,Nat.pow_succ,Nat.mul_comm]
   have e4:(2:Nat)^(k+2)=4*2^k:=by rw[Nat.pow_add];lia
   rw[e3,e4,e,Nat.pow_add,h1,e4];generalize (2:Nat)^k=x
   grind
  ·rw[e,Jo,h1,h2];have e4:(2:Nat)^(k+2)=4*2^k:=by rw[Nat.pow_add];lia
   rw[e4];generalize (2:Nat)^k=x
   grind
def R5(k:Nat):∀ i r:Nat,∃ d,d<2^k/\(5^d*i+S5 d)%2^k=r%2^k:=by
 induction k with
 | zero=>intro i r;exact⟨0,by decide,by rw[Nat.pow_zero,Nat.mod_one,Nat.mod_one]⟩
 | succ k ih =>
  intro i r;obtain⟨d,hd,e⟩:=ih i r;obtain⟨a,b,h1,h2⟩:=Kl k;have e2:(2:Nat)^(k+1)=2*2^k:=by rw[Nat.pow_succ,Nat.mul_comm]
  have hx:0<(2:Nat)^k:=Nat.pow_pos (by decide);generalize hy:5^d*i+S5 d=y at e;by_cases h:y%(2*2^k)=r%(2*2^k)
  ·exact⟨d,by lia,by rw[hy,e2];exact h⟩
  ·refine⟨d+2^k,by lia,?_⟩;have e3:5^(d+2^k)*i+S5 (d+2^k)=5^(2^k)*y+S5 (2^k):=by
    rw[Jo,Nat.pow_add,← hy];generalize 5^2^k=u;generalize 5^d=v;generalize S5 d=s
    grind
   rw[e3,h1,h2,e2];have e4:(2:Nat)^(k+2)=2*2^k*2:=by rw[Nat.pow_add];lia
   rw[e4];generalize (2:Nat)^k=x at *;have e5:(1+2*x*2*a)*y+x*(2*b+1)=(y+x)+2*x*(2*a*y+b):=by grind
   rw[e5,Nat.add_mul_mod_self_left];have m1:y%(2*x)=y%x+x*(y / x%2):=by rw[Nat.mul_comm 2 x,Nat.mod_mul]
   have m2:r%(2*x)=r%x+x*(r / x%2):=by rw[Nat.mul_comm 2 x,Nat.mod_mul]
   have m3:(y+x)%(2*x)=(y+x)%x+x*((y+x) / x%2):=by rw[Nat.mul_comm 2 x,Nat.mod_mul]
   have q3:=Nat.add_mod_right y x;have q4:=Nat.add_div_right y hx;rw[m3,m2,q3,q4,e];have p1:y / x%2≠r / x%2:=fun z=>h (by rw[m1,m2,e,z])
   have p2:(y / x+1)%2=r / x%2:=by lia
   rw[p2]
def fH(mask:Nat):Nat->Nat × Nat->Nat × Nat
 | 0,p=>p
 | n+1,p=>fH mask n (leap mask p.1 p.2)
def Bt(mask n:Nat):∀ p:Nat × Nat,(fH mask n p).2=p.2 / 32^n:=by
 induction n with
 | zero=>intro p;show p.2=_;rw[Nat.pow_zero,Nat.div_one]
 | succ n ih =>
  intro p;show(fH mask n (leap mask p.1 p.2)).2=_;rw[ih];show p.2 / 32 / 32^n=_;rw[Nat.div_div_eq_div_mul,Nat.pow_succ,Nat.mul_comm]
def nU(mask n m:Nat):∀ p,fH mask (n+m) p=fH mask m (fH mask n p):=by
 induction n with
 | zero=>intro p;rw[Nat.zero_add];rfl
 | succ n ih=>intro p;rw[Nat.succ_add];exact ih _
def Qz(mask n:Nat):∀ i,i<=mask->fH mask n (i,0)=((5^n*i+S5 n)%(mask+1),0):=by
 induction n with
 | zero=>intro i hi;show(i,0)=_;rw[Nat.pow_zero,Nat.one_mul];show(i,0)=((i+0)%(mask+1),0);rw[Nat.add_zero,Nat.mod_eq_of_lt (by lia)]
 | succ n ih =>
  intro i hi;show fH mask n (leap mask i 0)=_;have e:leap mask i 0=((i*5+1)%(mask+1),0):=rfl;rw[e,ih _ (by have:=Nat.mod_lt (i*5+1) (show 0<mask+1 by lia);lia)];congr 1;have:∀ x y z M:Nat,(x*(y%M)+z)%M=(x*y+z)%M:=fun x y z M=>by
   rw[Nat.add_mod,Nat.mul_mod,Nat.mod_mod,← Nat.mul_mod,← Nat.add_mod]
  rw[this];congr 1;have e1:S5 (n+1)=5^n+S5 n:=by
   have:=O2 n;show 5*S5 n+1=_;lia
  rw[e1,Nat.pow_succ];generalize 5^n=u;generalize S5 n=s
  grind
def tQ{k mask:Nat}(hm:mask+1=2^k){i p r:Nat}(hp:p<2^64)(hr:r<=mask):∃ n,1<=n/\n<=mask+14/\(fH mask n (i,p)).1=r:=by
 have h13:(fH mask 13 (i,p)).2=0:=by
  rw[Bt];exact Nat.div_eq_of_lt (by show p<32^13;lia)
 have hi:(fH mask 13 (i,p)).1<=mask:=by
  have e:fH mask 13 (i,p)=leap mask (fH mask 12 (i,p)).1 (fH mask 12 (i,p)).2:=nU mask 12 1 _;rw[e];have:=Nat.mod_lt ((fH mask 12 (i,p)).1*5+1+(fH mask 12 (i,p)).2 / 32) (show 0<mask+1 by lia);show _%(mask+1)<=mask;lia
 generalize hq:fH mask 13 (i,p)=q at h13 hi;obtain⟨d,hd,e⟩:=R5 k q.1 r;refine⟨13+d,by lia,by lia,?_⟩;rw[nU,hq,show q=(q.1,0) from Prod.ext rfl h13,Qz _ _ _ hi];rw[hm,e,Nat.mod_eq_of_lt (by lia)]
def adv(t:SetTable):Nat->Probe->Probe
 | 0,p=>p
 | d+1,p=>adv t d (t.advance p)
def rD(t:SetTable)(d e:Nat):∀ p,adv t (d+e) p=adv t e (adv t d p):=by
 induction d with
 | zero=>intro p;rw[Nat.zero_add];rfl
 | succ d ih=>intro p;rw[Nat.succ_add];exact ih _
def Ag(mask i:Nat):runEnd mask i - i<=9:=by
 unfold runEnd;split <;> lia
def Bq(t:SetTable):∀(m:Nat)(q:Probe),q.more=m->(adv t m q).more=0/\(adv t m q).i=q.i/\(adv t m q).perturb=q.perturb:=by
 intro m
 induction m with
 | zero=>intro q h;exact⟨h,rfl,rfl⟩
 | succ m ih =>
  intro q h;have e:t.advance q={ q with j:=q.j+1,more:=q.more - 1 }:=by
   unfold SetTable.advance;rw[if_pos (by lia)]
  obtain⟨a,b,c⟩:=ih (t.advance q) (by rw[e];show q.more - 1=m;lia);rw[e] at b c;exact⟨a,by show(adv t m (t.advance q)).i=_;rw[e];exact b,by show(adv t m (t.advance q)).perturb=_;rw[e];exact c⟩
def reach(t:SetTable):∀(n:Nat)(q:Probe),q.more<=9->∃ d,d<=10*(n+1)/\(adv t d q).j=(fH t.mask (n+1) (q.i,q.perturb)).1/\(adv t d q).i=(fH t.mask (n+1) (q.i,q.perturb)).1/\(adv t d q).perturb=(fH t.mask (n+1) (q.i,q.perturb)).2/\(adv t d q).more<=9:=by
 intro n
 induction n with
 | zero =>
  intro q hq;obtain⟨a,b,c⟩:=Bq t q.more q rfl;refine⟨q.more+1,by lia,?_⟩;have e:adv t (q.more+1) q=t.advance (adv t q.more q):=rD t q.more 1 q;have e2:t.advance (adv t q.more q)={ adv t q.more q with j:=(leap t.mask q.i q.perturb).1,more:=runEnd t.mask (leap t.mask q.i q.perturb).1 - (leap t.mask q.i q.perturb).1,i:=(leap t.mask q.i q.perturb).1,perturb:=(leap t.mask q.i q.perturb).2 }:=by
   unfold SetTable.advance;rw[if_neg (by lia),b,c]
  rw[e,e2];exact⟨rfl,rfl,rfl,Ag _ _⟩
 | succ n ih =>
  intro q hq;obtain⟨d,hd,h1,h2,h3,h4⟩:=ih q hq;obtain⟨a,b,c⟩:=Bq t (adv t d q).more (adv t d q) rfl;refine⟨d+((adv t d q).more+1),by lia,?_⟩;have e:adv t (d+((adv t d q).more+1)) q=t.advance (adv t (adv t d q).more (adv t d q)):=by rw[rD,rD];rfl
  have e3:fH t.mask (n+1+1) (q.i,q.perturb)=leap t.mask (adv t d q).i (adv t d q).perturb:=by
   rw[nU _ (n+1) 1,h2,h3]
   rfl
  have e2:t.advance (adv t (adv t d q).more (adv t d q))={ adv t (adv t d q).more (adv t d q) with j:=(leap t.mask (adv t d q).i (adv t d q).perturb).1,more:=runEnd t.mask (leap t.mask (adv t d q).i (adv t d q).perturb).1 - (leap t.mask (adv t d q).i (adv t d q).perturb).1,i:=(leap t.mask (adv t d q).i (adv t d q).perturb).1,perturb:=(leap t.mask (adv t d q).i (adv t d q).perturb).2 }:=by
   unfold SetTable.advance;rw[if_neg (by lia),b,c]
  rw[e,e2,e3];exact⟨rfl,rfl,rfl,Ag _ _⟩
def meets{k:Nat}(hm:t.mask+1=2^k)(hq:q.more<=9)(hp:q.perturb<2^64){r:Nat}(hr:r<=t.mask):∃ d,d<=10*(t.mask+14)/\(adv t d q).j=r:=by
 obtain⟨n,h1,h2,h3⟩:=tQ hm hp hr;obtain⟨m,rfl⟩:∃ m,n=m+1:=⟨n - 1,by lia⟩
 obtain⟨d,hd,e,_⟩:=reach t m q hq;exact⟨d,by lia,by rw[e,h3]⟩
def BP(t:SetTable)(q:Probe)(d:Nat):Prop:=t.slot (adv t d q).j=.empty/\∀ e<d,t.slot (adv t e q).j≠.empty
def Ju:∀(d:Nat),t.slot (adv t d q).j=.empty->∃ e,e<=d/\BP t q e:=by
 intro d
 induction d using Nat.strongRecOn with
 | ind d ih =>
  intro h;by_cases z:∃ e,e<d/\t.slot (adv t e q).j=.empty
  ·obtain⟨e,he,h2⟩:=z;obtain⟨e',h3,h4⟩:=ih e he h2;exact⟨e',by lia,h4⟩
  ·exact⟨d,Wu _,h,fun e he h2=>z ⟨e,he,h2⟩⟩
def BP.next(h:BP t q (d+1)):BP t (t.advance q) d:=⟨h.1,fun e he=>h.2 (e+1) (by lia)⟩
def w6(hd:t.dummies = #[]){hashAt:Nat->Int}:∀(d fuel:Nat)(q:Probe),BP t q d->d<fuel ->
  (SetTable.probe.go t hashAt h fuel q=some (.empty (adv t d q).j q.dummy))\/∃ e i,e<d/\t.slot (adv t e q).j=.live i/\hashAt i=h/\SetTable.probe.go t hashAt h fuel q=some (.candidate (adv t e q).j i (t.advance (adv t e q))):=by
 intro d
 induction d with
 | zero =>
  intro fuel q h hf;obtain⟨fuel,rfl⟩:∃ f,fuel=f+1:=⟨fuel - 1,by lia⟩
  refine .inl ?_;unfold SetTable.probe.go;have:t.slot q.j=.empty:=h.1;rw[this]
  rfl
 | succ d ih =>
  intro fuel q hD hf;obtain⟨fuel,rfl⟩:∃ f,fuel=f+1:=⟨fuel - 1,by lia⟩
  have hne:=hD.2 0 (by lia);cases hs:t.slot q.j with
  | empty=>exact absurd hs hne
  | dummy =>
   exfalso;unfold SetTable.slot at hs;simp only at hs;split at hs
   ·cases hs
   ·split at hs
    ·rename_i h2;unfold SetTable.has at h2;rw[hd] at h2;simp at h2
    ·cases hs
  | live i =>
   by_cases hh:hashAt i=h
   ·refine .inr ⟨0,i,by lia,hs,hh,?_⟩;unfold SetTable.probe.go;rw[hs];simp only[hh,beq_self_eq_true,if_true]
    rfl
   ·have e0:SetTable.probe.go t hashAt h (fuel+1) q=SetTable.probe.go t hashAt h fuel (t.advance q):=by
     rw[SetTable.probe.go];rw[hs];simp only;rw[if_neg (by simpa using hh)]
    have hdum:(t.advance q).dummy=q.dummy:=by
     unfold SetTable.advance;split <;> rfl
    rw[e0];rcases ih fuel (t.advance q) hD.next (by lia) with h1 | ⟨e,i',h1,h2,h3,h4⟩
    ·exact .inl (by rw[h1,hdum];rfl)
    ·exact .inr ⟨e+1,i',by lia,h2,h3,h4⟩
def Up(xs:Array Nat):Prop:=xs.toList.Pairwise (· < ·)
def Up.lt(h:Up xs){i k a b:Nat}(hik:i<k)(ha:xs[i]?=some a)(hb:xs[k]?=some b):a<b:=by
 rw[← Array.getElem?_toList] at ha hb;obtain⟨h1,e1⟩:=Wt.mp ha;obtain⟨h2,e2⟩:=Wt.mp hb;have:=pairwise_iff_getElem.mp h i k h1 h2 hik;rw[e1,e2] at this;exact this
def Up.nil:Up #[]:=List.Pairwise.nil
def GJ{j:Nat}(h:Up xs):∀(fuel lo hi:Nat),hi<=xs.size->lo<=hi->hi - lo<=fuel->(∀ i v,i<lo->xs[i]?=some v->v<j)->(∀ i v,hi<=i->xs[i]?=some v->j<=v) ->
  SetTable.below.go xs j fuel lo hi<=xs.size/\(∀ i v,i<SetTable.below.go xs j fuel lo hi->xs[i]?=some v->v<j)/\(∀ i v,SetTable.below.go xs j fuel lo hi<=i->xs[i]?=some v->j<=v):=by
 intro fuel
 induction fuel with
 | zero =>
  intro lo hi h1 h2 h3 h4 h5;unfold SetTable.below.go;exact⟨by lia,h4,fun i v hi'=>h5 i v (by lia)⟩
 | succ fuel ih =>
  intro lo hi h1 h2 h3 h4 h5;unfold SetTable.below.go;by_cases hl:lo<hi
  ·rw[if_pos hl];dsimp only;have hm:(lo+hi) / 2<xs.size:=by lia
   have hg:xs[(lo+hi) / 2]?=some (xs.getD ((lo+hi) / 2) j):=by
    rw[Array.getD_eq_getD_getElem?,WD hm]
    rfl
   generalize xs.getD ((lo+hi) / 2) j=m at hg ⊢;by_cases hq:m<j
   ·rw[if_pos hq];refine ih _ _ h1 (by lia) (by lia) (fun i v hi' hv=>?_) h5;rcases Nat.lt_or_ge i ((lo+hi) / 2) with z | z
    ·exact Nat.lt_trans (h.lt z hv hg) hq
    ·obtain rfl:i=(lo+hi) / 2:=by lia
     rw[hg] at hv;cases hv;exact hq
   ·rw[if_neg hq];refine ih _ _ (by lia) (by lia) (by lia) h4 fun i v hi' hv=>?_
    rcases Nat.lt_or_ge ((lo+hi) / 2) i with z | z
    ·have:=h.lt z hg hv;lia
    ·obtain rfl:i=(lo+hi) / 2:=by lia
     rw[hg] at hv;cases hv;lia
  ·rw[if_neg hl];exact⟨by lia,h4,fun i v hi'=>h5 i v (by lia)⟩
def pI(h:Up xs):below xs j<=xs.size/\(∀ i v,i<below xs j->xs[i]?=some v->v<j)/\(∀ i v,below xs j<=i->xs[i]?=some v->j<=v):=by
 unfold SetTable.below;refine GJ h _ _ _ (Wu _) (Nat.zero_le _) (by lia) (fun i v hi=>absurd hi (Nat.not_lt_zero _)) fun i v hi hv=>?_
 rw[Array.getElem?_eq_none hi] at hv;cases hv
def below_at(h:Up xs)(hi:i<=xs.size)(h1:∀ k v,k<i->xs[k]?=some v->v<j)(h2:∀ k v,i<=k->xs[k]?=some v->j<=v):below xs j=i:=by
 obtain⟨a,b,c⟩:=pI h;rcases Nat.lt_trichotomy (below xs j) i with z | z | z
 ·have e:=WD (xs:=xs) (i:=below xs j) (by lia);have:=h1 _ _ z e;have:=c _ _ (Wu _) e;lia
 ·exact z
 ·have e:=WD (xs:=xs) (i:=i) (by lia);have:=h2 _ _ (Wu _) e;have:=b _ _ z e;lia
def yN(h:Up xs):below xs 0=0:=below_at h (Nat.zero_le _) (fun k v hk=>absurd hk (Nat.not_lt_zero _)) fun _ _ _ _=>Nat.zero_le _
def yV{i v:Nat}(h:Up xs)(hv:xs[i]?=some v):below xs (v+1)=i+1:=by
 have hs:i<xs.size:=by
  rcases Nat.lt_or_ge i xs.size with z | z
  ·exact z
  ·rw[Array.getElem?_eq_none z] at hv;cases hv
 refine below_at h hs (fun k u hk hu=>?_) fun k u hk hu=>h.lt hk hv hu
 rcases Nat.lt_or_ge k i with z | z
 ·exact Xb (h.lt z hu hv)
 ·obtain rfl:k=i:=by lia
  rw[hv] at hu;cases hu;exact Nat.lt_succ_self _
def uT{α:Type}(xs:Array α)(p:Nat)(x:α):(SetTable.insertAt xs p x).toList=xs.toList.take p++x::xs.toList.drop p:=by
 unfold SetTable.insertAt;rw[Array.toList_append,Array.toList_push,Array.toList_extract,Array.toList_extract,List.extract_eq_take_drop,List.extract_eq_take_drop];have e:(xs.toList.drop p).take (xs.size - p)=xs.toList.drop p:=take_of_length_le (by rw[length_drop,WK];lia);rw[e,drop_zero,Nat.sub_zero,append_assoc]
 rfl
def tD{j:Nat}(h:Up xs)(hn:xs[below xs j]?≠some j):Up (SetTable.insertAt xs (below xs j) j):=by
 obtain⟨a,b,c⟩:=pI h;have h0:=h;unfold Up at h0 ⊢;rw[uT];rw[← List.take_append_drop (below xs j) xs.toList] at h0;obtain⟨p1,p2,p3⟩:=pairwise_append.mp h0;have l1:∀ x∈xs.toList.take (below xs j),x<j:=fun x hx=>by
  obtain⟨i,hi,e⟩:=mem_iff_getElem.mp hx;rw[length_take] at hi;rw[List.getElem_take] at e;exact b i x (by lia) (by rw[← Array.getElem?_toList];exact Wt.mpr ⟨by lia,e⟩)
 have l2:∀ x∈xs.toList.drop (below xs j),j<x:=fun x hx=>by
  obtain⟨i,hi,e⟩:=mem_iff_getElem.mp hx;rw[length_drop] at hi;rw[List.getElem_drop] at e;have q:xs[below xs j+i]?=some x:=by rw[← Array.getElem?_toList];exact Wt.mpr ⟨by lia,e⟩
  have:=c _ _ (Nat.le_add_right _ _) q;rcases Nat.lt_or_ge j x with z | z
  ·exact z
  ·exfalso;obtain rfl:x=j:=by lia
   cases i with
   | zero=>exact hn q
   | succ i =>
    have e2:=WD (xs:=xs) (i:=below xs x) (by rw[WK] at hi;lia);have:=h.lt (by lia) e2 q;have:=c _ _ (Wu _) e2;lia
 refine pairwise_append.mpr ⟨p1,pairwise_cons.mpr ⟨l2,p2⟩,fun x hx y hy=>?_⟩;rcases mem_cons.mp hy with rfl | hy
 ·exact l1 x hx
 ·exact p3 x hx y hy
def pO{t:SetTable}{j:Nat}(h:t.slot j=.empty):t.place[below t.place j]?≠some j:=by
 intro e;unfold SetTable.slot at h;dsimp only at h;rw[e] at h;simp at h
def Lp(N:Nat)(f:Nat->Option Nat):Up (((List.range N).filterMap fun j=>(f j).map (j,·)).map (·.1)).toArray:=by
 show List.Pairwise (· < ·) (((List.range N).filterMap fun j=>(f j).map (j,·)).map (·.1));rw[List.map_filterMap,List.pairwise_filterMap];refine List.Pairwise.imp ?_ List.pairwise_lt_range;intro a b hab x hx y hy;cases ha:f a <;> rw[ha] at hx <;> simp at hx
 cases hb:f b <;> rw[hb] at hy <;> simp at hy
 lia
def holes:∀(N:Nat)(l:List Nat),(∀ r,r<N->r∈l)->N<=l.length:=by
 intro N
 induction N with
 | zero=>intro l _;exact Nat.zero_le _
 | succ N ih =>
  intro l h;have h1:=h N (by lia);have:=ih (l.erase N) fun r hr=>(mem_erase_of_ne (by lia)).mpr (h r (by lia))
  rw[List.length_erase_of_mem h1] at this;have:=length_pos_of_mem h1;lia
def hole{N:Nat}{l:List Nat}(h:l.length<N):∃ r,r<N/\r ∉ l:=by
 by_cases z:∃ r,r<N/\r ∉ l
 ·exact z
 ·have:=holes N l fun r hr=>by
   by_cases q:r∈l
   ·exact q
   ·exact absurd ⟨r,hr,q⟩ z
  lia
structure TOk(t:SetTable)(n:Nat):Prop where
 k:∃ k,t.mask+1=2^k
 d:t.dummies = #[]
 sz:t.place.size=n
 room:n<=t.mask
 o:t.mask%2=1
 up:Up t.place
def TOk.empty{t:SetTable}{n:Nat}(h:TOk t n):∃ r,r<=t.mask/\t.slot r=.empty:=by
 obtain⟨r,hr,hn⟩:=hole (N:=t.mask+1) (by rw[WK,h.sz];have:=h.room;lia);refine⟨r,by lia,?_⟩;unfold SetTable.slot;simp only;rw[if_neg,if_neg]
 ·unfold SetTable.has;rw[h.d];simp
 ·intro z;refine hn ?_;have z:=eq_of_beq z;rw[← Array.getElem?_toList] at z;exact W2 z
def TOk.dist(h:TOk t n)(hq:q.more<=9)(hp:q.perturb<2^64):∃ d,d<=10*(t.mask+14)/\BP t q d:=by
 obtain⟨k,hk⟩:=h.k;obtain⟨r,hr,he⟩:=h.empty;obtain⟨d,hd,e⟩:=meets hk hq hp hr;obtain⟨e',h1,h2⟩:=Ju d (by rw[e];exact he);exact⟨e',by lia,h2⟩
def rF(t:SetTable)(h:Int):(t.probeStart h).more<=9/\(t.probeStart h).perturb<2^64/\(t.probeStart h).dummy=none:=by
 refine⟨Ag _ _,?_,rfl⟩;show bits h<2^64;unfold bits;lia
def vals(N:Nat)(owner:Array (Option Nat)):List Nat:=(List.range N).filterMap fun j=>owner.getD j none
def Av{mask:Nat}:∀(n fuel i p:Nat),n<fuel->(owner.getD (fH mask n (i,p)).1 (some 0))=none->∃ j,SetTable.layClean.free mask owner fuel i p=some j/\owner.getD j (some 0)=none:=by
 intro n
 induction n with
 | zero =>
  intro fuel i p hf he;obtain⟨fuel,rfl⟩:∃ f,fuel=f+1:=⟨fuel - 1,by lia⟩
  unfold SetTable.layClean.free;cases hq:(List.range (runEnd mask i+1 - i)).find? fun k=>(owner.getD (i+k) (some 0)).isNone with
  | some k =>
   refine⟨i+k,rfl,?_⟩;have:=find?_some hq
   simpa using this
  | none =>
   exfalso;have h0:=find?_eq_none.mp hq 0 (mem_range.mpr (by unfold runEnd;split <;> lia));have he:owner.getD i (some 0)=none:=he;refine h0 ?_;rw[Nat.add_zero,he]
   rfl
 | succ n ih =>
  intro fuel i p hf he;obtain⟨fuel,rfl⟩:∃ f,fuel=f+1:=⟨fuel - 1,by lia⟩
  unfold SetTable.layClean.free;cases hq:(List.range (runEnd mask i+1 - i)).find? fun k=>(owner.getD (i+k) (some 0)).isNone with
  | some k =>
   refine⟨i+k,rfl,?_⟩;have:=find?_some hq
   simpa using this
  | none=>exact ih fuel _ _ (by lia) he
def FN(hs:owner.size=N)(hj:owner.getD j (some 0)=none):(vals N (owner.setIfInBounds j (some m))).Perm (m::vals N owner):=by
 have hlt:j<N:=by
  rw[← hs];rcases Nat.lt_or_ge j owner.size with h | h
  ·exact h
  ·rw[Array.getD_eq_getD_getElem?,Array.getElem?_eq_none h] at hj;cases hj
 have hjn:owner.getD j none=none:=by
  rw[Array.getD_eq_getD_getElem?,WD (by lia)] at hj ⊢;exact hj
 have hat:(owner.setIfInBounds j (some m)).getD j none=some m:=by
  rw[Array.getD_eq_getD_getElem?,Array.getElem?_setIfInBounds,if_pos rfl,if_pos (by lia)]
  rfl
 have hne:∀ i,i≠j->(owner.setIfInBounds j (some m)).getD i none=owner.getD i none:=fun i hi=>by
  rw[Array.getD_eq_getD_getElem?,Array.getD_eq_getD_getElem?,Array.getElem?_setIfInBounds,if_neg (by lia)]
 obtain⟨r,rfl⟩:∃ r,N=j+(r+1):=⟨N - j - 1,by lia⟩
 have fc:∀ {f g:Nat->Option Nat}{l:List Nat},(∀ x∈l,f x=g x)->l.filterMap f=l.filterMap g:=fun {f g l} h=>by
  induction l with
  | nil=>rfl
  | cons x l ih=>rw[filterMap_cons,filterMap_cons,h x WQ,ih fun y hy=>h y (WR _ hy)]
 have e:List.range (j+(r+1))=List.range j++j::(List.range r).map fun x=>j+(x+1):=by
  rw[List.range_add,List.range_succ_eq_map,map_cons,map_map]
  rfl
 unfold vals;rw[e,List.filterMap_append,List.filterMap_append,filterMap_cons,filterMap_cons,hat,hjn];rw[fc fun x hx=>hne x (by have:=mem_range.mp hx;lia)];rw[fc (g:=fun i=>owner.getD i none) (l:=(List.range r).map fun x=>j+(x+1)) fun x hx=>by
  obtain⟨y,_,rfl⟩:=mem_map.mp hx;exact hne _ (by lia)]
 exact perm_middle
def Gi(N:Nat):vals N (Array.replicate N none)=[]:=by
 unfold vals;rw[List.filterMap_eq_nil_iff];intro j hj;rw[Array.getD_eq_getD_getElem?,Array.getElem?_replicate];split <;> rfl
def zT{mask:Nat}(hs:owner.size=mask+1)(h:(vals (mask+1) owner).length<=mask):∃ r,r<=mask/\owner.getD r (some 0)=none:=by
 by_cases z:∃ r,r<=mask/\owner.getD r (some 0)=none
 ·exact z
 ·exfalso;have:(vals (mask+1) owner).length=mask+1:=by
   unfold vals;have:∀ l:List Nat,(∀ x∈l,x<=mask)->(l.filterMap fun j=>owner.getD j none).length=l.length:=fun l hl=>by
    induction l with
    | nil=>rfl
    | cons x l ih =>
     have hx:=hl x WQ;have hv:∃ v,owner.getD x none=some v:=by
      rw[Array.getD_eq_getD_getElem?,WD (by lia)];cases q:owner[x] with
      | none=>exact absurd ⟨x,hx,by rw[Array.getD_eq_getD_getElem?,WD (by lia),q];rfl⟩ z
      | some v=>exact⟨v,rfl⟩
     obtain⟨v,hv⟩:=hv;rw[filterMap_cons,hv];show(l.filterMap _).length+1=l.length+1;rw[ih fun y hy=>hl y (WR _ hy)]
   rw[this _ fun x hx=>by have:=mem_range.mp hx;lia,length_range]
  lia
def GX{mask k:Nat}(hm:mask+1=2^k):∀(hs:List Int)(owner:Array (Option Nat))(m:Nat),owner.size=mask+1->(vals (mask+1) owner).Perm (List.range m)->m+hs.length<=mask ->
  ∃ owner':Array (Option Nat),(hs.foldl (fun(acc:Option (Array (Option Nat) × Nat)) h=>do
   let (owner,k) ← acc
   let j ← SetTable.layClean.free mask owner (turns mask) (bits h%(mask+1)) (bits h)
   pure (owner.setIfInBounds j (some k),k+1)) (some (owner,m)))=some (owner',m+hs.length)/\owner'.size=mask+1/\(vals (mask+1) owner').Perm (List.range (m+hs.length)):=by
 intro hs
 induction hs with
 | nil=>intro owner m h1 h2 _;exact⟨owner,rfl,h1,h2⟩
 | cons h hs ih =>
  intro owner m h1 h2 h3;rw[length_cons] at h3;obtain⟨r,hr,he⟩:=zT h1 (by rw[h2.length_eq,length_range];lia);have hb:bits h<2^64:=(rF (SetTable.fresh 0 0 true) h).2.1;obtain⟨n,_,hn,e⟩:=tQ hm hb hr;obtain⟨j,hj1,hj2⟩:=Av n (turns mask) (bits h%(mask+1)) (bits h) (by unfold turns;lia) (by rw[e];exact he);have hp:(vals (mask+1) (owner.setIfInBounds j (some m))).Perm (List.range (m+1)):=by
   refine(FN h1 hj2).trans ?_;rw[List.range_succ];exact(h2.cons m).trans (List.perm_append_singleton m (List.range m)).symm
  obtain⟨o',q1,q2,q3⟩:=ih (owner.setIfInBounds j (some m)) (m+1) (by rw[Array.size_setIfInBounds];exact h1) hp (by lia);refine⟨o',?_,q2,?_⟩
  ·rw[List.foldl_cons,length_cons,show m+(hs.length+1)=m+1+hs.length by lia,← q1];congr 1;show(SetTable.layClean.free mask owner (turns mask) (bits h%(mask+1)) (bits h)).bind _=_;rw[hj1]
   rfl
  ·rw[length_cons,show m+(hs.length+1)=m+1+hs.length by lia];exact q3
def Jx{mask k finger moves:Nat}{led plain:Bool}(hm:mask+1=2^k)(ho:mask%2=1)(hn:hashes.size<=mask):∃(t:SetTable)(order:Array Nat),SetTable.laid mask finger moves led plain hashes=some (t,order)/\TOk t hashes.size/\order.toList.Perm (List.range hashes.size)/\t.mask=mask/\t.plain=plain/\t.led=led:=by
 obtain⟨o',h1,h2,h3⟩:=GX hm hashes.toList (Array.replicate (mask+1) none) 0 (Array.size_replicate ..) (by rw[Gi];exact List.Perm.refl _) (by rw[WK];lia);rw[Nat.zero_add,WK] at h1 h3;have hl:SetTable.layClean mask hashes=some o':=by
  unfold SetTable.layClean;rw[← Array.foldl_toList,h1]
  rfl
 have hv:(((List.range (mask+1)).filterMap fun j=>(o'.getD j none).map (j,·)).map (·.2))=vals (mask+1) o':=by
  unfold vals;rw[List.map_filterMap];congr 1
  funext j
  cases o'.getD j none <;> rfl
 have hlen:((List.range (mask+1)).filterMap fun j=>(o'.getD j none).map (j,·)).length=hashes.size:=by
  have:=congrArg List.length hv;rw[Xa] at this;rw[this,h3.length_eq,length_range]
 refine⟨_,_,by unfold SetTable.laid;rw[hl];rfl,⟨⟨k,hm⟩,rfl,?_,hn,ho,Lp _ _⟩,?_,rfl,rfl,rfl⟩
 ·show(((List.range (mask+1)).filterMap fun j=>(o'.getD j none).map (j,·)).map (·.1)).toArray.size=_;rw[Xd,Xa,hlen]
 ·show(((List.range (mask+1)).filterMap fun j=>(o'.getD j none).map (j,·)).map (·.2)).toArray.toList.Perm _;rw[List.toList_toArray,hv];exact h3
def Lh:∀(fuel a n:Nat),∃ k,SetTable.sizeAbove.go n fuel (2^a)=2^k/\a<=k/\(n<2^(a+fuel)->n<2^k)/\(k=a\/2^k<=2*n):=by
 intro fuel
 induction fuel with
 | zero=>intro a n;exact⟨a,rfl,Wu _,fun h=>h,.inl rfl⟩
 | succ fuel ih =>
  intro a n;unfold SetTable.sizeAbove.go;by_cases h:2^a<=n
  ·rw[if_pos h,show 2^a*2=2^(a+1) from(Nat.pow_succ ..).symm];obtain⟨k,e,h1,h2,h3⟩:=ih (a+1) n;refine⟨k,e,by lia,fun z=>h2 (by rw[show a+1+fuel=a+(fuel+1) by lia];exact z),?_⟩;rcases h3 with h3 | h3
   ·refine .inr ?_;rw[h3,Nat.pow_succ];lia
   ·exact .inr h3
  ·rw[if_neg h];exact⟨a,rfl,Wu _,fun _=>by lia,.inl rfl⟩
def j8(h:n<2^60):∃ k,SetTable.sizeAbove n=2^k/\3<=k/\n<2^k/\(2^k=8\/2^k<=2*n):=by
 obtain⟨k,e,h1,h2,h3⟩:=Lh 64 3 n;refine⟨k,e,h1,h2 (Nat.lt_trans h (by decide)),?_⟩;rcases h3 with rfl | h3
 ·exact .inl rfl
 ·exact .inr h3
def tO{t:SetTable}{hashes:Array Int}{wanted:Nat}(hw:wanted<2^60)(hn:hashes.size<=wanted)(h0:1<=wanted):∃(t':SetTable)(order:Array Nat),t.relaid hashes wanted=some (t',order)/\TOk t' hashes.size/\order.toList.Perm (List.range hashes.size)/\t'.plain=t.plain/\t'.led=t.led/\(t'.mask<=7\/t'.mask+1<=2*wanted)/\wanted<=t'.mask:=by
 obtain⟨k,e,h1,h2,h3⟩:=j8 hw;obtain⟨t',order,q1,q2,q3,q4,q5,q6⟩:=Jx (mask:=2^k - 1) (k:=k) (hashes:=hashes) (by lia) (by obtain⟨r,rfl⟩:∃ r,k=r+1:=⟨k - 1,by lia⟩;rw[Nat.pow_succ] at h2 ⊢;lia) (by lia);refine⟨t',order,by unfold SetTable.relaid;rw[e];exact q1,q2,q3,q5,q6,by rw[q4];lia,by rw[q4];lia⟩
section
variable {prog:Program}{w:World}{A:Around}{E:Value->Shared->Prop}{s:Shared}
def Cu(t:SetTable):∀(d:Nat)(q:Probe),(adv t d q).dummy=q.dummy:=by
 intro d
 induction d with
 | zero=>intro q;rfl
 | succ d ih =>
  intro q;show(adv t d (t.advance q)).dummy=_;rw[ih];unfold SetTable.advance;split <;> rfl
theorem BP.shift:∀ {e d:Nat},BP t q d->e<=d->BP t (adv t e q) (d - e)
 | 0,_,h,_=>h
 | e+1,d,h,he=>by
  obtain⟨d,rfl⟩:∃ d',d=d' + 1:=⟨d - 1,by lia⟩
  rw[show d+1 - (e+1)=d - e by lia];exact BP.shift h.next (by lia)
def CJ{t:SetTable}{j i:Nat}(h:t.slot j=.live i):t.place[i]?=some j:=by
 unfold SetTable.slot at h;simp only at h;split at h
 ·rename_i z;injection h with h;rw[← h];exact eq_of_beq z
 ·split at h <;> cases h
def fQ{α β:Type}{f:α->β}{xs ds:List β}(h:xs.Perm ds):∀ {l:List α},l.map f=xs->∃ ss:List α,ss.Perm l/\ds=ss.map f:=by
 induction h with
 | nil=>intro l e;exact⟨[],by rw[List.map_eq_nil_iff.mp e],rfl⟩
 | cons x _ ih =>
  intro l e;cases l with
  | nil=>cases e
  | cons y l =>
   rw[map_cons] at e;injection e with e1 e2;obtain⟨ss,p,q⟩:=ih e2;exact⟨y::ss,p.cons y,by rw[map_cons,e1,q]⟩
 | swap x y zs =>
  intro l e
  match l,e with
  | a::b::l,e =>
   rw[map_cons,map_cons] at e;injection e with e1 e2;injection e2 with e2 e3;exact⟨b::a::l,List.Perm.swap a b l,by rw[map_cons,map_cons,e1,e2,e3]⟩
 | trans _ _ ih1 ih2 =>
  intro l e;obtain⟨ss,p,q⟩:=ih1 e;obtain⟨ts,p2,q2⟩:=ih2 q.symm;exact⟨ts,p2.trans p,q2⟩
def je{α:Type}(xs:Array α)(p:Nat)(x:α):(SetTable.insertAt xs p x).toList.Perm (x::xs.toList):=by
 unfold SetTable.insertAt;rw[Array.toList_append,Array.toList_push,Array.toList_extract,Array.toList_extract,List.extract_eq_take_drop,List.extract_eq_take_drop];have e:(xs.toList.drop p).take (xs.size - p)=xs.toList.drop p:=take_of_length_le (by rw[length_drop,WK];lia);rw[e,drop_zero,Nat.sub_zero,append_assoc];refine(perm_middle (a:=x)).trans ?_;show(x::(List.take p xs.toList++List.drop p xs.toList)).Perm (x::xs.toList);rw[List.take_append_drop]
def dF{α:Type}(xs:Array α)(p:Nat)(x:α):(SetTable.insertAt xs p x).size=xs.size+1:=by
 have:=(je xs p x).length_eq;rw[WK,length_cons,WK] at this;exact this
end
end ST
namespace SX
open PySem PySem.Spec PyProof.Rows
set_option maxHeartbeats 6400000 in
def qJ{E:Value->Shared->Prop}(a:Value){Q₁:Value->Shared->Prop}
  (h:Q₁ (.ref s.heap.objs.size) { s with heap:=s.heap.push { cls:=.type "set",dict:=none,data:=.set #[] 0 (.fresh 0 0 (!w.params.followText "set-order")) } }) :
  codeAny (model prog w) A (.call (.builtin "set.__new__") ⟨[.type "set",a],[]⟩) (wants Q₁ E) s:=by
 refine codeAny_of_tree ?_;show wpAny _ A.in1 (do checkBuiltinCall "set.__new__" ⟨[.type "set",a],[]⟩;again (.builtin "set.__new__" ⟨[.type "set",a],[]⟩)) _ _ s;refine Wo (wpAny_of_eq (F.newCall_set_1 a) (Wq ⟨plainId_quiet F.plain_set_new _,codeAny_builtin F.entry_set_new ?_⟩));rw[Around.under_plainId F.plain_set_new _];unfold Builtin.«set.__new__» Builtin.Frozenset.newClass;have hsub:=sub_set_self;obtain⟨hp,g,d,tk,os⟩:=s;dsimp only
 wp_walk
 refine wpAny_askSetting (Wq ?_);dsimp only;simp only[newObj];refine Wo (wpAny_alloc (Wq ?_));exact Wq h
end SX
namespace SA
open PySem PySem.Spec PyProof.Rows
def iH{α:Type}{l:List α}(h:i<l.length):(l[i]::l.eraseIdx i).Perm l:=by
 have e:l=l.take i++l[i]::l.drop (i+1):=by
  rw[List.getElem_cons_drop,List.take_append_drop]
 rw[List.eraseIdx_eq_take_drop_succ];exact(perm_middle.symm).trans (by rw[← e])
theorem Bc{α:Type}(next:Nat->Nat):∀(fuel k:Nat)(left:List α)(out:Array α),left.length<=fuel->(pickOrder.go next fuel k left out).toList.Perm (out.toList++left)
 | 0,k,left,out,h=>by
  have e:left=[]:=List.length_eq_zero_iff.mp (by lia);subst e;rw[pickOrder.go,append_nil]
 | fuel+1,k,left,out,h=>by
  rw[pickOrder.go];cases hx:left[next k%left.length]? with
  | none =>
   have e:left=[]:=by
    cases left with
    | nil=>rfl
    | cons a r =>
     have:=List.getElem?_eq_none_iff.mp hx;have:=Nat.mod_lt (next k) (show 0<(a::r).length by simp);lia
   subst e;rw[append_nil]
  | some x =>
   obtain⟨hi,ex⟩:=Wt.mp hx;refine(Bc next fuel (k+1) (left.eraseIdx (next k%left.length)) (out.push x) ?_).trans ?_
   ·rw[List.length_eraseIdx_of_lt hi];lia
   ·rw[Array.toList_push,append_assoc];refine List.Perm.append_left _ ?_;rw[← ex];exact iH hi
def Bm{α:Type}(next:Nat->Nat)(xs:Array α):(pickOrder next xs).toList.Perm xs.toList:=by
 have:=Bc next xs.size 0 xs.toList #[] (by simp)
 simpa [pickOrder] using this
end SA
namespace SI
open PySem PySem.Spec PyProof.Rows PySem.SetTable
def aJ:Slot "set_iterator" "__next__" "set_iterator.__next__" :=
 .of (owner:="set_iterator") (n:="__next__") (by rw[typeLookup_type,builtinLookup_eq_fast];kernel_rfl) (by decide +kernel) (by decide +kernel) (by decide +kernel)
  (by first | exact .inl (by decide +kernel) | exact .inr (by decide +kernel)) (by rw[isSubtype_type];kernel_rfl)
def bM:entryFor table "set_iterator.__next__" = some Builtin.«set_iterator.__next__»:=entryFor_of_tree (by kernel_rfl)
def fL:Manifest.owners.lookup (String.ofList ['r','o','t','a','r','e','t','i','_','t','e','s'].reverse)=some Manifest.sig_set_iterator:=by kernel_rfl
def bK(a:Value):argsOk "set_iterator.__next__" ⟨[a],[]⟩:=by
 unfold argsOk;rw[signature?_of (id:="set_iterator.__next__") (n:=['_','_','t','x','e','n','_','_']) (o:=['r','o','t','a','r','e','t','i','_','t','e','s']) (by kernel_rfl) fL];kernel_rfl
def iT:entryFor table "set.__iter__" = some Builtin.«frozenset.__iter__»:=entryFor_alias (id':="frozenset.__iter__") (by kernel_rfl) rfl (by decide +kernel) (by kernel_rfl)
def itO(slot i:Nat)(S:Addr)(n ep:Nat):Obj:={ cls:=.type "set_iterator",data:=.fields #[.int slot 0,.int i 0,.ref S,.int n 0,.int ep 0] }
section
variable {prog:Program}{w:World}{A:Around}{E:Value->Shared->Prop}{s:Shared}{I S:Addr}{o:Obj}{es:Array (Int × Value)}{ep slot i:Nat}{t:SetTable}
def byT(w:World):Bool:=w.params.followText "set-order"
def ord(w:World)(S:Addr)(es:Array (Int × Value))(ep:Nat):Array (Int × Value):=if byT w=true then pickOrder (w.params.setOrder S ep) es else es
end
def bV:Slot "set_iterator" "__iter__" "set_iterator.__iter__" :=
 .of (owner:="set_iterator") (n:="__iter__") (by rw[typeLookup_type,builtinLookup_eq_fast];kernel_rfl) (by decide +kernel) (by decide +kernel) (by decide +kernel)
  (by first | exact .inl (by decide +kernel) | exact .inr (by decide +kernel)) (by rw[isSubtype_type];kernel_rfl)
def cY:entryFor table "set_iterator.__iter__" = some Builtin.«dict_keyiterator.__iter__»:=entryFor_alias (id':="dict_keyiterator.__iter__") (by kernel_rfl) rfl (by decide +kernel) (by kernel_rfl)
def cR(a:Value):argsOk "set_iterator.__iter__" ⟨[a],[]⟩:=by
 unfold argsOk;rw[signature?_of (id:="set_iterator.__iter__") (n:=['_','_','r','e','t','i','_','_']) (o:=['r','o','t','a','r','e','t','i','_','t','e','s']) (by kernel_rfl) fL];kernel_rfl
def zq:typeLookup (.type "set") "__len__" = pure (some (.builtin "set.__len__")):=by rw[typeLookup_type,builtinLookup_eq_fast];kernel_rfl
section
variable {prog:Program}{w:World}{A:Around}{E:Value->Shared->Prop}{s:Shared}{I S:Addr}{o:Obj}{es:Array (Int × Value)}{ep slot i:Nat}{t:SetTable}
def rJ:(ord w S es ep).toList.Perm es.toList:=by
 unfold ord;split
 ·exact SA.Bm _ _
 ·exact List.Perm.refl _
def qG:(ord w S es ep).size=es.size:=by
 have:=(rJ (w:=w) (S:=S) (es:=es) (ep:=ep)).length_eq;rw[WK,WK] at this;exact this
def StS(w:World)(I S:Addr)(o:Obj)(es:Array (Int × Value))(ep:Nat)(t:SetTable)(i:Nat)(s:Shared):Prop :=
 ∃ slot,s.heap.get? I=some (itO slot i S es.size ep)/\s.heap.get? S=some o/\(byT w=false->below t.place slot=i)
def hint{Q:Bool->Shared->Prop}(hT:s.TypeIs (.ref S) "set")(h:Q false s):wpAny (model prog w) A (Builtin.List.listLengthHint (.ref S)) Q E s:=by
 unfold Builtin.List.listLengthHint;refine Wo (wpAny_specialOf hT zq ?_);generalize hid:("set.__len__" : String)=id0
 wp_delta
 rw[show splitId id0=some ("set","__len__") from by subst hid;decide +kernel];subst hid;refine Wo (wpAny_isInstance (T:="set") (b:=true) hT (by rw[isSubtype_type];kernel_rfl) ?_);refine wpAny_ite_split (fun hab=>absurd hab (by decide)) (fun _=>?_);refine wpAny_ite_split (fun _=>?_) (fun hab=>absurd (by decide +kernel) hab);refine Wo (wpAny_typeOf hT ?_);exact Wq h
def Az{Q:Value->Shared->Prop}(ho:s.heap.get? S=some o)(hc:o.cls=.type "set")(hd:o.data=.set es ep t)(hf:t.fits es.size=true)(hpl:byT w=true\/t.plain=true\/es.size<=1)
  (q:Q (.ref s.heap.objs.size) { s with heap:=s.heap.push (itO 0 0 S es.size ep) }):wpAny (model prog w) A (pyIter (.ref S)) Q E s:=by
 have ty:s.TypeIs (.ref S) "set":=⟨o,ho,hc⟩
 refine wpAny_pyIter_slot ty PySem.F.slot_set_iter (W6 PySem.F.slot_set_iter ty iT ?_ (PySem.F.args_set_iter_1 _));unfold Builtin.«frozenset.__iter__» Builtin.Frozenset.slot0;refine Wo (Wo (Wq (Wq ?_)));unfold Builtin.Frozenset.sizeOf;refine Wo (Wo (wpAny_setEntries_of ho hd hf (Wq ?_)));unfold setDrawn setsByText;refine Wo (Wo (wpAny_setState_of ho hd hf (Wo (Wo (wpAny_askSetting (Wq (Wq ?_)))))));refine wpAny_ite_split (fun hb=>absurd (show((!byT w) && (!t.plain && decide (es.size>1)))=true from hb) (by rcases hpl with z | z | z <;> simp[z];try lia)) fun _=>Wo (Wq ?_)
 unfold setEpoch;refine Wo (Wo (wpAny_setState_of ho hd hf (Wq ?_)));unfold newFields;refine Wo (Xe (Wq ⟨_,rfl,"set_iterator",_,⟨_,Wy _ rfl,rfl⟩,aJ.lookup,?_⟩) (by simp[sizeOk,sizeLine_eq]));exact q
def pL{Q:Option (Value × Nat)->Shared->Prop}(ho:s.heap.get? S=some o)(hd:o.data=.set es ep t)(hf:t.fits es.size=true)(hsz:t.place.size=es.size)(hup:ST.Up t.place)(hpl:byT w=true\/t.plain=true\/es.size<=1)
  (hbl:byT w=false->t.led=true/\below t.place slot=i)
  (q1:∀ e slot',(ord w S es ep)[i]?=some e->(byT w=false->below t.place slot'=i+1)->Q (some (e.2,slot')) s)
  (q2:(ord w S es ep)[i]?=none->Q none s):wpAny (model prog w) A (setNext S slot i ep) Q E s:=by
 unfold setNext setsByText;refine Wo (wpAny_setState_of ho hd hf (Wo (Wo (wpAny_askSetting (Wq ?_)))));refine wpAny_ite_split (fun hb=>?_) fun hb=>?_
 ·have hb:byT w=true:=hb;rw[if_neg (by simp)];refine Wo ?_;unfold setWalk setsByText;refine Wo (wpAny_setState_of ho hd hf (Wo (Wo (wpAny_askSetting (Wq ?_)))));refine wpAny_ite_split (fun _=>?_) fun hn=>absurd hb hn
  refine Wo (wpAny_askSetting (Wq (Wq ?_)));have e:ord w S es ep=pickOrder (w.params.setOrder S ep) es:=by unfold ord;rw[if_pos hb]
  show Q (Option.map (fun e=>(e.2,slot)) (pickOrder (w.params.setOrder S ep) es)[i]?) s;rw[← e];cases hx:(ord w S es ep)[i]? with
  | none=>exact q2 hx
  | some x=>exact q1 x slot hx fun z=>absurd (hb.symm.trans z) (by decide)
 ·have hb:byT w=false:=by
   cases z:byT w with
   | false=>rfl
   | true=>exact absurd z hb
  have hbf:=hb;obtain⟨hl,hbl⟩:=hbl hb;refine wpAny_ite_split (fun hb=>absurd (show(!t.plain && decide (es.size>1))=true from hb) (by rcases hpl with z | z | z;(exact absurd (z.symm.trans hbf) (by decide));(simp[z]);(simp;intro _;lia))) fun _=>?_
  refine Wo ?_;show wpAny _ _ (if (!t.led && !es.isEmpty)=true then _ else _) _ _ _;rw[if_neg (by rw[hl];simp)];refine Wq ?_;dsimp only;rw[hbl];have e:ord w S es ep=es:=by unfold ord;rw[if_neg (by rw[hb];decide)]
  rw[e] at q1 q2;cases hx:es[i]? with
  | none=>exact Wq (q2 hx)
  | some x =>
   have hi:i<es.size:=(Array.getElem?_eq_some_iff.mp hx).1;have hp:t.place[i]?=some (t.place[i]'(by lia)):=WD (by lia);rw[hp];exact Wq (q1 x _ hx fun _=>ST.yV hup hp)
def CZ{Q:Option Value->Shared->Prop}(ti:s.heap.get? I=some (itO slot i S es.size ep))(ho:s.heap.get? S=some o)(hd:o.data=.set es ep t)(hf:t.fits es.size=true)(hsz:t.place.size=es.size)(hup:ST.Up t.place)(hpl:byT w=true\/t.plain=true\/es.size<=1)
  (hbl:byT w=false->t.led=true/\below t.place slot=i)(hi:(ord w S es ep)[i]?≠none)
  (q:∀ g e slot',(ord w S es ep)[i]?=some e->g.get? I=some (itO slot' (i+1) S es.size ep)->Heap.SameBut I s.heap g->(byT w=false->below t.place slot'=i+1)->Q (some e.2) { s with heap:=g }):wpAny (model prog w) A (pyNext (.ref I)) Q E s:=by
 have ty:s.TypeIs (.ref I) "set_iterator":=⟨_,ti,rfl⟩
 unfold pyNext;refine Wo (wpAny_attempt (wpAny_callSpecial?_slot (name:=Str.ofString "__next__") ty aJ (W6 aJ ty bM ?_ (bK _))));unfold Builtin.«set_iterator.__next__»;refine Wo (Wq (Wo (wpAny_fieldsOf ti rfl ?_)));refine Wo (wpAny_setEntries_of ho hd hf ?_);rw[if_neg (by simp)];dsimp only;rw[Int.toNat_natCast,Int.toNat_natCast,Int.toNat_natCast];refine Wo (pL ho hd hf hsz hup hpl hbl (fun e slot' he hs=>?_) fun z=>absurd z hi);refine Wo (wpAny_setField_rec ti (by simp) fun g1 f1 b1=>?_);refine Wo (wpAny_setField_rec f1 (by simp) fun g2 f2 b2=>?_);replace f2:g2.get? I=some (itO slot' (i+1) S es.size ep):=by
  have z:((i+1:Nat):Int)=(i:Int)+1:=by lia
  unfold itO;rw[z];simpa [rawInt] using f2
 exact Wq ⟨_,rfl,Wq (q g2 e slot' he f2 (b1.trans b2) hs)⟩
def G4{Q:Option Value->Shared->Prop}(hh:A.handled=none)(ti:s.heap.get? I=some (itO slot i S es.size ep))(ho:s.heap.get? S=some o)(hd:o.data=.set es ep t)(hf:t.fits es.size=true)(hsz:t.place.size=es.size)(hup:ST.Up t.place)(hpl:byT w=true\/t.plain=true\/es.size<=1)
  (hbl:byT w=false->t.led=true/\below t.place slot=i)(hi:(ord w S es ep)[i]?=none)
  (q:∀ g,Heap.ExtBut I s.heap g->Q none { s with heap:=g }):wpAny (model prog w) A (pyNext (.ref I)) Q E s:=by
 have ty:s.TypeIs (.ref I) "set_iterator":=⟨_,ti,rfl⟩
 unfold pyNext;refine Wo (wpAny_attempt (wpAny_callSpecial?_slot (name:=Str.ofString "__next__") ty aJ (W6 aJ ty bM ?_ (bK _))));unfold Builtin.«set_iterator.__next__»;refine Wo (Wq (Wo (wpAny_fieldsOf ti rfl ?_)));refine Wo (wpAny_setEntries_of ho hd hf ?_);rw[if_neg (by simp)];dsimp only;rw[Int.toNat_natCast,Int.toNat_natCast,Int.toNat_natCast];refine Wo (pL ho hd hf hsz hup hpl hbl (fun e slot' he hs=>absurd (he.symm.trans hi) (by simp)) fun _=>?_);refine Wo (wpAny_setField ti rfl (by simp) ?_);refine Wo ?_;simp only[newExc,newTuple];refine Wo (Xe ?_ (by size_fits));refine Wo (m:=firstArgMember _ _) (wpAny_of_eq (a:=Value.none) (by first | rfl | (simp only[firstArgMember];rfl)) ?_);refine Xe ?_ (by size_fits);simp only[raiseNew];refine Wo (wpAny_handled ?_);rw[show A.in1.handled=none from hh];refine Wo (Wq (wpAny_throw ?_));refine Wo (wpAny_isInstance (T:="StopIteration") (b:=true) ⟨_,Wy _ rfl,rfl⟩ isSubtype_stop ?_);exact Wq (q _ (((Heap.SameBut.update ..).extBut.push _).push _))
def M9(hh:A.handled=none)(hIS:S≠I)(hd:o.data=.set es ep t)(hf:t.fits es.size=true)(hsz:t.place.size=es.size)(hup:ST.Up t.place)(hpl:byT w=true\/t.plain=true\/es.size<=1)(hld:byT w=false->t.led=true) :
  WalksS prog w A I [I,S] [I] (fun a b=>b=a) es.size (fun i v=>∃ e,(ord w S es ep)[i]?=some e/\v=e.2) (StS w I S o es ep t) where
 sub:=fun b hb=>by
  rcases mem_singleton.mp hb with rfl;exact WQ
 grefl:=fun _=>rfl
 gtrans:=fun _ _ _ h1 h2=>h2.trans h1
 frame:=fun i s h' tk ⟨slot,h1,h2,h3⟩ _ hk=>⟨slot,hk I WQ _ h1,hk S (WR _ WQ) _ h2,h3⟩
 item:=fun i s Q E hi ⟨slot,h1,h2,h3⟩ hQ=>by
  refine CZ h1 h2 hd hf hsz hup hpl (fun z=>⟨hld z,h3 z⟩) ?_ fun g e slot' he hg hs hb=>?_
  ·rw[WD (by rw[qG];exact hi)];exact fun z=>nomatch z
  ·refine hQ _ _ ⟨e,he,rfl⟩ ⟨slot',hg,hs.extBut S o hIS h2,hb⟩ ⟨fun b u hb e=>hs.extBut b u (fun z=>hb (by rw[z];exact WQ)) e,rfl,rfl,rfl,Wu _⟩
 done:=fun s Q E ⟨slot,h1,h2,h3⟩ hQ=>by
  refine G4 hh h1 h2 hd hf hsz hup hpl (fun z=>⟨hld z,h3 z⟩) (Array.getElem?_eq_none (by rw[qG];exact Wu _)) fun g hg=>?_
  exact hQ _ ⟨fun b u hb e=>hg b u (fun z=>hb (by rw[z];exact WQ)) e,rfl,rfl,rfl,Wu _⟩
 self:=fun i s Q E ⟨slot,h1,_⟩ hQ=>by
  have hT:s.TypeIs (.ref I) "set_iterator":=⟨_,h1,rfl⟩
  refine wpAny_pyIter_slot hT bV (W6 bV hT cY ?_ (cR _));exact Wq ⟨_,rfl,"set_iterator",_,hT,aJ.lookup,hQ⟩
def pF{Q:List Value->Shared->Prop}{Gd:Drawn->List Value->Prop}(ho:s.heap.get? S=some o)(hc:o.cls=.type "set")(hn:n<=sizeLine)
  (hit:∀(s1:Shared)(l:Addr) {E1:Value->Shared->Prop} (Q1:Value->Shared->Prop),s1.heap.get? S=some o->s1.drawn=s.drawn->l≠S->l<s1.heap.objs.size ->
   (∀(I:Addr)(g:Heap)(dr:Drawn)(fp:List Addr)(P:Nat->Value->Prop)(St:Nat->Shared->Prop),WalksS prog w A.in1 I fp [I] (fun a b=>b=a) n P St->l ∉ fp->s1.heap.objs.size<=I->(∀ b u,s1.heap.get? b=some u->g.get? b=some u)->St 0 { s1 with heap:=g,drawn:=dr }->(∀ acc,ItemsOf P acc n->Gd dr acc.toList)->Q1 (.ref I) { s1 with heap:=g,drawn:=dr })->wpAny (model prog w) A.in1 (pyIter (.ref S)) Q1 E1 s1)
  (h:∀(g:Heap)(tk:Nat)(dr:Drawn)(vs:List Value),Gd dr vs->(∀ b u,s.heap.get? b=some u->g.get? b=some u)->Q vs { s with heap:=g,toks:=tk,drawn:=dr }):wpAny (model prog w) A (collect (.ref S)) Q E s:=by
 have hSs:S<s.heap.objs.size:=Ww ho;unfold collect;refine Wo (wpAny_runValue (codeAny_builtin PySem.F.entry_proto_collect ?_));rw[Around.under_plainId PySem.F.plain_proto_collect _];refine Wo (Xe ?_);refine Wq ⟨plainId_quiet PySem.F.plain_list_iadd _,codeAny_builtin PySem.F.entry_list_iadd ?_⟩;rw[Around.under_plainId PySem.F.plain_list_iadd _];show wpAny _ A.in1 (Builtin.List.listExtendWith (.ref s.heap.objs.size) (.ref S) (.ref s.heap.objs.size)) _ _ _;have hS₁:(s.heap.push { cls:=.type "list",data:=.seq ([]:List Value).toArray }).get? s.heap.objs.size=some { cls:=.type "list",data:=.seq ([]:List Value).toArray }:=Wy _ rfl;have ho₁:(s.heap.push { cls:=.type "list",data:=.seq ([]:List Value).toArray }).get? S=some o:=Ws _ ho;have keep₁:∀ b u,s.heap.get? b=some u->(s.heap.push { cls:=.type "list",data:=.seq ([]:List Value).toArray }).get? b=some u:=fun b u e=>Ws _ e
 have hz₁:(s.heap.push { cls:=.type "list",data:=.seq ([]:List Value).toArray }).objs.size=s.heap.objs.size+1:=Heap.size_push ..;generalize s.heap.push { cls:=.type "list",data:=.seq ([]:List Value).toArray }=h1 at hS₁ ho₁ keep₁ hz₁ ⊢;unfold Builtin.List.listExtendWith;refine Wo (wpAny_typeOf (T:="set") ⟨o,ho₁,hc⟩ ?_);have e1:Builtin.List.listSameRef (.ref s.heap.objs.size) (.ref S)=false:=by simp[Builtin.List.listSameRef];exact Nat.ne_of_gt hSs
 have e2:(Value.type "set" == Value.type "list")=false:=by decide
 have e3:(Value.type "set" == Value.type "tuple")=false:=by decide
 simp only[e1,e2,e3,Bool.or_false,Bool.false_eq_true,if_false];refine Wo (hit _ s.heap.objs.size _ ho₁ rfl (Nat.ne_of_gt hSs) (by show _<h1.objs.size;lia) fun I g2 dr fp P St W hlf hI kp hst hG=>?_);have hS₂:=kp _ _ hS₁;have ho₂:=kp _ _ ho₁;have keep₂:∀ b u,s.heap.get? b=some u->g2.get? b=some u:=fun b u e=>kp b u (keep₁ b u e)
 replace hI:h1.objs.size<=I:=hI;refine Wo (WW (hint ⟨o,ho₂,hc⟩ ?_));have key:∀(g:Heap)(c₁ tk:Nat),s.toks<=tk->(∀ b u,b≠s.heap.objs.size->g2.get? b=some u->g.get? b=some u)->g.get? s.heap.objs.size=some { cls:=.type "list",data:=.seq #[] c₁ }->codeAny (model prog w) A (.builtin "list.extend.loop" ⟨[.ref s.heap.objs.size,.ref I,.ref s.heap.objs.size],[]⟩) (fun r s'=>∃(g':Heap)(tk':Nat)(acc:Array Value)(c:Nat),r=.ok (.ret (.ref s.heap.objs.size))/\s'={ s with heap:=g',toks:=tk',drawn:=dr }/\(∀ b u,s.heap.get? b=some u->g'.get? b=some u)/\g'.get? s.heap.objs.size=some { cls:=.type "list",data:=.seq acc c }/\Gd dr acc.toList) { s with heap:=g,toks:=tk,drawn:=dr }:=fun g c₁ tk htk hk hS₃=>by
  refine codeAny_extend_loopS W hn s.heap.objs.size hlf _ n 0 _ #[] c₁ rfl (Nat.zero_le _) (W.frame 0 _ g tk hst htk fun b hb u e=>hk b u (fun z=>hlf (by rw[← z];exact hb)) e) hS₃ (ItemsOf.nil _) fun s' acc c' hm hS' hacc=>?_
  obtain⟨g',gg,d',tk',os'⟩:=s';have e1:gg=s.gens:=hm.gens;have e2:d'=dr:=hm.drawn;have e3:os'=s.os:=hm.os;subst e1;subst e2;subst e3;refine⟨g',tk',acc,c',rfl,rfl,fun b u e=>?_,hS',?_⟩
  ·have hb:=Ww e;refine hm.heap b u ?_ (hk b u (Wx hb) (keep₂ b u e));simp only[mem_cons,mem_singleton,not_mem_nil,or_false,not_or];exact⟨Wx hb,Wx (WM hb (by lia))⟩
  ·exact hG acc hacc
 have fin:∀(r:Result)(s':Shared),(∃(g':Heap)(tk':Nat)(acc:Array Value)(c:Nat),r=.ok (.ret (.ref s.heap.objs.size))/\s'={ s with heap:=g',toks:=tk',drawn:=dr }/\(∀ b u,s.heap.get? b=some u->g'.get? b=some u)/\g'.get? s.heap.objs.size=some { cls:=.type "list",data:=.seq acc c }/\Gd dr acc.toList)->∃(g':Heap)(tk':Nat)(acc:Array Value)(c:Nat),r=.ok (.ret (.ref s.heap.objs.size))/\s'={ s with heap:=g',toks:=tk',drawn:=dr }/\g'.get? s.heap.objs.size=some { cls:=.type "list",data:=.seq acc c }/\Q acc.toList { s with heap:=g',toks:=tk',drawn:=dr }:=fun r s' ⟨g',tk',acc,c,a1,a2,a3,a4,a5⟩=>⟨g',tk',acc,c,a1,a2,a4,h g' tk' dr _ a5 a3⟩
 refine wpAny_ite_split (fun _=>?_) (fun _=>Wq ⟨plainId_quiet PySem.F.plain_extend_loop _,codeAny_mono (key _ 0 _ (Wu _) (fun b u _ e=>e) hS₂) fun r s' z=>?_⟩)
 ·refine Wo (wpAny_rule ?_);refine Wo ?_;refine Wo (wpAny_updateSeq hS₂ rfl ?_);have hS₃:=Heap.get?_update_self (Obj.mapSeq (·.push Value.none)) hS₂ rfl;refine wpAny_updateSeq (hz:=by seq_fits) hS₃ rfl ?_;have hS₄:=Heap.get?_update_self (Obj.mapSeq (·.pop)) hS₃ rfl;refine Wq ⟨plainId_quiet PySem.F.plain_extend_loop _,codeAny_mono (key _ _ _ (by first | exact Wu _ | lia) (fun b u hb e=>?_) hS₄) fun r s' z=>?_⟩
  ·exact(Heap.get?_update_other _ _ (Ne.symm hb)).trans ((Heap.get?_update_other _ _ (Ne.symm hb)).trans e)
  ·obtain⟨g',tk',acc,c,rfl,rfl,a4,q⟩:=fin r s' z;show wpAny _ A (load s.heap.objs.size >>= _) _ _ _;exact Wo (wpAny_load a4 (Wq q))
 ·obtain⟨g',tk',acc,c,rfl,rfl,a4,q⟩:=fin r s' z;show wpAny _ A (load s.heap.objs.size >>= _) _ _ _;exact Wo (wpAny_load a4 (Wq q))
def kI{Q:List Value->Shared->Prop}(hh:A.handled=none)(ho:s.heap.get? S=some o)(hc:o.cls=.type "set")(hd:o.data=.set es ep t)(hf:t.fits es.size=true)(hsz:t.place.size=es.size)(hup:ST.Up t.place)(hpl:byT w=true\/t.plain=true\/es.size<=1)(hld:byT w=false->t.led=true)(hn:es.size<=sizeLine)
  (h:∀(g:Heap)(tk:Nat),(∀ b u,s.heap.get? b=some u->g.get? b=some u)->Q ((ord w S es ep).toList.map (·.2)) { s with heap:=g,toks:=tk }):wpAny (model prog w) A (collect (.ref S)) Q E s:=by
 refine pF (Gd:=fun dr vs=>dr=s.drawn/\vs=(ord w S es ep).toList.map (·.2)) ho hc hn (fun s1 l E1 Q1 ho1 hdr hl hls k=>?_) fun g tk dr vs hG hk=>?_
 rotate_left
 ·obtain⟨rfl,rfl⟩:=hG;exact h g tk hk
 have hS1:=Ww ho1;refine Az ho1 hc hd hf hpl (k _ _ s1.drawn _ _ _ (M9 (S:=S) hh (Wx hS1) hd hf hsz hup hpl hld) (by simp only[mem_cons,not_mem_nil,or_false,not_or];exact⟨Wx hls,hl⟩) (Wu _) (fun b u e=>Ws _ e) ⟨0,Wy _ rfl,Ws _ ho1,fun _=>ST.yN hup⟩ fun acc hacc=>⟨hdr,?_⟩);refine ext_getElem? fun j=>?_
 rw[W8,Array.getElem?_toList,Array.getElem?_toList];rcases Nat.lt_or_ge j es.size with hj | hj
 ·obtain⟨e,he,hv⟩:=hacc.2 j _ (WD (by rw[hacc.1];exact hj));rw[he,WD (by rw[hacc.1];exact hj),hv]
  rfl
 ·rw[Array.getElem?_eq_none (by rw[hacc.1];exact hj),Array.getElem?_eq_none (by rw[qG];exact hj)]
  rfl
def zA{Q:Nat->Shared->Prop}(hn:n≠0)(h:∀ x dr,x<n->Q x { s with drawn:=dr }):wpAny (model prog w) A (choose src n) Q E s:=by
 intro Γ p hΓ;unfold choose;rw[Sem.wp_choose];exact⟨hn,h _ _ (Nat.mod_lt _ (by lia))⟩
theorem iH{α:Type}:∀ {xs:List α}{i:Nat}{x:α},xs[i]?=some x->(x::xs.eraseIdx i).Perm xs
 | y::xs,0,x,h=>by cases h;exact List.Perm.refl _
 | y::xs,i+1,x,h=>by
  have:=iH (by simpa using h);exact(List.Perm.swap y x _).trans (this.cons y)
 | [],i,x,h=>by simp at h
theorem yd{α:Type}:∀(k:Nat)(xs:List α)(s:Shared) {Q:List α->Shared->Prop},xs.length=k->(∀ ys dr,ys.Perm xs->Q ys { s with drawn:=dr })->wpAny (model prog w) A (drawOrder k xs) Q E s
 | 0,xs,s,Q,hl,h=>by
  have:=List.eq_nil_of_length_eq_zero hl;subst this;unfold drawOrder;exact Wq (h [] s.drawn (List.Perm.refl _))
 | k+1,[],s,Q,hl,h=>by cases hl
 | k+1,x::xs,s,Q,hl,h=>by
  unfold drawOrder;refine Wo (zA (by simp) fun i dr hi=>?_);have hx:=Wr hi;rw[hx];refine Wo (yd k _ _ (by rw[List.length_eraseIdx_of_lt hi];lia) fun ys dr2 hp=>?_);exact Wq (h _ dr2 ((hp.cons _).trans (iH hx)))
end
def itD(p i:Nat)(S:Addr)(n ep:Nat):Obj:={ cls:=.type "set_iterator",data:=.fields #[.ref p,.int i 0,.ref S,.int n 0,.int ep 0] }
section
variable {prog:Program}{w:World}{A:Around}{E:Value->Shared->Prop}{s:Shared}{I S p:Addr}{o:Obj}{es:Array (Int × Value)}{ep slot i:Nat}{t:SetTable}{pl:List Nat}
def Ce{Q:Value->Shared->Prop}(ho:s.heap.get? S=some o)(hc:o.cls=.type "set")(hd:o.data=.set es ep t)(hf:t.fits es.size=true)(hb:byT w=false)(hpl:t.plain=false)(hsz:1<es.size)(hz:es.size<=sizeLine)
  (q:∀(pl:List Nat) dr,pl.Perm (List.range es.size)->Q (.ref (s.heap.objs.size+1)) { s with heap:=(s.heap.push { cls:=.type "tuple",data:=.seq ((pl.map fun(i:Nat)=>rawInt i).toArray) }).push (itD s.heap.objs.size 0 S es.size ep),drawn:=dr }):wpAny (model prog w) A (pyIter (.ref S)) Q E s:=by
 have ty:s.TypeIs (.ref S) "set":=⟨o,ho,hc⟩
 refine wpAny_pyIter_slot ty PySem.F.slot_set_iter (W6 PySem.F.slot_set_iter ty iT ?_ (PySem.F.args_set_iter_1 _));unfold Builtin.«frozenset.__iter__» Builtin.Frozenset.slot0;refine Wo (Wo (Wq (Wq ?_)));unfold Builtin.Frozenset.sizeOf;refine Wo (Wo (wpAny_setEntries_of ho hd hf (Wq ?_)));unfold setDrawn setsByText;refine Wo (Wo (wpAny_setState_of ho hd hf (Wo (Wo (wpAny_askSetting (Wq (Wq ?_)))))));refine wpAny_ite_split (fun _=>?_) (fun hn=>absurd (show((!byT w) && (!t.plain && decide (es.size>1)))=true by rw[hb,hpl];simp;exact hsz) hn);refine Wo (yd es.size (List.range es.size) _ length_range fun pl dr hp=>Wo ?_);have hpl2:=hp.length_eq;rw[length_range] at hpl2;simp only[newTuple];refine Xe ?_ (by first | (rw[Xd,Xa,hpl2];exact hz) | (show _<=sizeLine;rw[Xd,Xa,hpl2];exact hz));have eo:(s.heap.push { cls:=.type "tuple",data:=.seq ((pl.map fun(i:Nat)=>rawInt i).toArray) }).get? S=some o:=Ws _ ho;unfold setEpoch;refine Wo (Wo (wpAny_setState_of eo hd hf (Wq ?_)));unfold newFields;have esz:(s.heap.push { cls:=.type "tuple",data:=.seq ((pl.map fun(i:Nat)=>rawInt i).toArray) }).objs.size=s.heap.objs.size+1:=Heap.size_push ..;refine Wo (Xe (Wq ⟨_,rfl,"set_iterator",_,⟨_,Wy _ rfl,rfl⟩,aJ.lookup,?_⟩) (by simp[sizeOk,sizeLine_eq]));have:=q pl dr hp;rw[← esz] at this;exact this
def Es{Q:Option Value->Shared->Prop}(ti:s.heap.get? I=some (itD p i S es.size ep))(hop:s.heap.get? p=some op)(hdp:op.data=.seq ((pl.map fun(i:Nat)=>rawInt i).toArray) tk)(ho:s.heap.get? S=some o)(hd:o.data=.set es ep t)(hf:t.fits es.size=true)(hk:pl[i]?=some k)(he:es[k]?=some e)
  (q:∀ g,g.get? I=some (itD p (i+1) S es.size ep)->Heap.SameBut I s.heap g->Q (some e.2) { s with heap:=g }):wpAny (model prog w) A (pyNext (.ref I)) Q E s:=by
 have ty:s.TypeIs (.ref I) "set_iterator":=⟨_,ti,rfl⟩
 unfold pyNext;refine Wo (wpAny_attempt (wpAny_callSpecial?_slot ty aJ (W6 aJ ty bM ?_ (bK _))));unfold Builtin.«set_iterator.__next__»;refine Wo (Wq (Wo (wpAny_fieldsOf ti rfl ?_)));refine Wo (wpAny_setEntries_of ho hd hf ?_);rw[if_neg (by simp)];refine Wo (wpAny_seqItems hop hdp ?_);dsimp only;rw[Int.toNat_natCast];have hk2:((pl.map fun(i:Nat)=>rawInt i).toArray)[i]?=some (rawInt (k:Nat)):=by
  rw[List.getElem?_toArray,W8,hk]
  rfl
 rw[hk2];show wpAny _ _ (setNextDrawn S (((k:Nat):Int)).toNat (((ep:Nat):Int)).toNat >>= _) _ _ _;rw[Int.toNat_natCast,Int.toNat_natCast];unfold setNextDrawn;refine Wo (Wo (wpAny_setState_of ho hd hf ?_));dsimp only;rw[if_neg (by simp),he];refine Wq ?_;refine Wo (wpAny_setField_rec ti (by simp) fun g2 f2 b2=>?_);replace f2:g2.get? I=some (itD p (i+1) S es.size ep):=by
  have z:((i+1:Nat):Int)=(i:Int)+1:=by lia
  unfold itD;rw[z];simpa [rawInt] using f2
 exact Wq ⟨_,rfl,Wq (q g2 f2 b2)⟩
def Hi{Q:Option Value->Shared->Prop}(hh:A.handled=none)(ti:s.heap.get? I=some (itD p i S es.size ep))(hop:s.heap.get? p=some op)(hdp:op.data=.seq ((pl.map fun(i:Nat)=>rawInt i).toArray) tk)(ho:s.heap.get? S=some o)(hd:o.data=.set es ep t)(hf:t.fits es.size=true)(hk:pl[i]?=none)
  (q:∀ g,Heap.ExtBut I s.heap g->Q none { s with heap:=g }):wpAny (model prog w) A (pyNext (.ref I)) Q E s:=by
 have ty:s.TypeIs (.ref I) "set_iterator":=⟨_,ti,rfl⟩
 unfold pyNext;refine Wo (wpAny_attempt (wpAny_callSpecial?_slot ty aJ (W6 aJ ty bM ?_ (bK _))));unfold Builtin.«set_iterator.__next__»;refine Wo (Wq (Wo (wpAny_fieldsOf ti rfl ?_)));refine Wo (wpAny_setEntries_of ho hd hf ?_);rw[if_neg (by simp)];refine Wo (wpAny_seqItems hop hdp ?_);dsimp only;rw[Int.toNat_natCast];have hk2:((pl.map fun(i:Nat)=>rawInt i).toArray)[i]?=none:=by
  rw[List.getElem?_toArray,W8,hk]
  rfl
 rw[hk2];refine Wo (wpAny_setField_rec ti (by simp) fun g2 f2 b2=>?_);refine Wo (wpAny_setField f2 rfl (by simp) ?_);refine Wo ?_;simp only[newExc,newTuple];refine Wo (Xe ?_ (by size_fits));refine Wo (wpAny_of_eq (by first | rfl | (simp only[firstArgMember];rfl)) ?_);refine Xe ?_ (by size_fits);simp only[raiseNew];refine Wo (wpAny_handled ?_);rw[show A.in1.handled=none from hh];refine Wo (Wq (wpAny_throw ?_));refine Wo (wpAny_isInstance ⟨_,Wy _ rfl,rfl⟩ isSubtype_stop ?_);exact Wq (q _ (((b2.trans (Heap.SameBut.update ..)).extBut.push _).push _))
def StD(I S p:Addr)(o op:Obj)(es:Array (Int × Value))(ep:Nat)(i:Nat)(s:Shared):Prop:=s.heap.get? I=some (itD p i S es.size ep)/\s.heap.get? S=some o/\s.heap.get? p=some op
def Nm(hh:A.handled=none)(hIS:S≠I)(hIp:p≠I)(hd:o.data=.set es ep t)(hdp:op.data=.seq ((pl.map fun(i:Nat)=>rawInt i).toArray) tk)(hf:t.fits es.size=true)(hp:pl.Perm (List.range es.size)) :
  WalksS prog w A I [I,S,p] [I] (fun a b=>b=a) es.size (fun i v=>∃ k e,pl[i]?=some k/\es[k]?=some e/\v=e.2) (StD I S p o op es ep) where
 sub:=fun b hb=>by
  rcases mem_singleton.mp hb with rfl;exact WQ
 grefl:=fun _=>rfl
 gtrans:=fun _ _ _ h1 h2=>h2.trans h1
 frame:=fun i s h' tk ⟨h1,h2,h3⟩ _ hk=>⟨hk I WQ _ h1,hk S (WR _ WQ) _ h2,hk p (WR _ (WR _ WQ)) _ h3⟩
 item:=fun i s Q E hi ⟨h1,h2,h3⟩ hQ=>by
  have hl:=hp.length_eq;rw[length_range] at hl;have hk:pl[i]?=some pl[i]:=Wr (by lia);have hkl:pl[i]<es.size:=mem_range.mp (hp.mem_iff.mp (getElem_mem (by lia)));have he:=WD hkl;refine Es h1 h3 hdp h2 hd hf hk he fun g hg hs=>?_
  exact hQ _ _ ⟨_,_,hk,he,rfl⟩ ⟨hg,hs.extBut S o hIS h2,hs.extBut p op hIp h3⟩ ⟨fun b u hb e=>hs.extBut b u (fun z=>hb (by rw[z];exact WQ)) e,rfl,rfl,rfl,Wu _⟩
 done:=fun s Q E ⟨h1,h2,h3⟩ hQ=>by
  have hl:=hp.length_eq;rw[length_range] at hl;refine Hi hh h1 h3 hdp h2 hd hf (List.getElem?_eq_none (by lia)) fun g hg=>?_
  exact hQ _ ⟨fun b u hb e=>hg b u (fun z=>hb (by rw[z];exact WQ)) e,rfl,rfl,rfl,Wu _⟩
 self:=fun i s Q E ⟨h1,_⟩ hQ=>by
  have hT:s.TypeIs (.ref I) "set_iterator":=⟨_,h1,rfl⟩
  refine wpAny_pyIter_slot hT bV (W6 bV hT cY ?_ (cR _));exact Wq ⟨_,rfl,"set_iterator",_,hT,aJ.lookup,hQ⟩
def sH{Q:List Value->Shared->Prop}(hh:A.handled=none)(ho:s.heap.get? S=some o)(hc:o.cls=.type "set")(hd:o.data=.set es ep t)(hf:t.fits es.size=true)(hb0:byT w=false)(hpl:t.plain=false)(hsz1:1<es.size)(hn:es.size<=sizeLine)
  (h:∀(g:Heap)(tk:Nat) dr (vs:List Value),vs.Perm (es.toList.map (·.2))->(∀ b u,s.heap.get? b=some u->g.get? b=some u)->Q vs { s with heap:=g,toks:=tk,drawn:=dr }):wpAny (model prog w) A (collect (.ref S)) Q E s:=by
 refine pF (Gd:=fun _ vs=>vs.Perm (es.toList.map (·.2))) ho hc hn (fun s1 l E1 Q1 ho1 hdr hl hls k=>?_) fun g tk dr vs hG hk=>h g tk dr vs hG hk
 have hS1:=Ww ho1;refine Ce ho1 hc hd hf hb0 hpl hsz1 hn fun pl dr hp=>?_
 have hI₂:((s1.heap.push { cls:=.type "tuple",data:=.seq ((pl.map fun(i:Nat)=>rawInt i).toArray) }).push (itD s1.heap.objs.size 0 S es.size ep)).get? (s1.heap.objs.size+1)=some (itD s1.heap.objs.size 0 S es.size ep):=by
  have:=Wy (s1.heap.push { cls:=.type "tuple",data:=.seq ((pl.map fun(i:Nat)=>rawInt i).toArray) }) (o:=itD s1.heap.objs.size 0 S es.size ep) rfl;rw[Heap.size_push] at this;exact this
 refine k _ _ dr _ _ _ (Nm (S:=S) (p:=s1.heap.objs.size) (op:={ cls:=.type "tuple",data:=.seq ((pl.map fun(i:Nat)=>rawInt i).toArray) }) (tk:=0) hh (Wx (Xb hS1)) (Wx (Nat.lt_succ_self _)) hd rfl hf hp) (by simp only[mem_cons,not_mem_nil,or_false,not_or];exact⟨Wx (Xb hls),hl,Wx hls⟩) (Nat.le_succ _) (fun b u e=>Ws _ (Ws _ e)) ⟨hI₂,Ws _ (Ws _ ho1),Ws _ (Wy _ rfl)⟩ fun acc hacc=>?_
 have hl:=hp.length_eq;rw[length_range] at hl;have e5:acc.toList=pl.map fun k=>((es[k]?).getD (0,Value.none)).2:=by
  refine ext_getElem? fun j=>?_
  rw[W8,Array.getElem?_toList];rcases Nat.lt_or_ge j es.size with hj | hj
  ·obtain⟨k,e,hk,he,hv⟩:=hacc.2 j _ (WD (by rw[hacc.1];exact hj));rw[hk,WD (by rw[hacc.1];exact hj),hv];show some e.2=some ((es[k]?.getD (0,Value.none)).2);rw[he]
   rfl
  ·rw[Array.getElem?_eq_none (by rw[hacc.1];exact hj),List.getElem?_eq_none (by lia)]
   rfl
 rw[e5];refine(hp.map _).trans ?_;have e6:(List.range es.size).map (fun k=>((es[k]?).getD (0,Value.none)).2)=es.toList.map (·.2):=by
  refine ext_getElem? fun j=>?_
  rw[W8,W8];have e7:es.toList[j]?=es[j]?:=Array.getElem?_toList;rw[e7];rcases Nat.lt_or_ge j es.size with hj | hj
  ·rw[List.getElem?_range hj,WD hj];show some ((es[j]?.getD _).2)=_;rw[WD hj]
   rfl
  ·rw[List.getElem?_eq_none (by rw[length_range];exact hj),Array.getElem?_eq_none hj]
   rfl
 rw[e6]
def vB{Q:List Value->Shared->Prop}(hh:A.handled=none)(ho:s.heap.get? S=some o)(hc:o.cls=.type "set")(hd:o.data=.set es ep t)(hf:t.fits es.size=true)(hsz:t.place.size=es.size)(hup:ST.Up t.place)(hld:byT w=false->t.led=true)(hn:es.size<=sizeLine)
  (h:∀(g:Heap)(tk:Nat) dr (vs:List Value),vs.Perm (es.toList.map (·.2))->(∀ b u,s.heap.get? b=some u->g.get? b=some u)->Q vs { s with heap:=g,toks:=tk,drawn:=dr }):wpAny (model prog w) A (collect (.ref S)) Q E s:=by
 by_cases hn1:byT w=true\/t.plain=true\/es.size<=1
 ·exact kI hh ho hc hd hf hsz hup hn1 hld hn fun g tk hk=>h g tk s.drawn _ (rJ.map _) hk
 ·rw[not_or,not_or] at hn1;exact sH hh ho hc hd hf (by simpa using hn1.1) (by simpa using hn1.2.1) (by lia) hn h
end
end SI
namespace L2
open PySem PySem.Spec PyProof.Rows
mutual
def nD(h:Heap):Value->D->Prop
 | v,.int i=>∃ t,v=.int i t
 | v,.str x=>∃ t,v=.str x t
 | v,.tup ds=>∃(p:Addr)(its:List Value),v=.ref p/\h.IsTuple p its.toArray/\fD h its ds
 | _,.non=>False
 | _,.bl _=>False
def fD(h:Heap):List Value->List D->Prop
 | [],[]=>True
 | v::vs,d::ds=>nD h v d/\fD h vs ds
 | _,_=>False
end
mutual
def Pl:D->Prop
 | .int _=>True
 | .str _=>True
 | .tup ds=>PlL ds
 | _=>False
def PlL:List D->Prop
 | []=>True
 | d::ds=>Pl d/\PlL ds
end
mutual
def fJ(w:World):D->Int
 | .int i=>hashInt i
 | .str x=>hashStr w x
 | .tup ds=>reduceHash (Builtin.Tuple.tupleHashOf (iz w ds))
 | _=>0
def iz(w:World):List D->List Int
 | []=>[]
 | d::ds=>fJ w d::iz w ds
end
mutual
def uH:D->Nat
 | .tup ds=>kZ ds+1
 | _=>1
def kZ:List D->Nat
 | []=>0
 | d::ds=>uH d+kZ ds
end
theorem fD.len:∀ {vs:List Value}{ds:List D},fD h vs ds->vs.length=ds.length
 | [],[],_=>rfl
 | _::vs,_::ds,q=>by rw[length_cons,length_cons,fD.len q.2]
 | [],_::_,q=>q.elim
 | _::_,[],q=>q.elim
theorem fD.at_:∀ {vs:List Value}{ds:List D}{i:Nat}{v:Value},fD h vs ds->vs[i]?=some v->∃ d,ds[i]?=some d/\nD h v d
 | [],[],i,v,_,e=>by simp at e
 | _::vs,d::ds,0,v,q,e=>by
  simp at e;subst e;exact⟨d,rfl,q.1⟩
 | _::vs,_::ds,i+1,v,q,e=>fD.at_ (i:=i) q.2 (by simpa using e)
 | [],_::_,_,_,q,_=>q.elim
 | _::_,[],_,_,q,_=>q.elim
mutual
theorem nD.keep(k:∀ a its,h.IsTuple a its->h'.IsTuple a its):∀ {d:D}{v:Value},nD h v d->nD h' v d
 | .int _,_,q=>q
 | .str _,_,q=>q
 | .tup ds,_,q=>by
  obtain⟨p,its,e,t,r⟩:=q;exact⟨p,its,e,k _ _ t,fD.keep k r⟩
 | .non,_,q=>q.elim
 | .bl _,_,q=>q.elim
theorem fD.keep(k:∀ a its,h.IsTuple a its->h'.IsTuple a its):∀ {ds:List D}{vs:List Value},fD h vs ds->fD h' vs ds
 | [],[],_=>trivial
 | _::_,_::_,q=>⟨nD.keep k q.1,fD.keep k q.2⟩
 | [],_::_,q=>q.elim
 | _::_,[],q=>q.elim
end
def Ku{h:Heap}{a:Addr}{x y:Array Value}(h1:h.IsTuple a x)(h2:h.IsTuple a y):x=y:=by
 obtain⟨o,e,_,n,d⟩:=h1;obtain⟨o',e',_,n',d'⟩:=h2;obtain rfl:o=o':=WT (e.symm.trans e');rw[d] at d';injection d'
mutual
theorem nD.det{h:Heap}:∀ {d e:D}{v:Value},nD h v d->nD h v e->d=e
 | .int i,e,v,q,r=>by
  obtain⟨t,rfl⟩:=q;cases e with
  | int j=>obtain⟨t',e⟩:=r;injection e with e _;rw[e]
  | str y=>obtain⟨t',e⟩:=r;cases e
  | tup ds=>obtain⟨p,its,e,_⟩:=r;cases e
  | non=>exact r.elim
  | bl b=>exact r.elim
 | .str x,e,v,q,r=>by
  obtain⟨t,rfl⟩:=q;cases e with
  | int j=>obtain⟨t',e⟩:=r;cases e
  | str y=>obtain⟨t',e⟩:=r;injection e with e _;rw[e]
  | tup ds=>obtain⟨p,its,e,_⟩:=r;cases e
  | non=>exact r.elim
  | bl b=>exact r.elim
 | .tup ds,e,v,q,r=>by
  obtain⟨p,its,rfl,t,q⟩:=q;cases e with
  | int j=>obtain⟨t',e⟩:=r;cases e
  | str y=>obtain⟨t',e⟩:=r;cases e
  | tup es =>
   obtain⟨p',its',e,t',r⟩:=r;injection e with e;subst e;have e2:its=its':=by
    have:=congrArg Array.toList (Ku t t')
    simpa using this
   subst e2;rw[fD.det q r]
  | non=>exact r.elim
  | bl b=>exact r.elim
 | .non,_,_,q,_=>q.elim
 | .bl _,_,_,q,_=>q.elim
theorem fD.det:∀ {ds es:List D}{vs:List Value},fD h vs ds->fD h vs es->ds=es
 | [],[],[],_,_=>rfl
 | _::_,_::_,_::_,q,r=>by rw[nD.det q.1 r.1,fD.det q.2 r.2]
 | [],_::_,[],_,r=>r.elim
 | [],_,_::_,q,_=>q.elim
 | _::_,_,[],q,_=>q.elim
 | _::_,[],_::_,_,r=>r.elim
end
mutual
theorem wY(ok:HOk P w H h):∀ {d:D}{x:V}{v:Value},Pl d->Den H x d->RelV x v->nD h v d
 | .int i,x,v,_,q,r=>by
  have e:=q;subst e;exact r
 | .str i,x,v,_,q,r=>by
  have e:=q;subst e;exact r
 | .tup ds,x,v,hp,q,r=>by
  obtain⟨p,vs,rfl,e,q⟩:=aN q;cases r;obtain⟨_,its,rv,t⟩:=(show cM P w H h p (.tup vs) from ok p _ e)
  exact⟨p,its,rfl,t,sG ok hp q rv⟩
 | .non,_,_,hp,_,_=>hp.elim
 | .bl _,_,_,hp,_,_=>hp.elim
theorem sG(ok:HOk P w H h):∀ {ds:List D}{xs:List V}{vs:List Value},PlL ds->bL H xs ds->Vals xs vs->fD h vs ds
 | [],[],_,_,_,r=>by cases r;exact trivial
 | _::_,_::_,_,hp,q,r=>by
  cases r with
  | cons r1 r2=>exact⟨wY ok hp.1 q.1 r1,sG ok hp.2 q.2 r2⟩
 | [],_::_,_,_,q,_=>q.elim
 | _::_,[],_,_,q,_=>q.elim
end
section
variable {prog:Program}{w:World}{A:Around}{E:Value->Shared->Prop}{s:Shared}
def iK(t:s.heap.IsTuple a its):s.TypeIs (.ref a) "tuple":=by
 obtain⟨o,e,c,_⟩:=t;exact⟨o,e,c⟩
def Gz:∀(n:Nat) {d:D}{A:Around}{E:Value->Shared->Prop}{s:Shared}{v:Value}{Q:Int->Shared->Prop},cN n d->nD s.heap v d->A.units+n<cLine->Q (fJ w d) { s with toks:=s.toks+uH d }->wpAny (model prog w) A (pyHash v) Q E s:=by
 intro n
 induction n with
 | zero =>
  intro d A E s v Q hs hd hu h;cases d with
  | int i=>obtain⟨t,rfl⟩:=hd;exact wpAny_pyHash_int h
  | str x=>obtain⟨t,rfl⟩:=hd;exact wpAny_pyHash_str h
  | tup ds=>exact absurd rfl (hs.2 ds)
  | non=>exact hd.elim
  | bl b=>exact hd.elim
 | succ n ih =>
  intro d A E s v Q hs hd hu h;cases d with
  | int i=>obtain⟨t,rfl⟩:=hd;exact wpAny_pyHash_int h
  | str x=>obtain⟨t,rfl⟩:=hd;exact wpAny_pyHash_str h
  | non=>exact hd.elim
  | bl b=>exact hd.elim
  | tup ds =>
   obtain⟨a,its,rfl,ht,hi⟩:=hd;have hT:=iK ht;obtain⟨o,ho,_,m,hdt⟩:=ht;have hsd:=(hs.2 ds rfl).2;unfold pyHash
   first | unfold pyHashByItsType | skip
   first | refine Wo (wpAny_cRoomFor_or (.inr (by lia)) ?_) | skip
   refine Wo (wpAny_specialOf hT F.slot_tuple_hash.lookup ?_);rw[if_neg (by rw[beq_builtin_none];exact Wz)];refine Wo (wpAny_specialOf hT F.slot_tuple_hash.lookup ?_);refine Wo (wpAny_callSpecialIfBoundUnlessNone?_slot hT F.slot_tuple_hash (W6 F.slot_tuple_hash hT F.entry_tuple_hash ?_ (F.args_tuple_hash_1 _)));show wpAny _ _ (Builtin.Tuple.tupleItemsOf (.ref a) >>= _) _ _ s;refine Wo (wpAny_tupleItemsOf ho hdt ?_);refine Wo ?_;rw[← Array.forIn_toList];have hu1:A.in1.units+n<cLine:=by first | (simp only[Around.in1];lia) | lia
   refine wpAny_forIn_list _
    (fun rest (b:Array Int) s'=>∃ done left,ds=done++left/\fD s.heap rest left/\b.toList=iz w done/\s'={ s with toks:=s.toks+kZ done })
    _ ?_ ?_ _ _ ⟨[],ds,rfl,by simpa using hi,rfl,rfl⟩
   ·rintro x rest b s' ⟨done,left,rfl,hl,hb,rfl⟩;cases left with
    | nil=>exact hl.elim
    | cons d1 left =>
     refine Wo (ih (hsd d1 (W4 _ (.head _))) hl.1 hu1 ?_);have e1:iz w (done++[d1])=iz w done++[fJ w d1]:=by
      clear hl hb hsd hi hs h
      induction done with
      | nil=>rfl
      | cons c done ih=>show _::iz w (done++[d1])=_;rw[ih];rfl
     have e2:kZ (done++[d1])=kZ done+uH d1:=by
      clear hl hb hsd hi hs h e1
      induction done with
      | nil=>show uH d1+0=0+uH d1;lia
      | cons c done ih=>show uH c+kZ (done++[d1])=uH c+kZ done+uH d1;rw[ih];lia
     first
      | exact Wq ⟨done++[d1],left,by simp,hl.2,by rw[Array.toList_push,hb,e1],by simp[e2,Nat.add_assoc]⟩
      | exact Wo (Wq (Wq ⟨done++[d1],left,by simp,hl.2,by rw[Array.toList_push,hb,e1],by simp[e2,Nat.add_assoc]⟩))
   ·rintro b s' ⟨done,left,rfl,hl,hb,rfl⟩;cases left with
    | cons=>exact hl.elim
    | nil =>
     rw[append_nil] at h;show wpAny _ _ (retInt (Builtin.Tuple.tupleHashOf b.toList)) _ _ _;rw[hb];refine wpAny_ret_mkInt ?_;show wpAny _ _ (if (decide (-(2:Int)^63<=Builtin.Tuple.tupleHashOf (iz w done)) && decide (Builtin.Tuple.tupleHashOf (iz w done)<2^63))=true then _ else _) Q E _;have h:Q (reduceHash (Builtin.Tuple.tupleHashOf (iz w done))) { s with toks:=s.toks+(kZ done+1) }:=h;unfold reduceHash at h;by_cases hr:(decide (-(2:Int)^63<=Builtin.Tuple.tupleHashOf (iz w done)) && decide (Builtin.Tuple.tupleHashOf (iz w done)<2^63))=true
     ·rw[if_pos hr];rw[if_pos hr] at h;exact Wq (by simpa [Nat.add_assoc] using h)
     ·rw[if_neg hr];rw[if_neg hr] at h;exact Wo (wpAny_rule (Wq (by simpa [Nat.add_assoc] using h)))
def zZ:∀(n m:Nat) {d:D}{A:Around}{E:Value->Shared->Prop}{s:Shared}{v:Value}{Q:Bool->Shared->Prop},n<=m->cN n d->nD s.heap v d->Q true s->wpAny (model prog w) A (eqIsQuiet m v) Q E s:=by
 intro n
 induction n with
 | zero =>
  intro m d A E s v Q _ hs hd h;cases d with
  | int i=>obtain⟨t,rfl⟩:=hd;rw[eqIsQuiet_byValue m rfl];exact Wq h
  | str x=>obtain⟨t,rfl⟩:=hd;rw[eqIsQuiet_byValue m rfl];exact Wq h
  | tup ds=>exact absurd rfl (hs.2 ds)
  | non=>exact hd.elim
  | bl b=>exact hd.elim
 | succ n ih =>
  intro m d A E s v Q hm hs hd h;cases d with
  | int i=>obtain⟨t,rfl⟩:=hd;rw[eqIsQuiet_byValue m rfl];exact Wq h
  | str x=>obtain⟨t,rfl⟩:=hd;rw[eqIsQuiet_byValue m rfl];exact Wq h
  | non=>exact hd.elim
  | bl b=>exact hd.elim
  | tup ds =>
   obtain⟨m,rfl⟩:∃ k,m=k+1:=⟨m - 1,by lia⟩
   obtain⟨a,its,rfl,ht,hi⟩:=hd;have hT:=iK ht;obtain⟨o,ho,_,mm,hdt⟩:=ht;have hsd:=(hs.2 ds rfl).2;unfold eqIsQuiet;refine Wo (wpAny_specialOf hT F.slot_tuple_eq.lookup ?_);refine Wo (wpAny_isInstance hT isSubtype_tuple_tuple ?_);simp only[Bool.not_true,Bool.false_eq_true,if_false];refine Wo (wpAny_seqItems ho hdt ?_);refine Wo ?_;rw[← Array.forIn_toList];refine wpAny_forIn_list _ (fun rest r s'=>r.1=none/\s'=s/\∃ left,(∀ e∈left,cN n e)/\fD s.heap rest left) _ ?_ ?_ _ _ ⟨rfl,rfl,ds,hsd,by simpa using hi⟩
   ·rintro v rest r s' ⟨hr,rfl,left,hsl,hl⟩;cases left with
    | nil=>exact hl.elim
    | cons d1 left =>
     refine Wo (ih m (by lia) (hsl d1 (.head _)) hl.1 ?_);simp only[Bool.not_true,Bool.false_eq_true,if_false];exact Wq ⟨rfl,rfl,left,fun e he=>hsl e (.tail _ he),hl.2⟩
   ·rintro⟨r1,r2⟩ s' ⟨hr,rfl,_⟩;simp only at hr;subst hr;exact Wq h
def RK:∀(n:Nat) {d e:D}{A:Around}{s:Shared}{v u:Value},cN n d->cN n e->Sim d e->nD s.heap v d->nD s.heap u e->A.units+n<cLine->SeqAt.EqAt A s v u (eqD d e):=by
 intro n
 induction n with
 | zero =>
  intro d e A s v u hs hs2 hm
  revert hs hs2
  refine eY (P:=fun d e=>cN 0 d->cN 0 e->nD s.heap v d->nD s.heap u e->A.units+0<cLine->SeqAt.EqAt A s v u (eqD d e)) ?_ ?_ ?_ hm
  ·exact fun i j _ _ hx hy _=>qI (H:=fun _=>none) rfl rfl hx hy
  ·exact fun i j _ _ hx hy _=>rM (H:=fun _=>none) rfl rfl hx hy
  ·exact fun xs ys _ hs _ _ _ _=>absurd rfl (hs.2 xs)
 | succ n ih =>
  intro d e A s v u hs hs2 hm
  revert hs hs2
  refine eY (P:=fun d e=>cN (n+1) d->cN (n+1) e->nD s.heap v d->nD s.heap u e->A.units+(n+1)<cLine->SeqAt.EqAt A s v u (eqD d e)) ?_ ?_ ?_ hm
  ·exact fun i j _ _ hx hy _=>qI (H:=fun _=>none) rfl rfl hx hy
  ·exact fun i j _ _ hx hy _=>rM (H:=fun _=>none) rfl rfl hx hy
  ·intro ds es hm hs hs2 hx hy hu;obtain⟨a,its,rfl,p1,r1⟩:=id hx;obtain⟨b,its2,rfl,p2,r2⟩:=id hy;have l1:=r1.len;have l2:=r2.len;have both:∀ j (h1:j<its.toArray.size) (h2:j<its2.toArray.size),SeqAt.EqAt A.in1 s its.toArray[j] its2.toArray[j] (eqD (ds.getD j .non) (es.getD j .non)):=by
    intro j h1 h2;have hj1:j<its.length:=by simpa using h1
    have hj2:j<its2.length:=by simpa using h2
    obtain⟨d1,g1,b1⟩:=r1.at_ (Wr hj1);obtain⟨d2,g2,b2⟩:=r2.at_ (Wr hj2);rw[Wv,Wv,g1,g2];have s1:=(hs.2 ds rfl).2 d1 (W2 g1);have s2:=(hs2.2 es rfl).2 d2 (W2 g2);exact ih s1 s2 (hm.at_ g1 g2) (by simpa using b1) (by simpa using b2) (by first | (simp only[Around.in1];lia) | lia)
   by_cases hab:a=b
   ·subst hab;rw[dW.mpr (nD.det hx hy)];exact SeqAt.EqAt.same _
   ·have key:=SeqAt.EqAt.of_refs hab (SeqAt.RcAt.tuples p1 p2 (by lia) fun j h1 h2=>both j h1 h2);have q:=allR_eq ds es;rw[show ds.length=its.toArray.size by simp;lia,show es.length=its2.toArray.size by simp;lia] at q;rw[q] at key;exact key
end
noncomputable instance decD:DecidableEq D:=fun a b=>Classical.propDecidable (a=b)
structure KCls(C:D->Prop)(n:Nat):Prop where
 pl:∀ d,C d->Pl d
 sh:∀ d,C d->cN n d
 sm:∀ d e,C d->C e->Sim d e
 n8:n<=8
end L2
namespace SN
open PySem PySem.SetTable L2
def IsK(C:D->Prop)(h:Heap)(d:D)(a:Addr):Prop:=C d/\nD h (.ref a) d
section
variable {prog:Program}{w:World}
def ur:∀(n m:Nat) {d:D}{A:Around}{E:Value->Shared->Prop}{s:Shared}{v:Value}{Q:Bool->Shared->Prop},n<=m->cN n d->nD s.heap v d->Q false s->wpAny (model prog w) A (ofAClassStatement m v) Q E s:=by
 intro n
 induction n with
 | zero =>
  intro m d A E s v Q _ hs hd h;cases d with
  | int i=>obtain⟨t,rfl⟩:=hd;unfold ofAClassStatement;exact Wq h
  | str x=>obtain⟨t,rfl⟩:=hd;unfold ofAClassStatement;exact Wq h
  | tup ds=>exact absurd rfl (hs.2 ds)
  | non=>exact hd.elim
  | bl b=>exact hd.elim
 | succ n ih =>
  intro m d A E s v Q hm hs hd h;cases d with
  | int i=>obtain⟨t,rfl⟩:=hd;unfold ofAClassStatement;exact Wq h
  | str x=>obtain⟨t,rfl⟩:=hd;unfold ofAClassStatement;exact Wq h
  | non=>exact hd.elim
  | bl b=>exact hd.elim
  | tup ds =>
   obtain⟨m,rfl⟩:∃ k,m=k+1:=⟨m - 1,by lia⟩
   obtain⟨a,its,rfl,ht,hi⟩:=hd;have hT:=iK ht;obtain⟨o,ho,_,mm,hdt⟩:=ht;have hsd:=(hs.2 ds rfl).2;unfold ofAClassStatement;refine Wo (wpAny_typeOf hT ?_);simp only[beq_self_eq_true,if_true];refine Wo (Wq ?_);simp only[Bool.not_true,Bool.false_eq_true,if_false];refine Wo (wpAny_seqItems ho hdt ?_);refine Wo ?_;rw[← Array.forIn_toList];refine wpAny_forIn_list _ (fun rest r s'=>r.1=none/\s'=s/\∃ left,(∀ e∈left,cN n e)/\fD s.heap rest left) _ ?_ ?_ _ _ ⟨rfl,rfl,ds,hsd,by simpa using hi⟩
   ·rintro v rest r s' ⟨hr,rfl,left,hsl,hl⟩;cases left with
    | nil=>exact hl.elim
    | cons d1 left =>
     refine Wo (ih m (by lia) (hsl d1 (.head _)) hl.1 ?_);simp only[Bool.false_eq_true,if_false];exact Wq ⟨rfl,rfl,left,fun e he=>hsl e (.tail _ he),hl.2⟩
   ·rintro⟨r1,r2⟩ s' ⟨hr,rfl,_⟩;simp only at hr;subst hr;exact Wq h
def GK:∀(n m:Nat) {d:D}{A:Around}{E:Value->Shared->Prop}{s:Shared}{v:Value}{Q:Bool->Shared->Prop},n<=m->cN n d->nD s.heap v d->(∀ b,Q b s)->wpAny (model prog w) A (hashByValue m v) Q E s:=by
 intro n
 induction n with
 | zero =>
  intro m d A E s v Q _ hs hd h;cases d with
  | int i=>obtain⟨t,rfl⟩:=hd;cases m <;> (unfold hashByValue;exact Wq (h _))
  | str x=>obtain⟨t,rfl⟩:=hd;cases m <;> (unfold hashByValue;exact Wq (h _))
  | tup ds=>exact absurd rfl (hs.2 ds)
  | non=>exact hd.elim
  | bl b=>exact hd.elim
 | succ n ih =>
  intro m d A E s v Q hm hs hd h;cases d with
  | int i=>obtain⟨t,rfl⟩:=hd;cases m <;> (unfold hashByValue;exact Wq (h _))
  | str x=>obtain⟨t,rfl⟩:=hd;cases m <;> (unfold hashByValue;exact Wq (h _))
  | non=>exact hd.elim
  | bl b=>exact hd.elim
  | tup ds =>
   obtain⟨m,rfl⟩:∃ k,m=k+1:=⟨m - 1,by lia⟩
   obtain⟨a,its,rfl,ht,hi⟩:=hd;have hT:=iK ht;obtain⟨o,ho,_,mm,hdt⟩:=ht;have hsd:=(hs.2 ds rfl).2;unfold hashByValue;refine Wo (wpAny_specialOf hT F.slot_tuple_hash.lookup ?_);refine Wo (wpAny_seqItems ho hdt ?_);refine Wo ?_;rw[← Array.forIn_toList];refine wpAny_forIn_list _ (fun rest r s'=>s'=s/\∃ left,(∀ e∈left,cN n e)/\fD s.heap rest left) _ ?_ ?_ _ _ ⟨rfl,ds,hsd,by simpa using hi⟩
   ·rintro v rest r s' ⟨rfl,left,hsl,hl⟩;cases left with
    | nil=>exact hl.elim
    | cons d1 left =>
     refine Wo (ih m (by lia) (hsl d1 (.head _)) hl.1 fun b=>?_);cases b with
     | false =>
      simp only[Bool.not_false,if_true];exact Wq (Wq (h _))
     | true =>
      simp only[Bool.not_true,Bool.false_eq_true,if_false];exact Wq ⟨rfl,left,fun e he=>hsl e (.tail _ he),hl.2⟩
   ·rintro⟨r1,r2⟩ s' ⟨rfl,_⟩;cases r1 with
    | none=>exact Wq (h _)
    | some b=>exact Wq (h _)
variable {A:Around}{E:Value->Shared->Prop}{s:Shared}{C:D->Prop}{n:Nat}
def FW(hC:KCls C n){Q:Bool->Shared->Prop}(hk:IsK C s.heap ks a)(hy:∀ y∈ys,∃ ls b,y=Value.ref b/\IsK C s.heap ls b)(h:Q false s):wpAny (model prog w) A (searchCouldBeSeen (.ref a) ys) Q E s:=by
 unfold searchCouldBeSeen;refine Wo ?_;refine wpAny_forIn_list _ (fun rest r s'=>r.1=none/\s'=s/\∀ y∈rest,∃ ls b,y=Value.ref b/\IsK C s.heap ls b) _ ?_ ?_ _ _ ⟨rfl,rfl,hy⟩
 ·rintro v rest r s' ⟨hr,rfl,hall⟩;obtain⟨ls,b,rfl,hb⟩:=hall v WQ;have hrest:=fun u hu'=>hall u (WR _ hu')
  dsimp only;split
  ·exact Wq ⟨rfl,rfl,hrest⟩
  ·refine Wo (zZ n 8 hC.n8 (hC.sh _ hk.1) hk.2 ?_);simp only[Bool.not_true,Bool.false_eq_true,if_false];refine Wo (zZ n 8 hC.n8 (hC.sh _ hb.1) hb.2 ?_);simp only[Bool.not_true,Bool.false_eq_true,if_false];refine Wo (ur n 8 hC.n8 (hC.sh _ hk.1) hk.2 ?_);simp only[Bool.false_eq_true,if_false];refine Wo (ur n 8 hC.n8 (hC.sh _ hb.1) hb.2 ?_);simp only[Bool.false_eq_true,if_false];exact Wq ⟨rfl,rfl,hrest⟩
 ·rintro⟨r1,r2⟩ s' ⟨hr,rfl,_⟩;simp only at hr;subst hr;exact Wq h
structure QV(w:World)(C:D->Prop)(h:Heap)(es:Array (Int × Value))(kas:List (D × Addr)):Prop where
 e:es.toList=kas.map fun p=>(fJ w p.1,Value.ref p.2)
 k:∀ p∈kas,IsK C h p.1 p.2
def zm(hC:KCls C n){Q:SetFound->Shared->Prop}
  (hu:A.units+n<cLine)(ho:s.heap.get? S=some o)(hd:o.data=.set es ep t)(hT:ST.TOk t es.size)(hE:QV w C s.heap es kas)(hk:IsK C s.heap ks a)(hn:∀ p∈kas,p.1≠ks)(h:∀ j,t.slot j=.empty->Q (.free j false) s) :
  ∀(d fuel:Nat)(q:Probe),ST.BP t q d->d<10*turns t.mask->d<fuel->q.dummy=none->∀ st:Option Probe,st.getD (t.probeStart (fJ w ks))=q->wpAny (model prog w) A (setSearchFrom S (.ref a) (fJ w ks) true fuel st) Q E s:=by
 intro d
 induction d using Nat.strongRecOn with
 | ind d ih =>
  intro fuel q hD hdt hdf hq st hst;obtain⟨fuel,rfl⟩:∃ f,fuel=f+1:=⟨fuel - 1,by lia⟩
  have hf:t.fits es.size=true:=by
   unfold SetTable.fits SetTable.fill;rw[hT.d,hT.sz];have:=hT.room;simp;exact this
  unfold setSearchFrom;refine Wo (wpAny_setState_of ho hd hf ?_);dsimp only;have hg:t.gaveWay=false:=by
   unfold SetTable.gaveWay;rw[hT.o]
   rfl
  rw[hg];simp only[Bool.false_eq_true,if_false];rw[hst];have key:∀(F:Nat->Int)(met:Option Met),SetTable.probe t F (fJ w ks) q=met->met=some (.empty (ST.adv t d q).j q.dummy)\/∃ e i,e<d/\t.slot (ST.adv t e q).j=.live i/\met=some (.candidate (ST.adv t e q).j i (t.advance (ST.adv t e q))):=fun F met hF=>by
   have:=ST.w6 hT.d (hashAt:=F) (h:=fJ w ks) d (10*turns t.mask) q hD hdt;rw[show SetTable.probe.go t F (fJ w ks) (10*turns t.mask) q=met from hF] at this;rcases this with this | ⟨e,i,h1,h2,_,h3⟩
   ·exact .inl this
   ·exact .inr ⟨e,i,h1,h2,h3⟩
  generalize hF:SetTable.probe t _ (fJ w ks) q=met;rcases key _ _ hF with k2 | ⟨e,i,he,hs,k2⟩
  ·subst k2;rw[hq];exact Wq (h _ hD.1)
  ·subst k2;have hpl:=ST.CJ hs;have hi:i<es.size:=by
    rw[← hT.sz];rcases Nat.lt_or_ge i t.place.size with z | z
    ·exact z
    ·rw[Array.getElem?_eq_none z] at hpl;cases hpl
   have hik:i<kas.length:=by
    have:=congrArg List.length hE.e;rw[WK,Xa] at this;lia
   have hei:es[i]?=some (fJ w kas[i].1,Value.ref kas[i].2):=by
    rw[← Array.getElem?_toList,hE.e,W8,Wr hik]
    rfl
   have hki:=hE.k _ (getElem_mem hik);have hni:=hn _ (getElem_mem hik);generalize kas[i]=ka at hei hki hni;have hseen:∀ {Q':Bool->Shared->Prop},Q' false s->wpAny (model prog w) A (searchCouldBeSeen (.ref a) ((es.filter (·.1 == fJ w ks)).toList.map (·.2))) Q' E s:=fun {Q'} q=>by
    refine FW hC hk (fun y hy=>?_) q;obtain⟨x,hx,rfl⟩:=mem_map.mp hy;rw[Array.toList_filter] at hx;have hx:=(mem_filter.mp hx).1;rw[hE.e] at hx;obtain⟨p,hp,rfl⟩:=mem_map.mp hx;exact⟨p.1,p.2,rfl,hE.k p hp⟩
   have rest:wpAny (model prog w) A (do
     let some (_,y):=es[i]? | unsupported "internal:set-entry"
     let equal ← holding [y] (eqBool y (.ref a))
     let (es',_,t') ← setState S
     if true && equal then return SetFound.there none
     let some same:=t'.sameMemory t.moves t.mask | unsupported "set.changed-during-lookup:is-the-new-block-at-the-old-address"
     let still ← match (if same then t'.slot (ST.adv t e q).j else .empty) with
      | .live i'=>match es'[i']? with
       | some (_,y')=>do pure (if ← isSame y' y then some i' else none)
       | none=>pure none
      | _=>pure none
     match still with
     | none=>rule "set.search.anew";setSearchFrom S (.ref a) (fJ w ks) true fuel none
     | some i'=>if equal then return .there (some i') else setSearchFrom S (.ref a) (fJ w ks) true fuel (some (t.advance (ST.adv t e q)))) Q E s:=by
    rw[hei];refine Wo (WW (RK n (hC.sh _ hki.1) (hC.sh _ hk.1) (hC.sm _ _ hki.1 hk.1) hki.2 hk.2 hu _ _ _ _ ?_));rw[Dt hni];refine Wo (wpAny_setState_of ho hd hf ?_);simp only[Bool.and_false,Bool.false_eq_true,if_false];have hsm:t.sameMemory t.moves t.mask=some true:=by
     unfold SetTable.sameMemory;rw[if_pos (beq_self_eq_true _)]
    rw[hsm];dsimp only;rw[if_pos rfl,hs];dsimp only;rw[hei];refine Wo (wpAny_isSame_ref_self (Wo (Wq ?_)));rw[if_pos rfl];have hnx:t.advance (ST.adv t e q)=ST.adv t (e+1) q:=(ST.rD t e 1 q).symm;refine ih (d - (e+1)) (by lia) fuel (ST.adv t (e+1) q) (hD.shift (by lia)) (by lia) (by lia) (by rw[ST.Cu];exact hq) _ ?_;rw[hnx]
    rfl
   cases hl:t.led with
   | true =>
    simp only[Bool.not_true,Bool.false_eq_true,if_false];exact rest
   | false =>
    simp only[Bool.not_false,if_true];refine Wo (hseen ?_);simp only[Bool.false_eq_true,if_false];exact rest
def IK{es ep t}(x:IsK C h ks a)(ho:h.get? d=some o)(hd:o.data=.set es ep t)(hs:Heap.SameBut d h h'):IsK C h' ks a:=⟨x.1,x.2.keep fun b its t=>by
  obtain⟨o',e,c⟩:=t;refine⟨o',(hs.2 b fun z=>?_).trans e,c⟩;subst z;obtain rfl:o'=o:=WT (e.symm.trans ho);obtain⟨_,n,c⟩:=c;rw[hd] at c;cases c⟩
structure Ma(w:World)(C:D->Prop)(h:Heap)(S:Addr)(kas:List (D × Addr)):Prop where
 ex:∃(o:Obj)(es:Array (Int × Value))(ep:Nat)(t:SetTable)(kas':List (D × Addr)),h.get? S=some o/\o.ExactSet/\o.data=.set es ep t/\ST.TOk t es.size/\es.size*5<t.mask*3/\(w.params.followText "set-order" = true\/t.led=true)/\t.mask<=8000/\kas'.Perm kas/\QV w C h es kas'
def Ky(hC:KCls C n){Q:Bool->Shared->Prop}(hu:A.units+n<cLine)(hS:Ma w C s.heap S kas)(hk:IsK C s.heap ks a)(hn:∀ p∈kas,p.1≠ks)(hz:kas.length+1<=900)
  (h:∀ h',Heap.SameBut S s.heap h'->Ma w C h' S ((ks,a)::kas)->Q true { s with heap:=h' }):wpAny (model prog w) A (setAddHashed S (.ref a) (fJ w ks)) Q E s:=by
 obtain⟨o,es,ep,t,kas',ho,hex,hd,hT,hrm,hld,hmk,hp,hE⟩:=hS.ex;have hsz:es.size=kas.length:=by
  have:=congrArg List.length hE.e;rw[WK,Xa,hp.length_eq] at this;exact this
 have hf:t.fits es.size=true:=by
  unfold SetTable.fits SetTable.fill;rw[hT.d,hT.sz];have:=hT.room;simp;exact this
 unfold setAddHashed setAddHashedIn;refine WW (Wo (wpAny_setState_of ho hd hf ?_));dsimp only;have hb:byScan (.ref a) es=false:=by unfold byScan;rfl
 rw[hb];simp only[Bool.false_eq_true,if_false];obtain⟨c1,c2,c3⟩:=ST.rF t (fJ w ks);obtain⟨d,hd1,hD⟩:=hT.dist c1 c2;refine Wo (zm hC hu ho hd hT hE hk (fun p hq=>hn p (hp.mem_iff.mp hq)) (fun j hje=>?_) d 100000 _ hD (by unfold turns;lia) (by lia) c3 none rfl);refine Wo (wpAny_setState_of ho hd hf ?_);have hput:(t.put j).1.mask=t.mask/\(t.put j).1.dummies = #[]/\(t.put j).1.place.size=es.size+1/\(t.put j).1.led=t.led/\ST.Up (t.put j).1.place:=by
  refine⟨rfl,?_,?_,rfl,ST.tD hT.up (ST.pO hje)⟩
  ·show(if SetTable.has t.dummies j then _ else t.dummies) = #[];rw[hT.d]
   rfl
  ·show(SetTable.insertAt t.place _ j).size=_;rw[ST.dF,hT.sz]
 obtain⟨m1,m2,m3,m5,m6⟩:=hput;generalize (t.put j).2=p;generalize (t.put j).1=t0 at m1 m2 m3 m5 m6 ⊢
 suffices fin:∀ t1:SetTable,t1.mask=t0.mask->t1.dummies=t0.dummies->t1.place=t0.place->t1.led=t0.led->wpAny (model prog w) A (do
   storeSet S (insertAt es p (fJ w ks,Value.ref a)) t1
   if (!false && t1.tooFull)=true then do
    setRelay S (grown (es.size+1))
    pure true
   else pure true) Q E s by
  split
  ·refine Wo (GK n 8 hC.n8 (hC.sh _ hk.1) hk.2 fun b=>?_);cases b
   ·exact fin { t0 with plain:=false } rfl rfl rfl rfl
   ·exact fin t0 rfl rfl rfl rfl
  ·exact Wo (Wq (fin t0 rfl rfl rfl rfl))
 intro t1 x1 x2 x3 x5;rw[← x1] at m1;rw[← x2] at m2;rw[← x3] at m3 m6;rw[← x5] at m5;have hs1:=ST.dF es p (fJ w ks,Value.ref a);have hp1:=ST.je es p (fJ w ks,Value.ref a);generalize SetTable.insertAt es p (fJ w ks,Value.ref a)=es1 at hs1 hp1 ⊢;have hln:es1.size<=sizeLine:=by rw[sizeLine_eq];lia
 refine Wo (wpAny_storeSet_of ho hd ?_ hln);have hg1:(s.heap.update S (Obj.putSet es1 t1)).get? S=some { o with data:=.set es1 (ep+1) t1 }:=by
  have:=Heap.get?_update_self (Obj.putSet es1 t1) ho (by rw[putSet_of es1 t1 hd];rfl);rw[putSet_of es1 t1 hd] at this;exact this
 have hsb1:=Heap.SameBut.update s.heap S (Obj.putSet es1 t1);have hent:∀(h':Heap)(es2:Array (Int × Value)),Heap.SameBut S s.heap h'->es2.toList.Perm es1.toList->∃ kas2:List (D × Addr),kas2.Perm ((ks,a)::kas)/\QV w C h' es2 kas2:=fun h' es2 hsb hpe=>by
  have hpm:es2.toList.Perm (((ks,a)::kas').map fun p=>(fJ w p.1,Value.ref p.2)):=by
   refine(hpe.trans hp1).trans ?_;rw[map_cons,hE.e]
  obtain⟨kas2,k1,k2⟩:=ST.fQ hpm.symm rfl;refine⟨kas2,k1.trans (hp.cons _),k2,fun q hq=>?_⟩;rcases mem_cons.mp (k1.mem_iff.mp hq) with rfl | hq
  ·exact IK hk ho hd hsb
  ·exact IK (hE.k q hq) ho hd hsb
 have hodd:t1.mask%2=1:=by rw[m1];exact hT.o
 have hpow:∃ k,t1.mask+1=2^k:=by rw[m1];exact hT.k
 have hle:es1.size<=t1.mask:=by rw[m1,hs1];have:=hT.o;lia
 have hfl:t1.fill=es1.size:=by
  unfold SetTable.fill;rw[m2,m3,hs1]
  rfl
 by_cases htf:t1.tooFull=true
 ·rw[if_pos (by rw[htf];rfl)];have hgr:SetTable.grown (es.size+1)=(es.size+1)*4:=by
   unfold SetTable.grown;rw[if_neg (by lia)]
  unfold setRelay;have hf1:t1.fits es1.size=true:=by
   unfold SetTable.fits;rw[hfl,m3,hs1];simp;lia
  refine Wo (Wo (wpAny_setState_of hg1 rfl hf1 ?_));dsimp only;rw[hgr];obtain⟨kk,se,s3,s4,s5⟩:=ST.j8 (n:=(es.size+1)*4) (by lia);have hsl:¬ SetTable.sizeAbove ((es.size+1)*4)>sizeLine:=by
   rw[se,sizeLine_eq];lia
  rw[if_neg hsl];obtain⟨t2,order,r1,r2,r3,r4,r5,r6,r7⟩:=ST.tO (hashes:=es1.map (·.1)) (wanted:=(es.size+1)*4) (by lia) (by rw[Array.size_map,hs1];lia) (by lia);rw[Array.size_map] at r2 r3;refine Wo ?_;rw[r1];have hes2:(order.filterMap (es1[·]?)).toList.Perm es1.toList:=by
   rw[Array.toList_filterMap];refine(r3.filterMap _).trans ?_;have:=W.krv_all es1;rw[this]
  have hsz2:(order.filterMap (es1[·]?)).size=es1.size:=by
   have:=hes2.length_eq;rw[WK,WK] at this;exact this
  show wpAny (model prog w) A (if ((order.filterMap (es1[·]?)).size != es1.size)=true then _ else pure (order.filterMap (es1[·]?),t2)) _ _ _;rw[hsz2,if_neg (by simp)];refine Wq ?_;generalize order.filterMap (es1[·]?)=es2 at hes2 hsz2;refine wpAny_storeSet_of hg1 rfl ?_ (by rw[hsz2];exact hln);have hg2:((s.heap.update S (Obj.putSet es1 t1)).update S (Obj.putSet es2 t2)).get? S=some { o with data:=.set es2 (ep+1+1) t2 }:=by
   have:=Heap.get?_update_self (Obj.putSet es2 t2) hg1 rfl;exact this
  have hsb2:=hsb1.trans (Heap.SameBut.update _ S (Obj.putSet es2 t2));obtain⟨kas2,k1,k2⟩:=hent _ es2 hsb2 hes2;refine Wq (h _ hsb2 ⟨_,es2,_,t2,kas2,hg2,hex,rfl,by rw[hsz2];exact r2,by rw[hsz2,hs1];lia,by rw[r5,m5];exact hld,by lia,k1,k2⟩)
 ·rw[if_neg (by simpa using htf)];obtain⟨kas2,k1,k2⟩:=hent _ es1 hsb1 (List.Perm.refl _);have hr1:es1.size*5<t1.mask*3:=by
   unfold SetTable.tooFull at htf;rw[hfl] at htf;simp at htf;exact htf
  exact Wq (h _ hsb1 ⟨_,es1,_,t1,kas2,hg1,hex,rfl,⟨hpow,m2,by rw[m3,hs1],hle,hodd,m6⟩,hr1,by rw[m5];exact hld,by rw[m1];exact hmk,k1,k2⟩)
end
end SN
namespace SX
open PySem PySem.Spec PyProof.Rows
section
variable {prog:Program}{w:World}{A:Around}{R:Result->Shared->Prop}{I:Addr}{fp wr:List Addr}{G:Array GenState->Array GenState->Prop}{n:Nat}{P:Nat->Value->Prop}{St:Nat->Shared->Prop}
def N7(W:WalksS prog w A.in1 I fp wr G n P St)(S:Addr)(nf:S ∉ fp)(h0:Heap)(hold:∀ b o,h0.get? b=some o->b ∉ S::wr)(SS:Nat->Heap->Prop)
  (frame:∀ i h h',SS i h->(∀ o,h.get? S=some o->h'.get? S=some o)->(∀ b o,h0.get? b=some o->h'.get? b=some o)->SS i h')
  (add:∀(i:Nat)(v:Value)(s:Shared)(E:Value->Shared->Prop)(Q:Bool->Shared->Prop),i<n->P i v->SS i s.heap->(∀ b o,h0.get? b=some o->s.heap.get? b=some o)->(∀(b:Bool)(h':Heap)(tk:Nat),s.toks<=tk->Heap.SameBut S s.heap h'->SS (i+1) h'->Q b { s with heap:=h',toks:=tk })->wpAny (model prog w) A.in1 (setAdd S v) Q E s) :
  ∀(k i:Nat)(s:Shared),n - i=k->i<=n->St i s->SS i s.heap->(∀ b o,h0.get? b=some o->s.heap.get? b=some o)->(∀ s',Moved (S::wr) G s s'->SS n s'.heap->R (.ok (.ret .none)) s') ->
   codeAny (model prog w) A (.builtin "set.update.loop" ⟨[.ref S,.ref I],[]⟩) R s:=by
 have nw:S ∉ wr:=fun z=>nf (W.sub _ z)
 have sub:∀ b∈wr,b∈S::wr:=fun b z=>WR _ z
 have how:∀ b o,h0.get? b=some o->b ∉ wr:=fun b o e z=>hold b o e (WR _ z)
 have hos:∀ b o,h0.get? b=some o->b≠S:=fun b o e z=>hold b o e (by rw[z];exact WQ)
 intro k
 induction k with
 | zero =>
  intro i s ek le st hS ho q;have e:i=n:=by lia
  subst e;refine codeAny_builtin F.entry_set_update_loop ?_;rw[Around.under_plainId F.plain_set_update_loop _];show wpAny _ A.in1 (pyNext (.ref I) >>= _) _ _ _;refine Wo (W.done s _ _ st fun s' mv=>?_);show wpAny _ A.in1 (ret Value.none) _ _ _;exact Wq (q s' (mv.mono sub) (frame _ _ _ hS (fun o e=>mv.heap S o nw e) fun b o e=>mv.heap b o (how b o e) (ho b o e)))
 | succ k ih =>
  intro i s ek le st hS ho q;have lt:i<n:=by lia
  refine codeAny_builtin F.entry_set_update_loop ?_;rw[Around.under_plainId F.plain_set_update_loop _];show wpAny _ A.in1 (pyNext (.ref I) >>= _) _ _ _;refine Wo (W.item i s _ _ lt st fun v s' hP st' mv=>?_);have ho':∀ b o,h0.get? b=some o->s'.heap.get? b=some o:=fun b o e=>mv.heap b o (how b o e) (ho b o e)
  have hS':=frame _ _ _ hS (fun o e=>mv.heap S o nw e) ho';show wpAny _ A.in1 (holding [v] (setAdd S v) >>= _) _ _ _;refine Wo (WW ?_);refine add i v s' _ _ lt hP hS' ho' fun b g tk htk sb hS2=>?_
  refine Wq ⟨plainId_quiet F.plain_set_update_loop _,ih (i+1) _ (by lia) lt (W.frame _ s' _ _ st' htk fun b hb o e=>?_) hS2 (fun b o e=>?_) fun s'' mv2 hS''=>?_⟩
  ·rw[sb.2 b fun z=>nf (z ▸ hb)];exact e
  ·exact(sb.2 b (hos b o e)).trans (ho' b o e)
  ·refine q s'' (Moved.trans W.gtrans ((mv.mono sub).then_heap htk fun b o hb e=>?_) mv2) hS'';rw[sb.2 b fun z=>hb (by rw[z];exact WQ)];exact e
end
def um{E:Value->Shared->Prop}{SS:Nat->Heap->Prop}{Q:Value->Shared->Prop}
  (hd:A.handled=none)(tl:s.heap.IsTuple l items\/s.heap.IsList l items)
  (frame:∀ i h h',SS i h->(∀ o,h.get? s.heap.objs.size=some o->h'.get? s.heap.objs.size=some o)->(∀ b o,s.heap.get? b=some o->h'.get? b=some o)->SS i h')
  (add:∀(A':Around)(i:Nat)(v:Value)(s':Shared)(E:Value->Shared->Prop)(Q:Bool->Shared->Prop),A'.units<=A.units+8->i<items.size->items[i]?=some v->SS i s'.heap->(∀ b o,s.heap.get? b=some o->s'.heap.get? b=some o)->(∀(b:Bool)(h':Heap)(tk:Nat),s'.toks<=tk->Heap.SameBut s.heap.objs.size s'.heap h'->SS (i+1) h'->Q b { s' with heap:=h',toks:=tk })->wpAny (model prog w) A' (setAdd s.heap.objs.size v) Q E s')
  (new:∀(led:Bool)(h:Heap),(w.params.followText "set-order" = true\/led=true)->h.get? s.heap.objs.size=some { cls:=.type "set",dict:=none,data:=.set #[] 0 (.fresh 0 0 led) }->(∀ b o,s.heap.get? b=some o->h.get? b=some o)->SS 0 h)
  (q:∀(g:Heap)(tk:Nat),SS items.size g->(∀ b o,b<s.heap.objs.size->s.heap.get? b=some o->g.get? b=some o)->Q (.ref s.heap.objs.size) { s with heap:=g,toks:=tk }) :
  wpAny (model prog w) A (call (.type "set") [.ref l]) Q E s:=by
 obtain⟨c,tl',hmro⟩:=PySem.F.called_set.mro;have hmade:=PySem.F.called_set.made;have hsub:=PySem.F.called_set.sub;refine wpAny_call (codeAny_of_tree ?_);show wpAny _ _ (callAny (.type "set") _) _ _ _;refine Wq ⟨Code.quiet_builtin _ (by decide +kernel),codeAny_builtin PySem.F.entry_type_call ?_⟩;rw[Around.under_plain (weight_type_call_type "set" [.ref l] []) rfl];have h1:=PySem.F.called_set.notType;have h2:=PySem.F.called_set.canCreate;have hct:=PySem.F.typeCall_set_1 (.ref l)
 repeat (any_goals (first | assumption | wp_step))
 refine codeAny_mono (qJ (.ref l) (E:=E) (Q₁:=fun ob s₁=>∃ led:Bool,(w.params.followText "set-order" = true\/led=true)/\ob=.ref s.heap.objs.size/\s₁={ s with heap:=s.heap.push { cls:=.type "set",dict:=none,data:=.set #[] 0 (.fresh 0 0 led) } }) ⟨_,by cases w.params.followText "set-order" <;> simp,rfl,rfl⟩) fun r s₁ hr=>?_
 cases r with
 | error e=>exact hr
 | ok fl =>
  cases fl with
  | ret ob =>
   obtain⟨led,hled,rfl,rfl⟩:=hr;have eS:(s.heap.push { cls:=.type "set",dict:=none,data:=.set #[] 0 (.fresh 0 0 led) }).get? s.heap.objs.size=some { cls:=.type "set",dict:=none,data:=.set #[] 0 (.fresh 0 0 led) }:=Wy _ rfl;have tS:Shared.TypeIs { s with heap:=s.heap.push { cls:=.type "set",dict:=none,data:=.set #[] 0 (.fresh 0 0 led) } } (.ref s.heap.objs.size) "set":=⟨_,eS,rfl⟩
   have hli:=PySem.F.called_set.init.lookup;have hbi:=PySem.F.called_set.init.bind (.ref s.heap.objs.size)
   repeat (any_goals (first | assumption | wp_step))
   refine codeAny_mono (codeAny_call_builtin (R:=wants (fun r s₂=>r=.none/\∃ g tk,s₂={ s with heap:=g,toks:=tk }/\SS items.size g /\
     (∀ b o,b<s.heap.objs.size->s.heap.get? b=some o->g.get? b=some o)) E) PySem.F.called_set.init.plain PySem.F.entry_set_init (check_set_init_1 tS ?_)) fun r₂ s₂ hr₂=>?_
   ·rcases tl with⟨⟨oc,od,odt,osl⟩,eol,ecl,nl,edl⟩ | ⟨⟨oc,od,odt,osl⟩,eol,ecl,nl,edl⟩
    all_goals
     simp only at ecl edl;subst ecl;subst edl;have eol':=Ws { cls:=.type "set",dict:=none,data:=.set #[] 0 (.fresh 0 0 led) } eol;have hsls:=PySem.F.sub_tuple_set;have hslf:=PySem.F.sub_tuple_frozenset;have hne:(Value.type "tuple" == Value.type "dict")=false:=by decide
     have hslt:=PySem.F.sub_list_set;have hslu:=PySem.F.sub_list_frozenset;have hnf:(Value.type "list" == Value.type "dict")=false:=by decide
     unfold Builtin.«set.__init__» noKeywords Builtin.Frozenset.updateFrom;generalize hPI:pyIter=PI
     wp_walk
     subst hPI
     first | refine wpAny_pyIter_tuple (items:=items) ⟨_,eol',rfl,nl,rfl⟩ (Wo (wpAny_runValue ?_)) | refine wpAny_pyIter_list (items:=items) ⟨_,eol',rfl,nl,rfl⟩ (Wo (wpAny_runValue ?_))
     have lS:l<s.heap.objs.size:=Ww eol;have hd3:A.in1.in1.in1.handled=none:=by simp[hd]
     have neI:l≠(s.heap.push { cls:=.type "set",dict:=none,data:=.set #[] 0 (.fresh 0 0 led) }).objs.size:=by
      rw[Heap.size_push];exact Wx (Xb lS)
     have nf:s.heap.objs.size ∉ [(s.heap.push { cls:=.type "set",dict:=none,data:=.set #[] 0 (.fresh 0 0 led) }).objs.size,l]:=by
      rw[Heap.size_push];simp only[mem_cons,mem_singleton,not_mem_nil,or_false,not_or];exact⟨Wx (Nat.lt_succ_self _),Nat.ne_of_gt lS⟩
     first | refine N7 ((Walks.tuple hd3 _ l neI items).toS) s.heap.objs.size nf s.heap ?hold SS frame (fun i v s' E' Q' hi hP hS ho hq=>add _ i v s' E' Q' ?hun hi hP hS ho hq) (items.size - 0) 0 _ (by lia) (Nat.zero_le _) ⟨⟨_,Wy _ rfl,rfl,rfl⟩,Heap.IsTuple.push ⟨_,eol',rfl,nl,rfl⟩ _⟩ ?hS0 ?hO ?hR | refine N7 ((Walks.list hd3 _ l neI items).toS) s.heap.objs.size nf s.heap ?hold SS frame (fun i v s' E' Q' hi hP hS ho hq=>add _ i v s' E' Q' ?hun hi hP hS ho hq) (items.size - 0) 0 _ (by lia) (Nat.zero_le _) ⟨⟨_,Wy _ rfl,rfl,rfl⟩,Heap.IsList.push ⟨_,eol',rfl,nl,rfl⟩ _⟩ ?hS0 ?hO ?hR
     case hold =>
      intro b o e;have hb:=Ww e;rw[Heap.size_push];simp only[mem_cons,mem_singleton,not_mem_nil,or_false,not_or];exact⟨Wx hb,Wx (Xb hb)⟩
     case hun=>first | (simp only[Around.in1];lia) | simp
     case hO=>exact fun b o e=>Ws _ (Ws _ e)
     case hS0=>exact new led _ hled (Ws _ eS) fun b o e=>Ws _ (Ws _ e)
     case hR =>
      intro s' mv hS';obtain⟨g,gg,d',tk',os'⟩:=s';have e1:gg=s.gens:=mv.gens;have e2:d'=s.drawn:=mv.drawn;have e3:os'=s.os:=mv.os;subst e1;subst e2;subst e3;show wpAny _ _ _ _ _ _;refine Wq ?_;show wpAny _ _ (ret Value.none) _ _ _;refine Wq ⟨rfl,g,tk',rfl,hS',fun b o hb e=>?_⟩;have hb2:b≠(s.heap.push { cls:=.type "set",dict:=none,data:=.set #[] 0 (.fresh 0 0 led) }).objs.size:=by
       rw[Heap.size_push];exact Wx (Xb hb)
      exact mv.heap b o (by simp only[mem_cons,mem_singleton,not_mem_nil,or_false,not_or];exact⟨Wx hb,hb2⟩) (Ws _ (Ws _ e))
   ·cases r₂ with
    | error e=>exact hr₂
    | ok fl₂ =>
     cases fl₂ with
     | ret r =>
      obtain⟨rfl,g,tk,rfl,hS',hk'⟩:=hr₂
      repeat (any_goals (first | assumption | wp_step))
      exact q _ _ hS' hk'
     | _=>exact hr₂.elim
  | _=>exact hr.elim
end SX
set_option maxHeartbeats 1000000
set_option maxHeartbeats 2000000
set_option maxHeartbeats 1000000
namespace SO
open PySem PySem.W PyProof.Rows
variable {O:KeyOrd}{key:Nat->O.α}{N:Nat}
end SO
namespace L2
open PySem PySem.W PyProof.Rows
section
variable {X:Cx}{pins:List (Addr × Obj)}{σ:St}{H:Hp}{s:Shared}
def Rn(X:Cx)(s:Shared)(its:List Value)(ds:List D):Prop:=∃ κ:SortKind,
 (2<=its.length->∀ h',SO.Keeps s.heap h'->∀(E:Value->Shared->Prop)(Q:SortKind->Shared->Prop),Q κ { s with heap:=h' }->wpAny (model X.prog X.w) X.A.in1.in1 (keyKind' its.toArray) Q E { s with heap:=h' }) /\
 (∀ h',SO.Keeps s.heap h'->SO.Cmp (O:=Ip) (fun i=>ds.getD i .non) its.length (W.kas_ask X.prog X.w X.A.in1.in1 κ its) { s with heap:=h' })
def RD(hu:X.A.units+64<cLine)(I:Inv X pins σ H s)(hD:bL H vs ds)(rv:Vals vs its)(hom:Hom ds)(h64:ds.length<=100000)(hsh:∀ d∈ds,cN 50 d):Rn X s its ds:=by
 have l1:=hD.len;have l2:=rv.length;have one:(∀ d∈ds,∀ xs,d≠.tup xs)->∀ T,(T != Value.type "tuple")=true->(T == T)=true->(∀ d∈ds,tyD d=T)->Rn X s its ds:=by
  intro nt T hT1 hT2 hT;refine⟨oneType',fun h2 h' kp E Q q=>?_,fun h' kp i j C hi hj q=>?_⟩
  ·refine W.kas_kind h2 (fun v hv=>?_) hT1 hT2 q;obtain⟨i,hi,rfl⟩:=mem_iff_getElem.mp hv;obtain⟨x,v,e1,e2,e3,e4,e5,e6⟩:=at3 (i:=i) hD rv (by lia);rw[Wr hi] at e2;cases e2;rw[← hT _ e6];exact lK I kp (hom.1 _ e6 _ e6) e4 e5
  ·obtain⟨x,v,e1,e2,e3,e4,e5,e6⟩:=at3 (i:=i) hD rv (by lia);obtain⟨y,u,f1,f2,f3,f4,f5,f6⟩:=at3 (i:=j) hD rv (by lia);unfold W.kas_ask;rw[e3,f3,keyLt'_oneType];exact lQ (hom.1 _ e6 _ f6) e4 f4 e5 f5 (nt _ e6) _ _ q
 rcases hom.2 with hi | hi | hi
 ·exact one (fun d hd xs e=>by obtain⟨i,z⟩:=hi d hd;rw[z] at e;cases e) (.type "int") (by decide) (by rfl) (fun d hd=>by obtain⟨i,z⟩:=hi d hd;rw[z];rfl)
 ·exact one (fun d hd xs e=>by obtain⟨i,z⟩:=hi d hd;rw[z] at e;cases e) (.type "str") (by decide) (by rfl) (fun d hd=>by obtain⟨i,z⟩:=hi d hd;rw[z];rfl)
 ·obtain⟨T,hT2,hT⟩:∃ T:Value,(T == T)=true/\∀ d r,D.tup (d::r)∈ds->tyD d=T/\Sim d d:=by
   cases hds:ds with
   | nil=>exact⟨.type "int",by rfl,fun d r z=>by cases z⟩
   | cons d0 ds0 =>
    obtain⟨e0,r0,rfl⟩:=hi d0 (by rw[hds];exact .head _);refine⟨tyD e0,xO e0,fun d r z=>?_⟩;have s1:=hom.1 _ (show D.tup (d::r)∈ds by rw[hds];exact z) (.tup (e0::r0)) (by rw[hds];exact .head _);have s2:=hom.1 _ (show D.tup (d::r)∈ds by rw[hds];exact z) (.tup (d::r)) (by rw[hds];exact z);exact⟨Aj s1.1,s2.1⟩
  refine⟨tuples' (T != Value.type "tuple"),fun h2 h' kp E Q q=>?_,fun h' kp i j C hi' hj q=>?_⟩
  ·obtain⟨fs,k,l,m⟩:=kat_tups I kp hD rv hi;refine W.kat_kind k (by lia) (T:=T) (fun v hv=>?_) hT2 q;obtain⟨x,d,r,z1,z2,z3⟩:=m v hv;obtain⟨t1,t2⟩:=hT d r z3;rw[← t1];exact lK I kp t2 z1 z2
  ·obtain⟨x,v,e1,e2,e3,e4,e5,e6⟩:=at3 (i:=i) hD rv (by lia);obtain⟨y,u,f1,f2,f3,f4,f5,f6⟩:=at3 (i:=j) hD rv (by lia);unfold W.kas_ask;rw[e3,f3];have hq:C (dlt (ds.getD i .non) (ds.getD j .non)) { s with heap:=h' }:=q;obtain⟨d1,r1,E1⟩:=hi _ e6;obtain⟨d2,r2,E2⟩:=hi _ f6;have sh1:=hsh _ e6;have sh2:=hsh _ f6;have sm:=hom.1 _ e6 _ f6;rw[E1] at e4 e6 hq sh1 sm;rw[E2] at f4 f6 hq sh2 sm;obtain⟨a1,w1,rfl,ha1,hda1⟩:=aN e4;obtain⟨a2,w2,rfl,ha2,hda2⟩:=aN f4;cases e5;cases f5;obtain⟨its1,v1,⟨o1,eo1,ec1,n1,ed1⟩,_⟩:=I.tuple (SqT.of (K:=X.K) ha1);obtain⟨its2,v2,⟨o2,eo2,ec2,n2,ed2⟩,_⟩:=I.tuple (SqT.of (K:=X.K) ha2);have k1:=hda1.len;have k2:=hda2.len;have k3:=v1.length;have k4:=v2.length;have cm:=Mv I (s':={ s with heap:=h' }) kp 49;have each:∀(k:Nat)(p q:Value),(its1.zip its2)[k]?=some (p,q)->∃(x y:V),Den H x ((d1::r1).getD k .non)/\Den H y ((d2::r2).getD k .non)/\RelV x p/\RelV y q/\Sim ((d1::r1).getD k .non) ((d2::r2).getD k .non)/\cN 49 ((d1::r1).getD k .non)/\cN 49 ((d2::r2).getD k .non):=by
    intro k p q hz;rw[getElem?_zip_eq_some] at hz;have b1:=(Wt.mp hz.1).1;have b2:=(Wt.mp hz.2).1;obtain⟨x1,p1,_,g1,_,g2,g3,g4⟩:=at3 (i:=k) hda1 v1 (by lia);obtain⟨x2,p2,_,g1',_,g2',g3',g4'⟩:=at3 (i:=k) hda2 v2 (by lia);rw[hz.1] at g1;rw[hz.2] at g1';cases g1;cases g1';refine⟨x1,x2,g2,g2',g3,g3',sm.at_ (i:=k) ?_ ?_,(sh1.2 _ rfl).2 _ g4,(sh2.2 _ rfl).2 _ g4'⟩
    ·rw[Wv,Wr (by lia)];rfl
    ·rw[Wv,Wr (by lia)];rfl
   refine W.kat_lt (kp _ _ eo1) ed1 (kp _ _ eo2) ed2 (SO.Bv (e:=fun k=>eqD ((d1::r1).getD k .non) ((d2::r2).getD k .non)) (f:=fun k=>dlt ((d1::r1).getD k .non) ((d2::r2).getD k .non)) _ 0 (fun k p q z=>?_) (fun k p q z _ Q E hq=>?_) ?_)
   ·obtain⟨x,y,h1,h2,h3,h4,h5,h6,h7⟩:=each k p q z;rw[Nat.zero_add];exact(cm _ _ _ _ _ _ _ h6 h7 h5 h1 h2 h3 h4 (by simp only[Around.in1];lia)).1
   ·obtain⟨x,y,h1,h2,h3,h4,h5,h6,h7⟩:=each k p q z;rw[Nat.zero_add] at hq ⊢;have lt:=(cm _ _ X.A.in1.in1 _ _ _ _ h6 h7 h5 h1 h2 h3 h4 (by simp only[Around.in1];lia)).2;cases hb:(T != Value.type "tuple") && k == 0 with
    | false=>exact uy lt Q E hq
    | true =>
     rw[Bool.and_eq_true,beq_iff_eq] at hb;obtain⟨hb,rfl⟩:=hb;have t1:=hT d1 r1 e6;exact lQ h5 h1 h2 h3 h4 (show ∀ ds,d1≠.tup ds from Bb t1.2 (by rw[t1.1];exact hb)) Q E hq
   ·have hl:=lD (d1::r1) (d2::r2);have e:List.range' 0 (its1.toArray.toList.zip its2.toArray.toList).length=List.range (min (d1::r1).length (d2::r2).length):=by
     rw[List.range_eq_range'];congr 1;simp only[length_zip];lia
    have ef:decide (its1.toArray.size<its2.toArray.size)=decide ((d1::r1).length<(d2::r2).length):=by
     rw[show its1.toArray.size=(d1::r1).length by simp at k1 k3 ⊢;lia,show its2.toArray.size=(d2::r2).length by simp at k2 k4 ⊢;lia]
    rw[e,ef,hl];rw[Aq] at hq;exact hq
end
end L2
set_option maxHeartbeats 4000000
namespace L2
open PySem PySem.Spec PyProof.Rows
theorem sI:∀ as:List Addr,Vals (as.map V.ref) (as.map Value.ref)
 | []=>.nil
 | _::as=>.cons rfl (sI as)
theorem wK:∀ {p:List Int}{vs:List V},bL H vs (p.map D.int)->vs=p.map V.int
 | [],[],_=>rfl
 | i::p,v::vs,h=>by
  obtain⟨h1,h2⟩:=h;rw[show v=V.int i from h1,wK h2]
  rfl
 | [],_::_,h=>h.elim
 | _::_,[],h=>h.elim
end L2
namespace ST
open PySem PySem.SetTable
structure Jl{α:Type}(w:World)(pl:Bool)(ent:α × Tok->Int × Value)(h:Heap)(S:Addr)(ns:List α):Prop where
 ex:∃(o:Obj)(es:Array (Int × Value))(ep:Nat)(t:SetTable)(kts:List (α × Tok)),h.get? S=some o/\o.ExactSet/\o.data=.set es ep t/\TOk t es.size/\es.size*5<t.mask*3/\(pl=true->t.plain=true)/\(w.params.followText "set-order" = true\/t.led=true)/\t.mask<=9000/\(kts.map (·.1)).Perm ns/\es.toList=kts.map ent
def zJ{α:Type}[DecidableEq α](ns:List α)(k:α):List α:=if k∈ns then ns else k::ns
def Jl.keep{α:Type}{ent:α × Tok->Int × Value}{ns:List α}(x:Jl w pl ent h S ns)(hS:∀ o,h.get? S=some o->h'.get? S=some o):Jl w pl ent h' S ns:=by
 obtain⟨o,es,ep,t,kts,ho,r⟩:=x.ex;exact⟨o,es,ep,t,kts,hS o ho,r⟩
def Jl.new{α:Type}{pl:Bool}{ent:α × Tok->Int × Value}{led:Bool}(hl:w.params.followText "set-order" = true\/led=true)(e:h.get? S=some { cls:=.type "set",dict:=none,data:=.set #[] 0 (.fresh 0 0 led) }):Jl w pl ent h S [] :=
 ⟨_,#[],0,.fresh 0 0 led,[],e,⟨rfl,rfl,rfl⟩,rfl,⟨⟨3,rfl⟩,rfl,rfl,by show 0<=7;decide,by show 7%2=1;rfl,Up.nil⟩,by show 0*5<7*3;decide,fun _=>rfl,hl,by show 7<=9000;decide,.refl _,rfl⟩
def Ob(hT:TOk t es.size)(hrm:es.size*5<t.mask*3):∃ j,t.slot j=.empty/\layNew t es h x=(insertAt es (t.put j).2 (h,x),(t.put j).1,false,false):=by
 obtain⟨c1,c2,c3⟩:=rF t h;obtain⟨d,hd1,hD⟩:=hT.dist c1 c2;have hfr:t.freeSlot h=some ((adv t d (t.probeStart h)).j,false):=by
  unfold SetTable.freeSlot;have:t.probe (fun _=>h+1) h (t.probeStart h)=some (.empty (adv t d (t.probeStart h)).j none):=by
   unfold SetTable.probe;rcases w6 hT.d (hashAt:=fun _=>h+1) (h:=h) d (10*turns t.mask) (t.probeStart h) hD (by unfold turns;lia) with z | ⟨e,i,_,_,z,_⟩
   ·rw[z,c3]
   ·have z:=z;lia
  rw[this]
  rfl
 refine⟨_,hD.1,?_⟩;unfold layNew;rw[hfr];dsimp only;have hf:(t.put (adv t d (t.probeStart h)).j).1.fits (insertAt es (t.put (adv t d (t.probeStart h)).j).2 (h,x)).size=true:=by
  unfold SetTable.fits SetTable.fill;have e1:(t.put (adv t d (t.probeStart h)).j).1.dummies = #[]:=by
   show(if SetTable.has t.dummies _ then _ else t.dummies) = #[];rw[hT.d]
   rfl
  have e2:(t.put (adv t d (t.probeStart h)).j).1.place.size=es.size+1:=by
   show(SetTable.insertAt t.place _ _).size=_;rw[dF,hT.sz]
  have e3:(t.put (adv t d (t.probeStart h)).j).1.mask=t.mask:=rfl;rw[e1,e2,e3,dF];simp;lia
 unfold SetTable.orStandIn;rw[if_pos hf,hf]
 rfl
section
variable {prog:Program}{w:World}{A:Around}{E:Value->Shared->Prop}{s:Shared}
def G5{α:Type}[DecidableEq α]{knd:KeyKind prog w α}{ent:α × Tok->Int × Value}{ns:List α}{k:α}{Q:Bool->Shared->Prop}(he:∀ p,(ent p).1=knd.hash p.1/\knd.is p.1 (ent p).2=true/\(ent p).2.scannable=true)
  (hby:∀ {β:Type}{A:Around}{s:Shared}{K:Bool->Sem β}{Q:β->Shared->Prop},(∀ b,(pl=true->b=true)->wpAny (model prog w) A (K b) Q E s)->wpAny (model prog w) A (hashByValue 8 (ent (k,tk)).2 >>= K) Q E s)(hS:Jl w pl ent s.heap S ns)(hz:ns.length+1<=1002)
  (h:∀(b:Bool)(h':Heap),Heap.SameBut S s.heap h'->Jl w pl ent h' S (zJ ns k)->Q b { s with heap:=h' }):wpAny (model prog w) A (setAddHashed S (ent (k,tk)).2 (knd.hash k)) Q E s:=by
 obtain⟨o,es,ep,t,kts,ho,hex,hd,hT,hrm,hpl,hld,hmk,hp,hE⟩:=hS.ex;have ek:ent (k,tk)=(knd.hash k,(ent (k,tk)).2):=Prod.ext (he _).1 rfl;have hx:=he (k,tk);generalize (ent (k,tk)).2=x at ek hx hby ⊢;have hsz:es.size=ns.length:=by
  have:=congrArg List.length hE;rw[WK,Xa] at this;have h2:=hp.length_eq;rw[Xa] at h2;lia
 have hf:t.fits es.size=true:=by
  unfold SetTable.fits SetTable.fill;rw[hT.d,hT.sz];have:=hT.room;simp;exact this
 have hel:ElemsOf knd es.toList:=fun e hm=>by
  rw[hE] at hm;obtain⟨p,_,rfl⟩:=mem_map.mp hm;exact⟨⟨p.1,(he p).2.1,(he p).1⟩,(he p).2.2⟩
 unfold setAddHashed setAddHashedIn;refine WW (Wo (wpAny_setState_of ho hd hf ?_));dsimp only;rw[byScan_of (knd:=knd) hx.2.2 (by unfold scanBound;lia) hel];simp only[↓reduceIte];unfold setAddByScan;refine Wo ?_;refine Wo (wpAny_rule ?_);refine Wo (wpAny_setScan_of hx.2.1 ho hd hf hel ?_);have hmem:(∃ e∈es.toList,knd.is k e.2=true)↔k∈ns:=by
  constructor
  ·rintro⟨e,hm,z⟩;rw[hE] at hm;obtain⟨p,hpm,rfl⟩:=mem_map.mp hm;exact hp.mem_iff.mp (mem_map.mpr ⟨p,hpm,knd.inj _ _ _ (he p).2.1 z⟩)
  ·intro z;obtain⟨p,hpm,e⟩:=mem_map.mp (hp.mem_iff.mpr z);exact⟨ent p,by rw[hE];exact mem_map_of_mem hpm,by rw[← e];exact(he p).2.1⟩
 cases hr:List.findIdx? (fun e=>knd.is k e.2) es.toList with
 | some j =>
  obtain⟨hj,hpj,_⟩:=List.findIdx?_eq_some_iff_getElem.mp hr;have hk:=hmem.mp ⟨_,getElem_mem hj,hpj⟩;refine Wq (Wq ?_);have e:s={ s with heap:=s.heap }:=by cases s;rfl
  have:=h false s.heap (Heap.SameBut.refl S s.heap) (by unfold zJ;rw[if_pos hk];exact hS);rw[e];exact this
 | none =>
  have hk:k ∉ ns:=fun z=>by
   obtain⟨e,he,z⟩:=hmem.mpr z;have:=List.findIdx?_eq_none_iff.mp hr e he;rw[z] at this;exact Bool.noConfusion this
  have hadd:zJ ns k=k::ns:=if_neg hk;obtain⟨j,hje,hL⟩:=Ob hT hrm;rw[hL];dsimp only;have hput:(t.put j).1.mask=t.mask/\(t.put j).1.dummies = #[]/\(t.put j).1.place.size=es.size+1/\(pl=true->(t.put j).1.plain=true)/\(t.put j).1.led=t.led/\Up (t.put j).1.place:=by
   refine⟨rfl,?_,?_,hpl,rfl,tD hT.up (pO hje)⟩
   ·show(if SetTable.has t.dummies j then _ else t.dummies) = #[];rw[hT.d]
    rfl
   ·show(SetTable.insertAt t.place _ j).size=_;rw[dF,hT.sz]
  obtain⟨m1,m2,m3,m4,m5,m6⟩:=hput;have hs1:=dF es (t.put j).2 (knd.hash k,x);have hp1:=je es (t.put j).2 (knd.hash k,x);generalize SetTable.insertAt es (t.put j).2 (knd.hash k,x)=es1 at hs1 hp1 ⊢;generalize (t.put j).1=t0 at m1 m2 m3 m4 m5 m6 ⊢;have hln:es1.size<=sizeLine:=by rw[sizeLine_eq];lia
  refine Wo (Wq ?_)
  suffices fin:∀ bv:Bool,(pl=true->bv=true)->_ by
   split
   ·exact hby fin
   ·exact Wo (Wq (fin _ fun _=>rfl))
  intro bv hbv;generalize et:(if bv=true then t0 else { t0 with plain:=false })=t1;replace m1:t1.mask=t.mask:=by rw[← et,← m1];cases bv <;> rfl
  replace m2:t1.dummies = #[]:=by rw[← et,← m2];cases bv <;> rfl
  replace m3:t1.place.size=es.size+1:=by rw[← et,← m3];cases bv <;> rfl
  replace m4:pl=true->t1.plain=true:=fun z=>by rw[← et,if_pos (hbv z)];exact m4 z
  replace m5:t1.led=t.led:=by rw[← et,← m5];cases bv <;> rfl
  replace m6:Up t1.place:=by rw[← et];cases bv <;> exact m6
  refine Wo (wpAny_storeSet_of ho hd ?_ hln);have hg1:(s.heap.update S (Obj.putSet es1 t1)).get? S=some { o with data:=.set es1 (ep+1) t1 }:=by
   have:=Heap.get?_update_self (Obj.putSet es1 t1) ho (by rw[putSet_of es1 t1 hd];rfl);rw[putSet_of es1 t1 hd] at this;exact this
  have hsb1:=Heap.SameBut.update s.heap S (Obj.putSet es1 t1);have hent:∀(es2:Array (Int × Value)),es2.toList.Perm es1.toList->∃ kts2:List (α × Tok),(kts2.map (·.1)).Perm (zJ ns k)/\es2.toList=kts2.map ent:=fun es2 hpe=>by
   have hpm:es2.toList.Perm (((k,tk)::kts).map ent):=by
    refine(hpe.trans hp1).trans ?_;rw[map_cons,hE,ek]
   obtain⟨kas2,k1,k2⟩:=fQ hpm.symm rfl;refine⟨kas2,(k1.map (·.1)).trans ?_,k2⟩;rw[hadd,map_cons];exact hp.cons _
  have hodd:t1.mask%2=1:=by rw[m1];exact hT.o
  have hpow:∃ k,t1.mask+1=2^k:=by rw[m1];exact hT.k
  have hle:es1.size<=t1.mask:=by rw[m1,hs1];have:=hT.o;lia
  have hfl:t1.fill=es1.size:=by
   unfold SetTable.fill;rw[m2,m3,hs1]
   rfl
  by_cases htf:t1.tooFull=true
  ·rw[if_pos (by rw[htf];rfl)];have hgr:SetTable.grown es1.size=es1.size*4:=by
    unfold SetTable.grown;rw[if_neg (by lia)]
   obtain⟨t2,order,r1,r2,r3,r4,r5,r6,r7⟩:=tO (hashes:=es1.map (·.1)) (wanted:=es1.size*4) (by lia) (by rw[Array.size_map];lia) (by lia);rw[Array.size_map] at r2 r3;have hes2:(order.filterMap (es1[·]?)).toList.Perm es1.toList:=by
    rw[Array.toList_filterMap];refine(r3.filterMap _).trans ?_;have:=W.krv_all es1;rw[this]
   have hsz2:(order.filterMap (es1[·]?)).size=es1.size:=by
    have:=hes2.length_eq;rw[WK,WK] at this;exact this
   have hrl:relayAll t1 es1 (SetTable.grown es1.size)=(order.filterMap (es1[·]?),t2,false):=by
    unfold relayAll;rw[hgr,r1];dsimp only;have c1:coversAll order es1.size=true:=by
     unfold coversAll;exact List.isPerm_iff.mpr r3
    have c2:t2.fits (order.filterMap (es1[·]?)).size=true:=by
     unfold SetTable.fits SetTable.fill;rw[r2.d,r2.sz,hsz2];have:=r2.room;simp;exact this
    rw[if_pos (by rw[c1,c2];rfl)]
   rw[hrl];refine Wo (Wq ?_);generalize order.filterMap (es1[·]?)=es2 at hes2 hsz2;refine Wo (wpAny_storeSet_of hg1 rfl ?_ (by rw[hsz2];exact hln));have hg2:((s.heap.update S (Obj.putSet es1 t1)).update S (Obj.putSet es2 t2)).get? S=some { o with data:=.set es2 (ep+1+1) t2 }:=by
    have:=Heap.get?_update_self (Obj.putSet es2 t2) hg1 rfl;exact this
   have hsb2:=hsb1.trans (Heap.SameBut.update _ S (Obj.putSet es2 t2));obtain⟨kas2,k1,k2⟩:=hent es2 hes2;refine Wq (Wq (h true _ hsb2 ⟨_,es2,_,t2,kas2,hg2,hex,rfl,by rw[hsz2];exact r2,by rw[hsz2];lia,fun z=>by rw[r4];exact m4 z,by rw[r5,m5];exact hld,by lia,k1,k2⟩))
  ·rw[if_neg (by simpa using htf)];obtain⟨kas2,k1,k2⟩:=hent es1 (List.Perm.refl _);have hr1:es1.size*5<t1.mask*3:=by
    unfold SetTable.tooFull at htf;rw[hfl] at htf;simp at htf;exact htf
   refine Wq (Wq (h true _ hsb1 ⟨_,es1,_,t1,kas2,hg1,hex,rfl,⟨hpow,m2,by rw[m3,hs1],hle,hodd,m6⟩,hr1,m4,by rw[m5];exact hld,by rw[m1];exact hmk,k1,k2⟩))
end
def QF(p:Int × Tok):Int × Value:=(hashInt p.1,.int p.1 p.2)
abbrev Ka(w:World)(h:Heap)(S:Addr)(ns:List Int):Prop:=Jl w true QF h S ns
section
variable {prog:Program}{w:World}{A:Around}{E:Value->Shared->Prop}{s:Shared}
def add_int{Q:Bool->Shared->Prop}(hS:Ka w s.heap S ns)(hz:ns.length+1<=1002)
  (h:∀(b:Bool)(h':Heap),Heap.SameBut S s.heap h'->Ka w h' S (zJ ns k)->Q b { s with heap:=h' }):wpAny (model prog w) A (setAddHashed S (.int k tk) (hashInt k)) Q E s :=
 G5 (knd:=intKind prog w) (ent:=QF) (fun p=>⟨rfl,by show Value.isInt p.1 (.int p.1 p.2)=true;simp[Value.isInt],rfl⟩) (fun h=>Wo (Wq (h true fun _=>rfl))) hS hz h
end
end ST
namespace SX
open PySem PySem.Spec PyProof.Rows
def zL(val:Nat->Int):Nat->List Int
 | 0=>[]
 | i+1=>ST.zJ (zL val i) (val i)
theorem lM{val:Nat->Int}:∀ {i:Nat},(zL val i).length<=i
 | 0=>Wu _
 | i+1=>by
  have:=lM (val:=val) (i:=i);show(ST.zJ (zL val i) (val i)).length<=i+1;unfold ST.zJ;split
  ·lia
  ·rw[length_cons];lia
def jB{E:Value->Shared->Prop}{val:Nat->Int}{Q:Value->Shared->Prop}
  (hd:A.handled=none)(tl:s.heap.IsTuple l items\/s.heap.IsList l items)(hv:∀(i:Nat)(v:Value),items[i]?=some v->∃ t,v=Value.int (val i) t)(room:items.size+1<=1002)
  (q:∀(g:Heap)(tk:Nat),ST.Ka w g s.heap.objs.size (zL val items.size)->(∀ b o,b<s.heap.objs.size->s.heap.get? b=some o->g.get? b=some o)->Q (.ref s.heap.objs.size) { s with heap:=g,toks:=tk }) :
  wpAny (model prog w) A (call (.type "set") [.ref l]) Q E s:=by
 refine um (SS:=fun i h=>ST.Ka w h s.heap.objs.size (zL val i)) hd tl (fun i h h' hS hs _=>hS.keep hs) (fun A' i v s' E' Q' _ hi hP hS ho hq=>?_) (fun led h hl e _=>.new hl e) fun g tk hS kp=>q g tk hS kp
 obtain⟨t,rfl⟩:=hv i v hP;unfold setAdd;refine WW (Wo (wpAny_pyHash_int ?_));have hl:=lM (val:=val) (i:=i);exact ST.add_int hS (by lia) fun b g sb hS2=>hq b g _ (Nat.le_add_right _ _) sb hS2
end SX
namespace L2
open PySem PySem.Spec PyProof.Rows
def ExcAt(cls:Value)(T e:Addr)(h:Heap):Prop:=∃ oe vs a0,h.get? e=some oe/\oe.cls=cls/\oe.data=.fields vs/\vs[0]?=some a0/\vs[1]?=some (.ref T)
def Bw(T:Addr)(h:Heap):Prop:=∃ oT ts,h.get? T=some oT/\oT.data=.fields ts/\ts[3]?=some .none
def oV(cls:Value)(T e:Addr):HO:=.ext (ExcAt cls T e)
def TrO(T:Addr):HO:=.ext (Bw T)
def La(x:ExcAt cls T e h):cM P w H h e (oV cls T e):=by
 refine⟨x,?_,fun h1 h2 p k=>?_⟩
 ·obtain⟨oe,_,_,he,_⟩:=x;exact⟨oe,he⟩
 ·obtain⟨oe,vs,a0,he,r⟩:=p;exact⟨oe,vs,a0,k oe he,r⟩
def Af(x:Bw T h):cM P w H h T (TrO T):=by
 refine⟨x,?_,fun h1 h2 p k=>?_⟩
 ·obtain⟨oe,_,he,_⟩:=x;exact⟨oe,he⟩
 ·obtain⟨oe,vs,he,r⟩:=p;exact⟨oe,vs,k oe he,r⟩
def CX1(P:Program)(w:World):CXT:=fun outer H s E e s'=>∃(ea T:Addr)(cls:Value)(H':Hp),e=.ref ea/\T≠ea/\s'.os=s.os/\AllBare s'.gens/\Un (frs outer) [] H H' s.heap s'.heap/\HOk P w H' s'.heap /\
 H' ea=some (oV cls T ea)/\H' T=some (TrO T)/\E cls (some ea) H'
section
variable {M:Model}{A:Around}{E:Value->Shared->Prop}{s:Shared}{base:Heap}{env:Env}{outer:List Env}{L e:Addr}
structure Left(fs:List Addr)(e:Addr)(cls:Value)(T:Addr)(h h':Heap):Prop where
 keep:∀ b o,h.get? b=some o->b ∉ fs->b≠e->h'.get? b=some o
 slot:∀ b o,h.get? b=some o->b∈fs->∃ sl,h'.get? b=some { o with slots:=sl }
 new:h.get? T=none
 ne:T≠e
 exc:ExcAt cls T e h'
 tr:Bw T h'
def j9{base B h:Heap}{l:List Env}(hl:h.FunFrames base l)(hB:∀ b∈frs l,B.get? b=none):h.FunFrames B l:=by
 induction l with
 | nil=>trivial
 | cons env r ih =>
  obtain⟨hk,⟨L,o,hf,hn,ho,hd⟩,hr⟩:=hl;refine⟨hk,⟨L,o,hf,hB L ?_,ho,hd⟩,ih hr fun b hb=>hB b ?_⟩
  ·unfold frs;rw[filterMap_cons,hf];exact WQ
  ·unfold frs;rw[filterMap_cons,hf];exact WR _ hb
def Ax(hl:s.heap.FunFrames base (env::outer))
  (x:Heap.LeftW (W.hideAll s.heap (e::frs (env::outer))) (env::outer) e cls a0 s.heap h'):∃ T,Left (frs (env::outer)) e cls T s.heap h':=by
 obtain⟨k1,k2,⟨oe,vs,T,oT,ts,he,⟨hc,h0⟩,hd,h1,hnT,hTe,hT,hdT,h3⟩,k4⟩:=x;refine⟨T,fun b o hb hn hne=>k1 b o (W.hideAll_get _ hb fun z=>?_),fun b o hb hm=>?_,?_,hTe,⟨oe,vs,a0,he,hc,hd,h0,h1⟩,⟨oT,ts,hT,hdT,h3⟩⟩
 ·rcases mem_cons.mp z with z | z
  ·exact hne z
  ·exact hn z
 ·obtain⟨_,o',ho',hnf⟩:=hl.mem hm;rw[hb] at ho';cases ho';exact k4 b o hb hnf
 ·cases q:s.heap.get? T with
  | none=>rfl
  | some o =>
   exfalso;by_cases hm:T∈frs (env::outer)
   ·obtain⟨_,o',ho',hnf⟩:=hl.mem hm;obtain⟨sl,e1⟩:=k4 T o' ho' hnf;rw[hT] at e1;cases e1;exact hnf ts hdT
   ·have:=W.hideAll_get (e::frs (env::outer)) q fun z=>(mem_cons.mp z).elim hTe hm
    rw[hnT] at this;cases this
def uZ{oe:Obj}{vs:Array Value}{a0:Value}{Q:Unit->Shared->Prop}(hfr:A.frames=some (env::outer))(hl:s.heap.FunFrames base (env::outer))(hf:env.frame=some L)
  (he:s.heap.get? e=some oe)(hd:oe.data=.fields vs)(h1:vs[1]?=some .none)(h0:vs[0]?=some a0)
  (h:∀ h' T,Left (frs (env::outer)) e oe.cls T s.heap h'->Q () { s with heap:=h' }):wpAny M A (leaving env (.ref e)) Q E s:=by
 refine wpAny_leaving_firstW hfr (j9 hl fun b hb=>W.hideAll_none _ (WR _ hb)) hf he (fun b o hb=>W.of_hideAll _ hb) (W.hideAll_none _ WQ) hd h1 h0 fun h' x=>?_
 obtain⟨T,y⟩:=Ax hl x;exact h h' T y
def sV{cls:Value}{T:Addr}{Q:Unit->Shared->Prop}(hfr:A.frames=some (env::outer))(hl:s.heap.FunFrames base (env::outer))(hf:env.frame=some L)
  (hx:ExcAt cls T e s.heap)(hT:Bw T s.heap)(hTe:T≠e)
  (h:∀ h1 h' T',(∀ b,b≠T->h1.get? b=s.heap.get? b)->Bw T h1->Left (frs (env::outer)) e cls T' h1 h'->Q () { s with heap:=h' }):wpAny M A (noteFrame (.ref e) env) (fun _ s'=>wpAny M A (setFlight (.ref e) none) Q E s') E s:=by
 obtain⟨oe,vs,a0,he,hcls,hd,h0,h1⟩:=hx;obtain⟨oT,ts,hT,hdT,h3⟩:=hT;subst hcls;unfold noteFrame;simp only[hf];refine Wo (wpAny_field he hd h1 ?_);rw[if_pos (show(Value.ref T != Value.none)=true from by simp)];refine Wo (wpAny_field hT hdT h3 ?_);rw[if_neg (show ¬ ((Value.none == rawInt L)=true) from by simp[rawInt])];refine Wo (wpAny_setField hT hdT (Array.getElem?_eq_some_iff.mp h3).1 ?_);have other:∀ b,b≠T->(s.heap.update T (Obj.mapFields (·.setIfInBounds 3 Value.none))).get? b=s.heap.get? b:=fun b hb=>Heap.get?_update_other _ _ (Ne.symm hb)
 have noRecord:∀ b o,s.heap.get? b=some o->(∀ vs,o.data≠.fields vs)->b≠T:=fun b o hb hnf q=>by
  rw[q,hT] at hb;injection hb with hb;subst hb;exact hnf ts hdT
 have hl1:=hl.of_keeps fun b o hb hnf=>⟨o,(other b (noRecord b o hb hnf)).trans hb,rfl⟩
 have hT1:Bw T (s.heap.update T (Obj.mapFields (·.setIfInBounds 3 Value.none))) :=
  ⟨_,_,Heap.get?_update_self _ hT (Obj.isFreed_of_fields (Obj.data_mapFields hdT _)),Obj.data_mapFields hdT _,by simp[(Array.getElem?_eq_some_iff.mp h3).1]⟩
 refine wpAny_newEntryW hfr (j9 hl1 fun b hb=>W.hideAll_none _ (WR _ hb)) hf ((other e (Ne.symm hTe)).trans he)
  (fun b o hb=>W.of_hideAll _ hb) (W.hideAll_none _ WQ) hd (Array.getElem?_eq_some_iff.mp h1).1 h0 fun h' x=>?_
 obtain⟨T',y⟩:=Ax hl1 x;exact h _ h' T' other hT1 y
def yG{Q:Unit->Shared->Prop}(hfr:A.frames=some (env::outer))(hl:s.heap.FunFrames base (env::outer))(hf:env.frame=some L)
  (hx:ExcAt cls T e s.heap)(hT:Bw T s.heap)(hTe:T≠e)
  (h:∀ h1 h' T',(∀ b,b≠T->h1.get? b=s.heap.get? b)->Bw T h1->Left (frs (env::outer)) e cls T' h1 h'->Q () { s with heap:=h' }):wpAny M A (leaving env (.ref e)) Q E s:=by
 unfold leaving;exact Wo (sV hfr hl hf hx hT hTe h)
end
def cM.has(x:cM P w H h a o):∃ u,h.get? a=some u:=by
 cases o with
 | lst xs=>obtain⟨_,_,_,_,e⟩:=x;exact⟨_,e⟩
 | tup xs=>obtain⟨_,_,_,ob,e,_⟩:=x;exact⟨_,e⟩
 | dK kvs=>obtain⟨_,_,_,_,ob,_,_,e,_⟩:=x;exact⟨_,e⟩
 | dT kvs=>obtain⟨_,_,_,_,ob,_,_,e,_⟩:=x;exact⟨_,e⟩
 | set S n=>obtain⟨ob,_,_,_,e,_⟩:=x;exact⟨_,e⟩
 | ins C dx fs=>obtain⟨_,_,_,e,_⟩:=x;exact⟨_,e⟩
 | own y=>exact x
 | xd fs=>obtain⟨_,⟨ob,_,_,e,_⟩,_⟩:=x;exact⟨_,e⟩
 | rng lo hi=>obtain⟨_,_,_,e⟩:=x;exact⟨_,e⟩
 | frz ob u=>exact⟨_,x.1⟩
 | tbl ps=>exact⟨_,x⟩
 | met f y=>exact⟨_,x⟩
 | ext φ=>exact x.2.1
def HOk.new(x:HOk P w H h)(e:h.get? a=none):H a=none:=by
 cases q:H a with
 | none=>rfl
 | some u =>
  obtain⟨o,z⟩:=(x a u q).has;rw[e] at z;cases z
abbrev xH(H:Hp)(T e:Addr)(cls:Value):Hp:=upd (upd H T (TrO T)) e (oV cls T e)
def Qg(h:T≠e):xH H T e cls T=some (TrO T):=by
 show upd (upd H T (TrO T)) e (oV cls T e) T=_;rw[aF h];exact ak
section
variable {P:Program}{w:World}{fs:List Addr}{e T T0:Addr}{cls:Value}{H:Hp}{h0 h1 h':Heap}
def Left.un(x:Left fs e cls T h1 h')(hok:HOk P w H h0)(hfs:∀ b∈fs,H b=none)(k:∀ b o,h0.get? b=some o->b≠T0->h1.get? b=some o)(kn:∀ b,h1.get? b=none->h0.get? b=none)
  (e1:∀ o,h0.get? e=some o->∃ T1,H e=some (oV cls T1 e))(t1:T0=e\/(H T0=some (TrO T0)/\Bw T0 h1)):Un fs [] H (xH H T e cls) h0 h'/\HOk P w (xH H T e cls) h':=by
 have hT0:=kn T x.new;have hTn:=hok.new hT0;have exx:∀ u,H e=some u->∃ T1,u=oV cls T1 e:=fun u q=>by
  obtain⟨o,z⟩:=(hok e u q).has;obtain⟨T1,r⟩:=e1 o z;rw[r] at q;cases q;exact⟨T1,rfl⟩
 have gen:∀ b u,H b=some u->(∀ φ,u≠.ext φ)->xH H T e cls b=some u:=fun b u q ne=>by
  have hbe:b≠e:=fun z=>by
   subst z;obtain⟨T1,r⟩:=exx u q;exact ne _ r
  have hbT:b≠T:=fun z=>by subst z;rw[hTn] at q;cases q
  show upd (upd H T (TrO T)) e (oV cls T e) b=some u;rw[aF hbe,aF hbT];exact q
 have ke:∀ b o,h0.get? b=some o->H b=none->b≠e:=fun b o q n z=>by
  subst z;obtain⟨T1,r⟩:=e1 o q;rw[n] at r;cases r
 have kT:∀ b o,h0.get? b=some o->H b=none->b≠T0:=fun b o q n z=>by
  rcases t1 with r | ⟨r,_⟩
  ·exact ke b o q n (z.trans r)
  ·subst z;rw[n] at r;cases r
 have on:∀ b o,h1.get? b=some o->b≠e->∃ o',h'.get? b=some o':=fun b o q hbe=>by
  by_cases hb:b∈fs
  ·obtain⟨sl,z⟩:=x.slot b o q hb;exact⟨_,z⟩
  ·exact⟨o,x.keep b o q hb hbe⟩
 refine⟨⟨fun b o q n hb _=>x.keep b o (k b o q (kT b o q n)) hb (ke b o q n),fun b o q n hb _=>x.slot b o (k b o q (kT b o q n)) hb,fun b o q n _=>?_,fun b o q _=>?_,fun b xs q=>gen b _ q fun φ z=>(nomatch z),fun b o u q=>gen b _ q fun φ z=>(nomatch z),fun b ps q=>⟨#[],by rw[gen b _ q fun φ z=>(nomatch z)];simp⟩⟩,fun b u q=>?_⟩
 ·have hbT:b≠T:=fun z=>by subst z;rw[hT0] at q;cases q
  show upd (upd H T (TrO T)) e (oV cls T e) b=none;rw[aF (ke b o q n),aF hbT];exact n
 ·by_cases hbe:b=e
  ·subst hbe;obtain⟨oe,_,_,z,_⟩:=x.exc;exact⟨oe,z⟩
  ·by_cases hb0:b=T0
   ·subst hb0;rcases t1 with r | ⟨_,oT,_,z,_⟩
    ·exact absurd r hbe
    ·exact on b oT z hbe
   ·exact on b o (k b o q hb0) hbe
 ·by_cases hbe:b=e
  ·subst hbe;have:u=oV cls T b:=by
    have q':upd (upd H T (TrO T)) b (oV cls T b) b=some u:=q;rw[ak] at q';cases q';rfl
   subst this;exact La x.exc
  ·have q1:upd (upd H T (TrO T)) e (oV cls T e) b=some u:=q;rw[aF hbe] at q1;by_cases hbT:b=T
   ·subst hbT;rw[ak] at q1;cases q1;exact Af x.tr
   ·rw[aF hbT] at q1;have hbf:b ∉ fs:=fun z=>by rw[hfs b z] at q1;cases q1
    by_cases hb0:b=T0
    ·subst hb0;rcases t1 with r | ⟨r,oT,ts,z,y⟩
     ·exact absurd r hbe
     ·rw[r] at q1;cases q1;exact Af ⟨oT,ts,x.keep b oT z hbf hbe,y⟩
    ·refine(hok b u q1).stay (fun c v hc q2=>?_) (fun c q2=>gen c _ q2 fun φ z=>(nomatch z)) fun c xs q2=>gen c _ q2 fun φ z=>(nomatch z)
     rcases hc with rfl | hc
     ·exact x.keep c v (k c v q2 hb0) hbf hbe
     ·have hce:c≠e:=fun z=>by
       subst z;obtain⟨T1,r⟩:=exx _ hc;cases r
      have hc0:c≠T0:=fun z=>by
       rcases t1 with r | ⟨r,_⟩
       ·exact hce (z.trans r)
       ·subst z;rw[r] at hc;cases hc
      exact x.keep c v (k c v q2 hc0) (fun z=>by rw[hfs c z] at hc;cases hc) hce
variable {X:Cx}{pins:List (Addr × Obj)}{σ:St}{H':Hp}{s:Shared}
def Inv.out(I:Inv X pins σ H s)(hx:X.ex=[])(u:Un (frs X.stack) [] H H' s.heap h'):Un (frs X.outer) [] X.H₀ H' X.s₀.heap h':=by
 have hsub:∀ b∈X.fs,b∈frs X.stack:=fun b hb=>by
  rcases I.ok.stk with e | ⟨e,hf⟩
  ·rw[e];exact hb
  ·rw[e];unfold frs;rw[filterMap_cons,hf];exact WR _ hb
 have b0:=I.base;rw[hx] at b0;have t:=(b0.mono hsub fun _ z=>z).trans u;refine⟨fun b o q n hb hx=>t.keep b o q n (fun z=>?_) hx,fun b o q n hb hx=>t.slot b o q n (hsub b hb) hx,t.free,t.there,t.tups,t.frzs,t.tbls⟩;rcases mem_cons.mp (I.stkSub b z) with r | r
 ·subst r;exact absurd (WM (Ww q) I.ok.above) (Nat.lt_irrefl _)
 ·exact hb r
variable {K:W.Frag}{mg:Str->Option Value}{base:Heap}{N:List Str}{qual:Str}{scope:Scope}{f:Addr}{cd:Value}{A:Around}{outer:List Env}{s0:Shared}{H0:Hp}{E:XK}
 {pins:List (Addr × Obj)}{σ:St}{H:Hp}{s:Shared}
def vX(I:Inv (yE (CX1 P w) P w K mg base N qual scope f cd A outer s0 H0 E) pins σ H s)(hx:Heap.MadeExcOf s.heap h1 e cls args)
  (hE:∀ T,H e=none->H T=none->E cls (some e) (xH H T e cls)):(yE (CX1 P w) P w K mg base N qual scope f cd A outer s0 H0 E).xe (.ref e) { s with heap:=h1 }:=by
 have hl:=I.stack;have hl1:=hl.of_keeps fun b o hb _=>⟨o,hx.keeps b o hb,rfl⟩
 obtain⟨t,he,htn,ht⟩:=hx.there;refine uZ I.ok.frames hl1 rfl he rfl rfl rfl fun h' T x=>?_
 have kn:∀ b,h1.get? b=none->s.heap.get? b=none:=fun b q=>by
  cases z:s.heap.get? b with
  | none=>rfl
  | some o=>rw[hx.keeps b o z] at q;cases q
 have He:=I.hok.new hx.new;obtain⟨u,ok⟩:=x.un I.hok I.stkFree (fun b o q _=>hx.keeps b o q) kn (fun o q=>by rw[hx.new] at q;cases q) (.inl rfl);exact⟨e,T,cls,_,rfl,x.ne,I.os,I.bare,I.out rfl u,ok,ak,Qg x.ne,hE T He (I.hok.new (kn T x.new))⟩
def Kc(E1:XK)(hE:∀ cls e T H',H' e=some (oV cls T e)->E1 cls (some e) H'->∀ T',H' T'=none->E cls (some e) (xH H' T' e cls)):Passes (CX1 P w) (yE (CX1 P w) P w K mg base N qual scope f cd A outer s0 H0 E) E1:=by
 intro pins σ H s e s' I h;obtain⟨ea,T,cls,H',rfl,hTe,os,bare,un,ok,he,hT,q⟩:=h;have J:=I.call' os un ok bare fun b z=>absurd z (by simp)
 have a1:=(ok ea _ he).1;have a2:=(ok T _ hT).1;refine yG J.ok.frames J.stack rfl a1 a2 hTe fun h1 h' T' k1 k2 x=>?_
 have kn:∀ b,h1.get? b=none->s'.heap.get? b=none:=fun b q=>by
  by_cases hb:b=T
  ·subst hb;obtain⟨oT,_,z,_⟩:=k2;rw[z] at q;cases q
  ·rw[← k1 b hb];exact q
 obtain⟨u,ok'⟩:=x.un J.hok J.stkFree (fun b o q hb=>by rw[k1 b hb];exact q) kn (fun o _=>⟨T,he⟩) (.inr ⟨hT,k2⟩);exact⟨ea,T',cls,_,rfl,x.ne,J.os,J.bare,J.out rfl u,ok',ak,Qg x.ne,hE cls ea T H' he q T' (J.hok.new (kn T' x.new))⟩
end
abbrev vBm:List Value:=[.type "ValueError",.type "Exception",.type "BaseException",.type "object"]
def Al{K:W.Frag}{h:Heap}{C:Addr}{bmB:List Value}{newId:String}{x:Str}{mg:Str->Option Value}(X:K.In h)(hb:mg x=some (.ref C))(q:W.excIn K C bmB newId=true):OwnCls x C bmB newId mg h:=by
 refine⟨hb,?_⟩;unfold W.excIn at q;split at q
 ·rename_i dd cd sl ho;split at q
  ·rename_i C' bm k0 k1 k2 k3 n k5 hm hs;simp only[Bool.and_eq_true,beq_iff_eq,Bool.not_eq_true'] at q;obtain⟨⟨⟨⟨⟨h1,h2⟩,h3⟩,h4⟩,h5⟩,h6⟩:=q;subst h1;subst h2;have e1:=Array.toList_inj.mp hs;subst e1;have e2:cd={ name:=cd.name,bases:=cd.bases,mro:=.ref C'::bm,ns:=cd.ns,qualname:=cd.qualname,hasDict:=cd.hasDict,slotNames:=cd.slotNames,subclasses:=cd.subclasses,abstract:=cd.abstract,collection:=cd.collection,hasDel:=false }:=by
    rw[← hm,← h3]
   have e3:=X _ _ ho;rw[e2] at e3;exact⟨bm,cd.ns,cd.name,cd.qualname,cd.bases,cd.hasDict,cd.slotNames,cd.subclasses,cd.abstract,cd.collection,dd,k0,k1,k2,k3,k5,_,e3,.of_isNs (W.isNs_of_in X h5),W.nsMap_none_of_in X h5 h6,W.tail_of_in X h4⟩
  ·cases q
 ·cases q
def Throws(X:Cx)(E:XK):Prop:=∀(pins:List (Addr × Obj))(σ:St)(H:Hp)(s:Shared)(e:Addr)(h1:Heap)(cls:Value)(args:List Value),Inv X pins σ H s->Heap.MadeExcOf s.heap h1 e cls args ->
 (∀ T,H e=none->H T=none->E cls (some e) (xH H T e cls))->X.xe (.ref e) { s with heap:=h1 }
def Eh{P:Program}{w:World}{K:W.Frag}{mg:Str->Option Value}{base:Heap}{N:List Str}{qual:Str}{scope:Scope}{f:Addr}{cd:Value}{A:Around}{outer:List Env}{s0:Shared}{H0:Hp}{E:XK} :
  Throws (yE (CX1 P w) P w K mg base N qual scope f cd A outer s0 H0 E) E:=fun _ _ _ _ _ _ _ _ I hx hE=>vX I hx hE
def Mi(C:Addr)(E:XK)(t:TA):TS:=fun _ σ H=>t σ H fun vs H1=>vs.length<=sizeLine/\∀ e T,H1 e=none->H1 T=none->E (.ref C) (some e) (xH H1 T e (.ref C))
def yp{X:Cx}{x:Str}{C:Addr}{E:XK}{a:Expr}{as:List Expr}{t:TA}{np cpos pos:Pos}(hc:X.calm=true)(ht:Throws X E)(hg:Gl X x)(hm:X.mg x=some (.ref C))(hq:W.excIn X.K C vBm "ValueError.__new__" = true)(ha:PA X (a::as) t)
  (hdb:(x == ("__debug__" : Str))=false:=by decide)(he:starEach (a::as) X.env=(false,eval a X.env)::starEach as X.env:=by rfl)(hpl:(backTo cpos (starEach as X.env)).any (·.1)=false:=by rfl) :
  PS X (.Raise (some (.Call (.Name x np) (a::as) [] cpos)) none pos) (Mi C E t):=by
 intro pins s σ H D I h;obtain⟨_,bm,N,nm,q,bs,hdct,sn,sub,ab,col,dd,k0,k1,k2,k3,k5,mN,hC,hN,hni,T⟩:=Al I.mod.kin hm hq;have hb:bm.contains (.type "BaseException")=true:=T.hasType (by decide);refine wpAny_Raise_call_subT (nm:=nm) (q:=q) (N:=N) (bs:=bs) (hdct:=hdct) (sn:=sn) (sub:=sub) (ab:=ab) (col:=col) (dd:=dd) (k0:=k0) (k1:=k1) (k2:=k2) (k3:=k3) (k5:=k5) F.excBase_ValueError hb (I.ok.hd hc) ?_ hni (nY I hg hm ⟨rfl,?_⟩ hdb)
 ·rw[he];show(false || (backTo cpos (starEach as X.env)).any (·.1))=false;rw[hpl];rfl
 have h2:=ha cpos pins s σ H _ I h;rw[he] at h2 ⊢;refine Calls.evalArgs_plain (wpAny_mono h2 (fun us s1 ⟨vs,H1,I1,r,q1,q2⟩=>⟨rfl,?_,I1.bk _ _ hC,hN.keeps I1.bk,T.keeps I1.bk,fun h' e hx=>ht pins σ H1 s1 e h' _ _ I1 hx fun T h3 h4=>q2 e T h3 h4⟩) fun _ _ y=>y);rw[← r.length];exact q1
abbrev TJ:=St->Hp->Str->VK->Prop
def PJ(X:Cx)(es:List Expr)(t:TJ):Prop :=
 ∀(pins:List (Addr × Obj))(s:Shared)(σ:St)(H:Hp)(acc:Str)(Q:VK),Inv X pins σ H s->t σ H acc Q->wpAny (model X.prog X.w) X.A (joinParts acc (evalEach es X.env)) (EP X pins σ Q) X.xe s
def tJ0:TJ:=fun _ H acc Q=>acc.length<=sizeLine/\Q (.str acc) H
def tJ1(te:TE)(tj:TJ):TJ:=fun σ H acc Q=>te σ H fun v H1=>∃ y,v=.str y/\(acc++y).length<=sizeLine/\tj σ H1 (acc++y) Q
def Sh(te:TE):TE:=fun σ H Q=>te σ H fun v H1=>(∃ y,v=.str y/\y.length<=sizeLine/\Q v H1)\/∃ i:Int,v=.int i/\i.natAbs.log2<1920/\Q (.str (toString i)) H1
section
variable {X:Cx}{e e2:Expr}{es:List Expr}{te te2:TE}{tj:TJ}{pos:Pos}
def HS:PJ X [] tJ0:=fun pins s σ H acc Q I h=>joinParts_nil ⟨.str acc,H,I.tok _,⟨_,rfl⟩,h.2⟩ h.1
def qZ(he:PE X e te)(hj:PJ X es tj):PJ X (e::es) (tJ1 te tj):=fun pins s σ H acc Q I h=>by
 refine joinParts_cons (thn (he pins s σ H _ I h) fun u s1 ⟨v,H1,I1,r,y,e1,hl,q⟩=>?_);subst e1;obtain⟨tk,rfl⟩:=r;exact⟨hl,hj pins s1 σ H1 _ Q I1 q⟩
def Hy(he:PE X e te):PE X (.FormattedValue e (-1) none pos) (Sh te):=fun pins s σ H Q I h=>by
 refine FormattedValue_plain (thn (he pins s σ H _ I h) fun u s1 ⟨v,H1,I1,r,q⟩=>?_);rcases q with⟨y,rfl,hl,q⟩ | ⟨i,rfl,hl,q⟩
 ·obtain⟨tk,rfl⟩:=r;exact formatField_str (fun t' tk=>⟨.str y,H1,I1.tok _,⟨t',rfl⟩,q⟩) hl
 ·obtain⟨tk,rfl⟩:=r;exact formatField_int_small hl ⟨.str (toString i),H1,I1.tok _,⟨_,rfl⟩,q⟩
def Ds(hj:PJ X (e::e2::es) tj):PE X (.JoinedStr (e::e2::es) pos) (fun σ H Q=>tj σ H Str.empty Q):=fun pins s σ H Q I h=>JoinedStr_many (hj pins s σ H Str.empty Q I h)
end
structure lu(P:Program)(w:World)(K:W.Frag)(mg:Str->Option Value)(base:Heap)(x:Str)(k:Nat)(ps:List Str)(sp:Sp):Prop where
 ex:∃(f:Addr)(fd:FuncData),qR P w K mg base (CX1 P w) k f fd ps sp/\Binds K fd ps []/\W.keepIn K (.ref f)=true/\mg x=some (.ref f)
def qR.to1{P:Program}{w:World}{K:W.Frag}{mg:Str->Option Value}{base:Heap}{CX:CXT}{k:Nat}{f:Addr}{fd:FuncData}{ps:List Str}{sp:Sp}(F:qR P w K mg base CX0 k f fd ps sp):qR P w K mg base CX k f fd ps sp :=
 ⟨F.len,fun A outer s H args us vs Q E hr he hb hv hs=>codeAny_mono (F.run A outer s H args us vs Q E hr he hb hv hs) fun r s' q=>by
  cases r with
  | error e=>exact False.elim q
  | ok fl=>cases fl <;> exact q⟩
section
variable {P:Program}{w:World}{K:W.Frag}{mg:Str->Option Value}{base:Heap}{x:Str}{ps:List Str}{sp:Sp}
def Cal.to1(C:Cal P w K mg base x k ps sp):lu P w K mg base x k ps sp:=by
 obtain⟨f,fd,F,r⟩:=C.ex;exact⟨f,fd,F.to1,r⟩
def Has.mk1{st:Stmt}{N:List Str}{k:Nat}(h:Has K mg x st ps)(S:aR N ps (aC st))(len:∀ vs H Q E,sp vs H Q E->vs.length=ps.length)
  (hbody:∀(f:Addr)(cdv:Value)(A:Around)(outer:List Env)(s:Shared)(H:Hp)(vs:List V)(Q:VK)(E:XK),kY k (A.deeper (envOfC x (aC st) s.heap.objs.size f cdv))->sp vs H Q E ->
   ∃ t,PSs (yE (CX1 P w) P w K mg base N x (aC st) f cdv A outer s H E) (fG st) t/\t { nx:=fun _ H'=>Q .non H',rt:=Q } (start N vs) H):lu P w K mg base x (k+1) ps sp:=by
 obtain⟨f,fd,F,b,m⟩:=h.ex;obtain⟨oc,od,kV,doc,pm,an,cdv,ct,osl,rfl,lk,hcd⟩:=F.ex;exact⟨f,_,Og lk hcd S len fun A outer s H vs Q E hr hsp=>hbody f cdv A outer s H vs Q E hr hsp,b,F.kp,m⟩
end
def jV(CX:CXT)(X:Cx)(E:St->XK):Prop:=∀(pins:List (Addr × Obj))(σ:St)(H:Hp)(s:Shared)(e:Value)(s':Shared),Inv X pins σ H s->CX X.stack H s (E σ) e s'->X.xe e s'
theorem Passes.s(h:Passes CX X E):jV CX X fun _=>E:=h
def Iv(sp:Sp)(E:St->XK)(t:TA):TE:=fun σ H Q=>t σ H fun vs H1=>sp vs H1 Q (E σ)
def gV{E:St->XK}(C:lu X.prog X.w X.K X.mg X.base x k ps sp)(hr:kY n X.A)(hk:k<=n)(hg:Gl X x)(hx:jV (CX1 X.prog X.w) X E)(ha:PA X (e::es) t)
  (hdb:(x == ("__debug__" : Str))=false:=by decide)(he:starEach (e::es) X.env=(false,eval e X.env)::starEach es X.env:=by rfl)(hpl:(backTo pos (starEach es X.env)).any (·.1)=false:=by rfl) :
  PE X (.Call (.Name x p) (e::es) [] pos) (Iv sp E t):=by
 obtain⟨f,fd,F,b,kp,m⟩:=C.ex;intro pins s σ H Q I h;refine wpAny_Call_Name_kw (nY I hg m ?_ hdb);refine W.callWith_K I.ok.mod.kin kp (thn (ha pos pins s σ H _ I h) fun us s1 ⟨vs,H1,I1,r,q⟩=>⟨I1.kIn,?_⟩) he hpl;have hl:us.length=ps.length:=by rw[← r.length];exact F.len _ _ _ _ q
 refine wpAny_call (codeAny_mono ((F.mono hk).run X.A X.stack s1 H1 ⟨us,[]⟩ us vs Q (E σ) hr I1.env0 (by have:=b s1 us I1.kIn (by rw[append_nil];exact hl);rw[append_nil] at this;exact this) r q) fun r s' hq=>?_);cases r with
 | error e=>exact hx pins σ H1 s1 e s' I1 hq
 | ok fl =>
  cases fl with
  | ret u=>exact I1.after hq
  | next=>exact False.elim hq
  | brk=>exact False.elim hq
  | cont=>exact False.elim hq
abbrev XR:=Value->Addr->St->Hp->Prop
def Rb(X:Cx)(pins:List (Addr × Obj))(R:XR)(e:Value)(s:Shared):Prop:=∃(ea T:Addr)(cls:Value)(σ:St)(H:Hp),e=.ref ea/\T≠ea/\Inv X pins σ H s/\H ea=some (oV cls T ea)/\H T=some (TrO T)/\R cls ea σ H
abbrev oK(X:Cx)(pins:List (Addr × Obj))(R:XR):Cx:={ X with pn:=X.pn++pins,xe:=Rb X pins R }
section
variable {X:Cx}{pins more:List (Addr × Obj)}{σ:St}{H:Hp}{s:Shared}{R:XR}
def Qv(ok:X.Ok):(oK X pins R).Ok:=⟨ok.mod,ok.kind,ok.glob,ok.blt,ok.above,ok.inj,ok.has,ok.cab,ok.hd,ok.frames,ok.stk,ok.exf,ok.bs,ok.bsz,ok.noex,ok.exfs,ok.funs,ok.frf⟩
def Lj(ok:(oK X pins R).Ok):X.Ok:=⟨ok.mod,ok.kind,ok.glob,ok.blt,ok.above,ok.inj,ok.has,ok.cab,ok.hd,ok.frames,ok.stk,ok.exf,ok.bs,ok.bsz,ok.noex,ok.exfs,ok.funs,ok.frf⟩
def Inv.toTry(I:Inv X pins σ H s):Inv (oK X pins R) [] σ H s:=⟨Qv I.ok,I.os,I.bare,I.base,I.loc,I.cell,I.free,I.freeC,fun p hp=>I.pin p (by
 have hp':=hp;rw[append_nil] at hp';exact hp'),I.hok,I.len⟩
def Inv.ofTry(I:Inv (oK X pins R) more σ H s):Inv X pins σ H s:=⟨Lj I.ok,I.os,I.bare,I.base,I.loc,I.cell,I.free,I.freeC,fun p hp=>I.pin p (W5 _ hp),I.hok,I.len⟩
def SP.ofTry{D:Ends}{f:Flow}{s':Shared}(h:SP (oK X pins R) [] D f s'):SP X pins D f s':=by
 cases f with
 | next=>obtain⟨σ',H',I,q⟩:=h;exact⟨σ',H',I.ofTry,q⟩
 | brk=>obtain⟨σ',H',I,q⟩:=h;exact⟨σ',H',I.ofTry,q⟩
 | cont=>obtain⟨σ',H',I,q⟩:=h;exact⟨σ',H',I.ofTry,q⟩
 | ret u=>obtain⟨v,σ',H',I,r,q⟩:=h;exact⟨v,σ',H',I.ofTry,r,q⟩
def Lq:jV (CX1 X.prog X.w) (oK X pins R) (fun σ cls o H'=>∀ e,o=some e->R cls e σ H'):=by
 intro more σ H s e s' I h;obtain⟨ea,T,cls,H',rfl,hTe,os,bare,un,ok,he,hT,q⟩:=h;exact⟨ea,T,cls,σ,H',rfl,hTe,I.ofTry.call' os un ok bare fun b z=>absurd z (by simp),he,hT,q ea rfl⟩
def vL{E:Value->Shared->Prop}{Q:Unit->Shared->Prop}(I:Inv X pins σ H s)(hst:X.stack=X.env::X.outer)(hf:X.env.frame=some X.env.locals)(hTe:T≠ea)(he:H ea=some (oV cls T ea))(hT:H T=some (TrO T))
  (h:∀ s' T',Inv X pins σ (xH H T' ea cls) s'->T'≠ea->H T'=none->Q () s'):wpAny M X.A (noteFrame (.ref ea) X.env) (fun _ s'=>wpAny M X.A (setFlight (.ref ea) none) Q E s') E s:=by
 have a1:=(I.hok ea _ he).1;have a2:=(I.hok T _ hT).1;have hl:=I.stack;have hfr:=I.ok.frames;have hfree:=I.stkFree;rw[hst] at hl hfr hfree;refine sV hfr hl hf a1 a2 hTe fun h1 h' T' k1 k2 x=>?_
 have kn:∀ b,h1.get? b=none->s.heap.get? b=none:=fun b q=>by
  by_cases hb:b=T
  ·subst hb;obtain⟨oT,_,z,_⟩:=k2;rw[z] at q;cases q
  ·rw[← k1 b hb];exact q
 obtain⟨u,ok'⟩:=x.un I.hok hfree (fun b o q hb=>by rw[k1 b hb];exact q) kn (fun o _=>⟨T,he⟩) (.inr ⟨hT,k2⟩);exact h _ T' (I.call' rfl (by rw[hst];exact u) ok' I.bare fun b z=>absurd z (by simp)) x.ne (I.hok.new (kn T' x.new))
def vJ{E:Value->Shared->Prop}{Q:Unit->Shared->Prop}(I:Inv X pins σ H s)(he:H ea=some (oV cls T ea))(hT:H T=some (TrO T))
  (h:∀ s',Inv X pins σ H s'->Q () s'):wpAny M A (setFlight (.ref ea) none) Q E s:=by
 obtain⟨oe,vs,a0,he1,_,hd,h0,h1⟩:ExcAt cls T ea s.heap:=(I.hok ea _ he).1;obtain⟨oT,ts,hT1,hdT,h3⟩:Bw T s.heap:=(I.hok T _ hT).1;have hsz3:=(Array.getElem?_eq_some_iff.mp h3).1;unfold setFlight;refine Wo (wpAny_field he1 hd h1 ?_);rw[if_pos (show(Value.ref T != Value.none)=true from by simp)];have hup:upd H T (TrO T)=H:=by
  funext b
  unfold upd;split
  ·rename_i e;subst e;exact hT.symm
  ·rfl
 have mT:Bw T (s.heap.update T (Obj.mapFields (·.setIfInBounds 3 ((none:Option Addr).elim Value.none fun f=>rawInt f)))) :=
  ⟨_,_,Heap.get?_update_self _ hT1 (Obj.isFreed_of_fields (Obj.data_mapFields hdT _)),Obj.data_mapFields hdT _,by simp[hsz3]⟩
 refine wpAny_setField hT1 hdT hsz3 (h _ ?_);have W:=I.write (t':=s.toks) (by rw[hT];trivial) (.inl rfl)
  (fun b u hb q=>(Heap.get?_update_other _ _ (Ne.symm hb)).trans q) (by obtain⟨o,_,z,_⟩:=mT;exact⟨o,z⟩) (Af mT)
 rw[hup] at W;exact W
end
abbrev LR(X:Cx)(e:Addr):Cx:={ X with A:=X.A.mark (some (.ref e)),calm:=false,xe:=fun _ _=>False }
section
variable {X:Cx}{pins:List (Addr × Obj)}{σ:St}{H:Hp}{s:Shared}{e:Addr}
def S8(ok:X.Ok):(LR X e).Ok:=⟨ok.mod,ok.kind,ok.glob,ok.blt,ok.above,ok.inj,ok.has,ok.cab,(fun z=>Bool.noConfusion (show false=true from z)),ok.frames,ok.stk,ok.exf,ok.bs,ok.bsz,ok.noex,ok.exfs,ok.funs,ok.frf⟩
def Inv.toEx(I:Inv X pins σ H s):Inv (LR X e) pins σ H s:=⟨S8 I.ok,I.os,I.bare,I.base,I.loc,I.cell,I.free,I.freeC,I.pin,I.hok,I.len⟩
def Inv.ofEx(hk:X.Ok)(I:Inv (LR X e) pins σ H s):Inv X pins σ H s:=⟨hk,I.os,I.bare,I.base,I.loc,I.cell,I.free,I.freeC,I.pin,I.hok,I.len⟩
def jD{E:Value->Shared->Prop}{Q:Unit->Shared->Prop}(I:Inv X pins σ H s)(hN:X.N.Nodup)(hi:X.N[i]?=some n)(hl:X.env.kindOf n=some .local)
  (h:∀ s',Inv X pins (σ.set i none) H s'->Q () s'):wpAny M A (do bindName X.env n .none;unbindBehindTheSuite X.env n pos) Q E s:=by
 obtain⟨m,hn,hm⟩:=id I.loc;have hcls:(X.env.scope.kind == .class || (X.env.scope.kind == .module && X.env.locals != X.env.globals))=false:=by rw[I.ok.kind];rfl
 have hiσ:i<σ.length:=by rw[I.len];exact(Wt.mp hi).1
 refine wpAny_nameGoes_keeps hl hn hcls fun h' v hn' hs=>h _ ?_
 have ab:∀ b o,X.s₀.heap.get? b=some o->b≠X.env.locals:=fun b o e=>Wx (WM (Ww e) I.ok.above)
 refine⟨I.ok,I.os,I.bare,⟨fun b o e n hb hx=>(hs.2 b (ab b o e)).trans (I.base.keep b o e n hb hx),fun b o e n hb hx=>?_,I.base.free,fun b o e hx=>?_,I.base.tups,I.base.frzs,I.base.tbls⟩,⟨_,hn',fun j y v' e1 e2 e3=>?_⟩,fun y c e=>?_,I.free,I.freeC,fun p hp=>?_,fun b ob e=>?_,by simpa using I.len⟩
 ·obtain⟨sl,e1⟩:=I.base.slot b o e n hb hx;exact⟨sl,(hs.2 b (ab b o e)).trans e1⟩
 ·obtain⟨o',e1⟩:=I.base.there b o e hx;exact⟨o',(hs.2 b (ab b o e)).trans e1⟩
 ·have hj:j≠i:=fun z=>by
   subst z;rw[getElem?_set_self hiσ] at e2;cases e2
  rw[getElem?_set_ne (Ne.symm hj)] at e2;obtain⟨u',r',q⟩:=hm j y v' e1 e2 e3;refine⟨u',r',?_⟩;rcases q with⟨k,e⟩ | ⟨k,c,e,z⟩
  ·refine .inl ⟨k,?_⟩;have:y≠n:=fun e=>hj (qK hN e1 (e ▸ hi))
   simp[this,e]
  ·exact .inr ⟨k,c,e,z.sameBut hs (I.cne y c e)⟩
 ·obtain⟨w',z⟩:=I.cell y c e;exact⟨w',z.sameBut hs (I.cne y c e)⟩
 ·obtain⟨e,n,ne,nf,d⟩:=I.pin p hp;exact⟨(hs.2 p.1 ne).trans e,n,ne,nf,d⟩
 ·refine(I.hok b ob e).stay (fun c w' hc q=>(hs.2 c ?_).trans q) (fun _ q=>q) fun _ _ q=>q
  rintro rfl;rcases hc with rfl | hc
  ·have:=I.free;rw[e] at this;cases this
  ·have:=I.free;rw[hc] at this;cases this
end
structure Under(K:W.Frag)(D:Addr)(cls:Value):Prop where
 ex:∃ C,cls=.ref C/\W.subIn K (.ref C) (.ref D)=some true
def oM{M:Model}{A:Around}{E:Value->Shared->Prop}{K:W.Frag}{h:Heap}{g:Array GenState}{d:Drawn}{t:Nat}{os:OsState}{e C D:Addr}{oe:Obj}{x:Str}{mg:Str->Option Value}{Q:Bool->Shared->Prop}
  (X:K.In h)(O:OwnCls x D vBm "ValueError.__new__" mg h)(he:h.get? e=some oe)(hcls:oe.cls=.ref C)(hs:W.subIn K (.ref C) (.ref D)=some true)
  (hq:Q true ⟨h,g,d,t,os⟩):wpAny M A (excMatches (.ref e) (.ref D)) Q E ⟨h,g,d,t,os⟩:=by
 obtain⟨_,bm,N,nm,q,bs,hdct,sn,sub,ab,col,dd,k0,k1,k2,k3,k5,mN,hC,hN,hni,T⟩:=O;have hb:bm.contains (.type "BaseException")=true:=T.hasType (by decide);have hcB:(Value.ref D::bm).contains (.type "BaseException")=true:=by rw[List.contains_cons,hb,Bool.or_true]
 have f:=tc_notTuple;have L4:W.Looks M h (isSubtype (.ref C) (.ref D)) true:=W.looks_subIn X hs;unfold excMatches
 repeat (first | (with_reducible refine wpAny_loadPart_at he ?_;rw[hcls]) | with_reducible refine wpAny_loadPart_at hC ?_ | (with_reducible refine wpAny_isSubtype_exc hC ?_;rw[hcB]) | (with_reducible refine L4.at ?_) | wp_step)
 exact hq
def Jq(i:Nat)(D:Ends):Ends:={ nx:=fun σ H=>D.nx (σ.set i none) H,rt:=D.rt,bk:=fun σ H=>D.bk (σ.set i none) H,ct:=fun σ H=>D.ct (σ.set i none) H }
def rEx(K:PySem.W.Frag)(W:Addr)(i:Nat)(th:TS)(D:Ends):XR:=fun cls ea σ H=>Under K W cls/\∀ T',T'≠ea->H T'=none->th (Jq i D) (σ.set i (some (.ref ea))) (xH H T' ea cls)
def RP(K:PySem.W.Frag)(W:Addr)(i:Nat)(tb:XR->TS)(th:TS):TS:=fun D σ H=>tb (rEx K W i th D) D σ H
def Ao{tb:XR->TS}(hb:∀ pins R,PSs (oK X pins R) body (tb R))(hs:∀ e,PSs (LR X e) (b₀::suite) th)
  (hg:Gl X x)(hm:X.mg x=some (.ref W))(hq:PySem.W.excIn X.K W vBm "ValueError.__new__" = true)(hN:X.N.Nodup)(hi:X.N[i]?=some n)(hl:X.env.kindOf n=some .local)(hst:X.stack=X.env::X.outer)(hf:X.env.frame=some X.env.locals)
  (hdb:(x == ("__debug__" : Str))=false:=by decide) :
  PS X (.Try body [.ExceptHandler (some (.Name x np)) (some n) (b₀::suite) hpos] [] [] pos) (RP X.K W i tb th):=by
 intro pins s σ H D I h;refine wpAny_Try_except (wpAny_mono (hb pins (rEx X.K W i th D) [] s σ H D I.toTry h) (fun f s1 q=>?_) fun e s1 q=>?_)
 ·have q':=SP.ofTry q;cases f with
  | next=>exact wpAny_execs_nil q'
  | brk=>exact q'
  | cont=>exact q'
  | ret u=>exact q'
 ·obtain⟨ea,T,cls,σ1,H1,rfl,hTe,I1,he,hT,⟨C,rfl,hsub⟩,q⟩:=q;refine vL I1 hst hf hTe he hT fun s2 T' I2 hT'e hT'n=>?_
  have he2:xH H1 T' ea (.ref C) ea=some (oV (.ref C) T' ea):=ak;have hT2:xH H1 T' ea (.ref C) T'=some (TrO T'):=Qg hT'e;obtain⟨oe,vs,a0,he3,hcls,hd3,_⟩:ExcAt (.ref C) T' ea s2.heap:=(I2.hok ea _ he2).1;refine wpAny_handleBy_cons (codeAny_handlers_test (nY I2.toEx hg hm ?_ hdb)) (by intro z;cases z);refine oM I2.kIn (Al I2.kIn hm hq) he3 hcls hsub ?_;refine codeAny_handlers_suite_as ?_;refine vJ (X:=LR X ea) I2.toEx he2 hT2 fun s3 I3=>?_
  refine qg (X:=LR X ea) (v:=.ref ea) I3 hN hi (.inl hl) rfl (fun s4 I4=>?_) (.inr hl);refine wpAny_mono (hs ea pins s4 _ _ (Jq i D) I4 (q T' hT'e hT'n)) (fun f s5 q5=>?_) fun _ _ z=>False.elim z
  cases f with
  | next =>
   obtain⟨σ',H',J,q6⟩:=q5;exact jD (J.ofEx I2.ok) hN hi hl fun s6 J6=>⟨_,_,J6,q6⟩
  | brk =>
   obtain⟨σ',H',J,q6⟩:=q5;exact jD (J.ofEx I2.ok) hN hi hl fun s6 J6=>⟨_,_,J6,q6⟩
  | cont =>
   obtain⟨σ',H',J,q6⟩:=q5;exact jD (J.ofEx I2.ok) hN hi hl fun s6 J6=>⟨_,_,J6,q6⟩
  | ret u =>
   obtain⟨v,σ',H',J,r,q6⟩:=q5;exact jD (J.ofEx I2.ok) hN hi hl fun s6 J6=>⟨v,_,_,J6,r,q6⟩
end L2
namespace L2
open PySem PySem.Spec PySem.Calls PyProof.Rows PySem.W Builtin.Getset_descriptor
section
variable {prog:Program}{w:World}{A:Around}{E:Value->Shared->Prop}{K:Frag}{x C D:Addr}{ox:Obj}{h:Heap}{g:Array GenState}{d:Drawn}{t:Nat}{os:OsState}
structure yc(h:Heap)(x:Addr)(ox:Obj)(D:Addr):Prop where
 at_:h.get? x=some ox
 cls:ox.cls=.ref D
def yc.type(I:yc h x ox D):Looks M h (typeOf (.ref x)) (.ref D):=I.cls ▸ (Looks.ld I.at_).andThen .now
def Gs{R:Result->Shared->Prop}(X:K.In h)(I:yc h x ox D)(hm:mroIn K D (.type "object")=some true)
  (hq:R (.ok (.ret (.ref D))) ⟨h,g,d,t,os⟩):codeAny (model prog w) A (.call (.builtin "getset_descriptor.__get__") ⟨[.builtin "object.__class__",.ref x,tp],[]⟩) R ⟨h,g,d,t,os⟩:=by
 have L0:=I.type (M:=model prog w);have L1:=looks_mroIn (M:=model prog w) X hm;refine codeAny_call_builtin KF.slot_gs.plain KF.entry_gs (KF.slot_gs.check _ _ _ _ _ _ _ _ KF.type_class (KF.args_gs _ _ _) ?_);unfold Builtin.«getset_descriptor.__get__» descrGet;rw[dga_obj];refine Wo (Wq ?_);unfold descrGetter descrCheckInstance descrNameAndClass isInstance;simp only[KF.owner_class]
 repeat lk
 refine⟨Code.quiet_builtin _ (by decide +kernel),codeAny_builtin KF.entry_class ?_⟩;unfold Builtin.«object.__class__» shownTypeOf
 repeat lk
 exact hq
structure Ga(K:Frag)(D:Addr):Prop where
 ga:findIn K (.ref D) "__getattribute__" = some (some (.builtin "BaseException.__getattribute__"))
 no:findIn K (.ref D) "__getattr__" = some none
 cl:findIn K (.ref D) "__class__" = some (some (.builtin "object.__class__"))
 bs:subIn K (.ref D) (.type "BaseException")=some true
 ob:mroIn K D (.type "object")=some true
 is:isClsIn K D=true
def Ep{Q:Fin->Shared->Prop}(X:K.In h)(k:Ga K D)(I:yc h x ox D)(hq:Q (.done (.ret (.ref D))) ⟨h,g,d,t,os⟩) :
  wpAny (model prog w) A (Builtin.«object.__getattribute__» ⟨[.ref x,.str "__class__" tk],[]⟩) Q E ⟨h,g,d,t,os⟩:=by
 have hx:=I.at_;have hc:=I.cls;have L1:Looks (model prog w) h (typeLookup (.ref D) "__class__") (some (.builtin "object.__class__")):=looks_findIn X k.cl;have f5:=W.KF.type_class;have f6:=F.slot_gs_get.lookup;have f7:=F.slot_gs_set.lookup;have hT5:(⟨h,g,d,t,os⟩:Shared).TypeIs (.builtin "object.__class__") "getset_descriptor":=W.KF.type_class
 repeat (any_goals (first | assumption | (with_reducible refine wpAny_loadPart_at hx ?_;rw[hc]) | (with_reducible refine L1.at ?_) | wp_step))
 refine Gs (ox:=ox) X I k.ob ?_
 repeat (any_goals (first | assumption | wp_step))
def En{Q:Unit->Shared->Prop}(X:K.In h)(k:Ga K D)(I:yc h x ox D)(hq:Q () ⟨h,g,d,t,os⟩):wpAny (model prog w) A (checkBuiltinCall "BaseException.__getattribute__" ⟨[.ref x,nameV],[]⟩) Q E ⟨h,g,d,t,os⟩:=by
 have hx:=I.at_;have hc:=I.cls;have hk:builtinKind "BaseException.__getattribute__" = some .slot:=by decide +kernel
 have hsplit:splitId "BaseException.__getattribute__" = some ("BaseException","__getattribute__"):=by decide +kernel
 have L1:Looks (model prog w) h (isSubtype (.ref D) (.type "BaseException")) true:=looks_subIn X k.bs;have ha:=F.args_bexc_ga (.ref x) nameV;simp only[checkBuiltinCall,hk,hsplit];refine Wo ?_
 ·unfold isInstance
  repeat (first | (with_reducible refine wpAny_loadPart_at hx ?_;rw[hc]) | (with_reducible refine L1.at ?_) | wp_step)
  exact hq
def Mt{Q:Value->Shared->Prop}(X:K.In h)(k:Ga K D)(I:yc h x ox D)(hq:Q (.ref D) ⟨h,g,d,t,os⟩):wpAny (model prog w) A (getAttrBy (.ref x) (.str "__class__" tk) false) Q E ⟨h,g,d,t,os⟩:=by
 have hx:=I.at_;have hc:=I.cls;have f3:=F.excAttr_ValueError.ga.bind (.ref x);have hx0:(false && onTheHeap (Value.builtin "BaseException.__getattribute__"))=false:=rfl;have hx2:(Value.builtin "BaseException.__getattribute__" == Value.builtin "object.__getattribute__")=false:=by decide +kernel
 have hx1:(onTheHeap (Value.ref D) && Value.builtin "BaseException.__getattribute__" == Value.builtin "object.__getattribute__")=false:=by rw[hx2];rfl
 have L1:Looks (model prog w) h (typeLookup (.ref D) "__getattribute__") (some (.builtin "BaseException.__getattribute__")):=looks_findIn X k.ga;have L2:Looks (model prog w) h (typeLookup (.ref D) "__getattr__") none:=looks_findIn X k.no
 repeat (any_goals (first | assumption | (with_reducible refine wpAny_loadPart_at hx ?_;rw[hc]) | (with_reducible refine L1.at ?_) | (with_reducible refine L2.at ?_) | wp_step))
 refine codeAny_call_builtin F.excAttr_ValueError.ga.plain F.entry_bexc_ga (En X k I (Ep X k I ?_))
 repeat (any_goals (first | assumption | wp_step))
def Fq{Q:Option Value->Shared->Prop}(X:K.In h)(k:Ga K D)(I:yc h x ox D)(hq:Q (some (.ref D)) ⟨h,g,d,t+1,os⟩):wpAny (model prog w) A (getAttr? (.ref x) "__class__") Q E ⟨h,g,d,t,os⟩:=by
 unfold getAttr? getAttrBy?;refine Wo (wpAny_mkText (Wo (wpAny_attempt (Mt X k I ?_))));exact Wq hq
def vO{Q:Fin->Shared->Prop}(X:K.In s.heap)(k:Ga K D)(I:yc s.heap x ox D)(hty:Looks (model prog w) s.heap (typeOf c) (.type "type"))(his:Looks (model prog w) s.heap (isType c) true)
  (hne:(Value.ref D == c)=false)(hsub:Looks (model prog w) s.heap (isSubtype (.ref D) c) false)(h:Q (.done (.ret (.bool false))) { s with toks:=s.toks+1 }) :
  wpAny (model prog w) A (Builtin.«isinstance.nested» ⟨[.ref x,c,.int dep tk],[]⟩) Q E s:=by
 have hisD:Looks (model prog w) s.heap (isType (.ref D)) true:=by
  have hcD:=k.is;unfold isClsIn clsIn at hcD;split at hcD
  ·rename_i ho;intro A' Q' E' s' kk q;unfold isType loadHead;exact Wo (wpAny_loadPart (kk _ _ (X _ _ ho)) (Wq q))
  ·cases hcD
 obtain⟨h0,g,d,tt,os⟩:=s;have L0:=I.type (M:=model prog w);have LI:Looks (model prog w) h0 (isInstance (.ref x) c) false:=L0.andThen hsub;unfold Builtin.«isinstance.nested»;refine Wo (L0.at ?_);rw[if_neg (fun q=>by rw[hne] at q;exact Bool.noConfusion q)];refine Wo (hty.at ?_);rw[if_pos (by decide)]
 k_delta "plainIsInstance"
 refine Wo (Wo (his.at ?_));simp only[Bool.not_true,Bool.false_eq_true,if_false];refine Wo (LI.at ?_);simp only[Bool.false_eq_true,if_false];refine Wo (Fq X k I ?_);refine Wo (hisD.at ?_);simp only[Bool.not_true,Bool.false_eq_true,if_false];refine Wo (wpAny_rule ?_);refine hsub.at ?_
 first
  | exact Wq h
  | exact Wq (Wq h)
  | exact Wo (Wq (Wq h))
def Ai{Q:Value->Shared->Prop}(X:K.In s.heap)(k:Ga K D)(I:yc s.heap x ox D)(e:kin_not K D C=true)(h:Q (.bool false) { s with toks:=s.toks+1 }) :
  wpAny (model prog w) A (call (.builtin "isinstance") [.ref x,.ref C]) Q E s:=by
 unfold kin_not at e;rw[Bool.and_eq_true,Bool.and_eq_true,Bool.and_eq_true] at e;obtain⟨⟨⟨e0,e1⟩,e2⟩,e3⟩:=e;refine call_isinstance (S:=fun _ R s=>(K.In s.heap/\yc s.heap x ox D)/\R (.ok (.ret (.bool false))) { s with toks:=s.toks+1 })
  (fun _ _ _ _ _ hs=>isinstance_outer (vO hs.1.1 k hs.1.2 (looks_typeIn hs.1.1 (beq_iff_eq.mp e2)) ?_ ?_ (looks_subIn hs.1.1 (beq_iff_eq.mp e3)) hs.2) (by intro q;cases q)) ⟨⟨X,I⟩,h⟩
 ·have X':=hs.1.1;unfold clsIn at e1;split at e1
  ·rename_i ho;intro A' Q' E' s' kk q;unfold isType loadHead;exact Wo (wpAny_loadPart (kk _ _ (X' _ _ ho)) (Wq q))
  ·cases e1
 ·exact Bool.eq_false_iff.mpr fun q=>W3 e0 (Value.ref.inj (beq_iff_eq.mp q))
def vA{Q:Fin->Shared->Prop}(X:K.In s.heap)(I:yc s.heap x ox D)(hty:typeOf (.type T)=pure (.type "type"))(hs:subIn K (.ref D) (.type T)=some true)
  (h:Q (.done (.ret (.bool true))) s):wpAny (model prog w) A (Builtin.«isinstance.nested» ⟨[.ref x,.type T,.int dep tk],[]⟩) Q E s:=by
 obtain⟨h0,g,d,tt,os⟩:=s;have L0:=I.type (M:=model prog w);have hsub:Looks (model prog w) h0 (isSubtype (.ref D) (.type T)) true:=looks_subIn X hs;have LI:Looks (model prog w) h0 (isInstance (.ref x) (.type T)) true:=L0.andThen hsub;have hty':Looks (model prog w) h0 (typeOf (.type T)) (.type "type"):=Looks.of_pure hty;have his:Looks (model prog w) h0 (isType (.type T)) true:=Looks.of_pure rfl;unfold Builtin.«isinstance.nested»;refine Wo (L0.at ?_);rw[if_neg (fun q=>by cases beq_iff_eq.mp q)];refine Wo (hty'.at ?_);rw[if_pos (by decide)]
 k_delta "plainIsInstance"
 refine Wo (Wo (his.at ?_));simp only[Bool.not_true,Bool.false_eq_true,if_false];refine Wo (LI.at ?_);simp only[if_true]
 first
  | exact Wq h
  | exact Wq (Wq h)
  | exact Wo (Wq (Wq h))
def Eb{Q:Value->Shared->Prop}(X:K.In s.heap)(I:yc s.heap x ox D)(hty:typeOf (.type T)=pure (.type "type"))(e:subIn K (.ref D) (.type T)=some true)(h:Q (.bool true) s) :
  wpAny (model prog w) A (call (.builtin "isinstance") [.ref x,.type T]) Q E s :=
 call_isinstance (S:=fun _ R s=>(K.In s.heap/\yc s.heap x ox D)/\R (.ok (.ret (.bool true))) s)
  (fun _ _ _ _ _ hs=>isinstance_outer (vA hs.1.1 hs.1.2 hty e hs.2) (by intro q;cases q)) ⟨⟨X,I⟩,h⟩
end
def zG{K:Frag}{D C:Addr}(hn:D≠C)(hc:isClsIn K C=true)(ht:typeIn K (.ref C)=some (.type "type"))(hs:subIn K (.ref D) (.ref C)=some false):kin_not K D C=true:=by
 unfold kin_not;unfold isClsIn at hc;rw[W9 hn,hc,ht,hs]
 rfl
def IsX(K:Frag)(D:Addr)(c:V)(b:Bool):Prop:=(∃ C,c=.ref C/\((b=true/\isIn K (.ref D) C=true)\/(b=false/\Ga K D/\kin_not K D C=true)))\/(∃ T,c=.ty T/\b=true/\typeOf (.type T)=pure (.type "type")/\subIn K (.ref D) (.type T)=some true)
def R7(K:Frag):List V->Hp->VK->Prop:=fun xs H Q=>∃ e T D c b,xs=[.ref e,c]/\H e=some (oV (.ref D) T e)/\IsX K D c b/\Q (.bl b) H
def cA:fP X (.builtin "isinstance") (R7 X.K):=by
 intro pins s σ H xs us Q I r h;obtain⟨e,T,D,c,b,rfl,he,k,q⟩:=h;obtain⟨u,v,rfl,ru,rv⟩:=vals2 r;cases ru;obtain⟨oe,vs,a0,h1,h2,_⟩:ExcAt (.ref D) T e s.heap:=(I.hok e _ he).1;have O:yc s.heap e oe D:=⟨h1,h2⟩
 rcases k with⟨C,rfl,⟨rfl,k⟩ | ⟨rfl,k1,k2⟩⟩ | ⟨Ty,rfl,rfl,k1,k2⟩
 ·cases rv;exact isi_call I.kIn (fun M=>O.type) k (fun z=>nomatch z) ⟨.bl true,H,I,rfl,q⟩
 ·cases rv;exact Ai I.kIn k1 O k2 ⟨.bl false,H,I.tok _,rfl,q⟩
 ·cases rv;exact Eb I.kIn O k1 k2 ⟨.bl true,H,I,rfl,q⟩
end L2
namespace L2
open PySem PySem.Spec PyProof.Rows
def Pz(E:XK):XK:=fun cls o H'=>∀ e,o=some e->∀ T',H' T'=none->E cls o (xH H' T' e cls)
def iB{P:Program}{w:World}{K:W.Frag}{mg:Str->Option Value}{base:Heap}{N:List Str}{qual:Str}{scope:Scope}{f:Addr}{cd:Value}{A:Around}{outer:List Env}{s0:Shared}{H0:Hp}{E:XK} :
  jV (CX1 P w) (yE (CX1 P w) P w K mg base N qual scope f cd A outer s0 H0 E) fun _=>Pz E:=(Kc (Pz E) fun cls e T H' _ h T' n=>h e rfl T' n).s
def dR(C:Addr)(H:Hp)(E:XK):Prop:=∀(e T:Addr)(H':Hp),Same H H'->H e=none->H' e=some (oV (.ref C) T e)->E (.ref C) (some e) H'
def vC(s:Same H H1)(he:H e=none)(hT:H1 T=none):Same H (xH H1 T e cls):=fun b o h=>by
 have hbe:b≠e:=fun z=>by subst z;rw[he] at h;cases h
 have hbT:b≠T:=fun z=>by subst z;rw[s _ _ h] at hT;cases hT
 show upd (upd H1 T (TrO T)) e (oV cls T e) b=some o;rw[aF hbe,aF hbT];exact s b o h
section
variable {C:Addr}{H H1:Hp}{E:XK}
def dR.up(h:dR C H E)(s:Same H H1):dR C H1 E:=fun e T H' s' he hx=>h e T H' (s.trans s') (s.free he) hx
def dR.made(h:dR C H E)(he:H e=none)(hT:H T=none):E (.ref C) (some e) (xH H T e (.ref C)):=h e T _ (vC (Same.refl H) he hT) he ak
def dR.out(h:dR C H E):dR C H (Pz E):=fun e T H' s he hx e' z T' n=>by
 cases z;exact h e T' _ (vC s he n) he ak
def yJ{R:XR}{σ:St}(h:∀(e T:Addr)(H':Hp),Same H H'->H e=none->H' e=some (oV (.ref C) T e)->R (.ref C) e σ H'):dR C H (fun cls o H'=>∀ e,o=some e->R cls e σ H'):=fun e T H' s he hx e' z=>by
 cases z;exact h e T H' s he hx
end
structure Fn1(P:Program)(w:World)(K:W.Frag)(mg:Str->Option Value)(base:Heap)(f:Addr)(k:Nat)(ps:List Str)(sp:Sp):Prop where
 ex:∃(fd:FuncData),qR P w K mg base (CX1 P w) k f fd ps sp/\Binds K fd ps []/\W.keepIn K (.ref f)=true
def lu.fn{P:Program}{w:World}{K:W.Frag}{mg:Str->Option Value}{base:Heap}{x:Str}{k:Nat}{ps:List Str}{sp:Sp}(C:lu P w K mg base x k ps sp):∃ f,mg x=some (.ref f)/\Fn1 P w K mg base f k ps sp:=by
 obtain⟨f,fd,F,b,kp,m⟩:=C.ex;exact⟨f,m,fd,F,b,kp⟩
def OD(P:Program)(w:World)(K:W.Frag)(mg:Str->Option Value)(base:Heap)(n i:Nat)(E:St->XK)(t:TA):TE:=fun σ H Q=>∃(f:Addr)(k:Nat)(ps:List Str)(sp:Sp),σ[i]?=some (some (.ref f))/\Fn1 P w K mg base f k ps sp/\k<=n/\t σ H fun vs H1=>sp vs H1 Q (E σ)
def Dl{E:St->XK}(hr:kY n X.A)(hv:PE X (.Name x p) (Py i))(hx:jV (CX1 X.prog X.w) X E)(ha:PA X (e::es) t)
  (he:starEach (e::es) X.env=(false,eval e X.env)::starEach es X.env:=by rfl)(hpl:(backTo pos (starEach es X.env)).any (·.1)=false:=by rfl) :
  PE X (.Call (.Name x p) (e::es) [] pos) (OD X.prog X.w X.K X.mg X.base n i E t):=by
 intro pins s σ H Q I h;obtain⟨f,k,ps,sp,hσ,⟨fd,F,b,kp⟩,hk,h⟩:=h;refine wpAny_Call_Name_kw (thn (hv pins s σ H (fun v H'=>v=.ref f/\H'=H) I ⟨_,hσ,rfl,rfl⟩) fun u s0 ⟨v,H0,I0,r0,e1,e2⟩=>?_);subst e1 e2;cases r0;refine W.callWith_K I0.ok.mod.kin kp (thn (ha pos pins s0 σ H0 _ I0 h) fun us s1 ⟨vs,H1,I1,r,q⟩=>⟨I1.kIn,?_⟩) he hpl;have hl:us.length=ps.length:=by rw[← r.length];exact F.len _ _ _ _ q
 refine wpAny_call (codeAny_mono ((F.mono hk).run X.A X.stack s1 H1 ⟨us,[]⟩ us vs Q (E σ) hr I1.env0 (by have:=b s1 us I1.kIn (by rw[append_nil];exact hl);rw[append_nil] at this;exact this) r q) fun r s' hq=>?_);cases r with
 | error e=>exact hx pins σ H1 s1 e s' I1 hq
 | ok fl =>
  cases fl with
  | ret u=>exact I1.after hq
  | next=>exact False.elim hq
  | brk=>exact False.elim hq
  | cont=>exact False.elim hq
abbrev RZ(R:XR):St->XK:=fun σ cls o H'=>∀ e,o=some e->R cls e σ H'
def G9(C:lu X.prog X.w X.K X.mg X.base x k ps sp)(hr:kY n X.A)(hk:k<=n)(hg:Gl X x)(ha:PA (oK X pins R) (e::es) t)
  (hdb:(x == ("__debug__" : Str))=false:=by decide)(he:starEach (e::es) X.env=(false,eval e X.env)::starEach es X.env:=by rfl)(hpl:(backTo pos (starEach es X.env)).any (·.1)=false:=by rfl) :
  PE (oK X pins R) (.Call (.Name x p) (e::es) [] pos) (Iv sp (RZ R) t):=gV (X:=oK X pins R) C hr hk hg Lq ha hdb he hpl
def Jz:jV (CX1 X.prog X.w) X fun _ _ _ _=>False:=fun _ _ _ _ _ _ _ h=>by
 obtain⟨_,_,_,_,_,_,_,_,_,_,_,_,q⟩:=h;exact q.elim
theorem tu:∀ {xs:List V}{us:List Value},Vals xs us->xs.all fu=true->us.countP (eqU y)=xs.countP fun z=>eqV z y
 | _,_,.nil,_=>rfl
 | x::xs,u::us,.cons r t,f=>by
  rw[all_cons,Bool.and_eq_true] at f;rw[List.countP_cons,List.countP_cons,xY r f.1,tu t f.2]
def DK:MtR X "list.count" (fun x xs H Q=>∃(l:Addr)(ys:List V)(y:V),x=.ref l/\xs=[y]/\H l=some (.lst ys)/\fu y=true/\ys.all fu=true/\Q (.int (ys.countP (fun z=>eqV z y):Nat)) H):=by
 intro pins s σ H x xs v us Q I rx rv h;obtain⟨l,ys,y,rfl,rfl,hH,fy,fs,q⟩:=h;cases rx;obtain⟨u,rfl,ru⟩:=rv.one;obtain⟨z,its,n,r,hl,e⟩:=I.lstM hH;refine call_meets F.slot_list_count ⟨_,e,rfl⟩ F.entry_list_count (F.args_list_count_2 _ _) (SeqAt.list_countAt l its.toArray n none #[] u (eqU y)) ⟨e,fun w hw=>jm ru fy r fs w (by simpa using hw),?_⟩;rw[show its.toArray.toList=its from rfl,tu r fs];exact⟨.int _,H,I.tok _,⟨_,rfl⟩,q⟩
def Dq:MtR X "list.index" (fun x xs H Q=>∃(l:Addr)(ys:List V)(y w:V)(j:Nat),x=.ref l/\xs=[y]/\H l=some (.lst ys)/\fu y=true/\ys.all fu=true/\ys[j]?=some w/\eqV w y=true/\(∀ i z,i<j->ys[i]?=some z->eqV z y=false)/\Q (.int (j:Nat)) H):=by
 intro pins s σ H x xs v us Q I rx rv h;obtain⟨l,ys,y,w,j,rfl,rfl,hH,fy,fs,hj,hw,hno,q⟩:=h;cases rx;obtain⟨u,rfl,ru⟩:=rv.one;obtain⟨z,its,n,r,hl,e⟩:=I.lstM hH;have hjl:j<ys.length:=(Wt.mp hj).1;have at_:∀(i:Nat)(hi:i<its.length)(z:V),ys[i]?=some z->eqU y its[i]=eqV z y:=fun i hi z hz=>by
  obtain⟨u',h1,h2⟩:=r.get hz;rw[Wr hi] at h1;cases h1;exact xY h2 (all_eq_true.mp fs z (W2 hz))
 have hz:=sX;refine call_meets F.slot_list_index ⟨_,e,rfl⟩ F.entry_list_index (F.args_list_index_2 _ _) (SeqAt.list_indexAt l its.toArray n none #[] u (eqU y) j (by rw[Xd];lia) (by lia) ?_ ?_) ⟨e,fun w hw=>jm ru fy r fs w (by simpa using hw),?_⟩
 ·show eqU y its[j]=true;rw[at_ j (by lia) w hj];exact hw
 ·intro m hm hlt;show eqU y its[m]=false;have hm':m<its.length:=by simpa using hm
  have hm2:m<ys.length:=by lia
  rw[at_ m hm' ys[m] (Wr hm2)];exact hno m _ hlt (Wr hm2)
 ·exact⟨.int _,H,I.tok _,⟨_,rfl⟩,q⟩
open AutoSeq1 (wpAny_loadPart')
def Om:R2:=fun x y H Q=>∃(ds es:List D)(n:Nat),Den H x (.tup ds)/\Den H y (.tup es)/\cN (n+1) (.tup ds)/\cN (n+1) (.tup es)/\n<=50/\uh ds es/\Q (.bl (!eqD (.tup ds) (.tup es))) H
def Lw(hu:X.A.units+64<cLine):OpR X (compareOp .NotEq) Om:=by
 intro pins s σ H x y v u Q I rx ry h;obtain⟨ds,es,n,hx,hy,hs1,hs2,hn,hm,q⟩:=h;have ih:=Mv I (s':=s) (fun b o z=>z) n;obtain⟨a,vs,rfl,ha,hda⟩:=aN hx;obtain⟨b,us,rfl,hb,hdb⟩:=aN hy;cases rx;cases ry;obtain⟨its,r1,p1,_⟩:=I.tuple (SqT.of (K:=X.K) ha);obtain⟨its2,r2,p2,_⟩:=I.tuple (SqT.of (K:=X.K) hb);have l1:=hda.len;have l2:=hdb.len;have m1:=r1.length;have m2:=r2.length;have e0:=allR_eq ds es;rw[show ds.length=its.toArray.size by simp;lia,show es.length=its2.toArray.size by simp;lia] at e0;have key:=SeqAt.RcNeAt.tuples (A:=X.A) (s:=s) (e:=fun j=>eqD (ds.getD j .non) (es.getD j .non)) p1 p2 (by lia) fun j h1 h2=>?_
 ·rw[e0] at key;exact key X.prog X.w _ _ ⟨.bl _,H,I,rfl,q⟩
 ·have hj1:j<vs.length:=by simpa [m1] using h1
  have hj2:j<us.length:=by simpa [m2] using h2
  obtain⟨d1,g1,b1⟩:=hda.at_ (Wr hj1);obtain⟨d2,g2,b2⟩:=hdb.at_ (Wr hj2);obtain⟨w1,hw1,rw1⟩:=r1.get (Wr hj1);obtain⟨w2,hw2,rw2⟩:=r2.get (Wr hj2);have q1:its.toArray[j]=w1:=by
   have:=(Wt.mp hw1).2
   simpa using this
  have q2:its2.toArray[j]=w2:=by
   have:=(Wt.mp hw2).2
   simpa using this
  rw[q1,q2];rw[Wv,Wv,g1,g2];have s1:=(hs1.2 ds rfl).2 d1 (W2 g1);have s2:=(hs2.2 es rfl).2 d2 (W2 g2);exact(ih d1 d2 X.A.in1 _ _ _ _ s1 s2 (hm.at_ g1 g2) b1 b2 rw1 rw2 (by first | (simp only[Around.in1];lia) | lia)).1
end L2
namespace L2
open PySem PySem.Spec PyProof.Rows
def Ez{ns:List Int}{its:List Value}(r:Vals (ns.map V.int) its){i:Nat}{v:Value}(h:its[i]?=some v):∃ t,v=.int (ns.getD i 0) t:=by
 have hi:i<ns.length:=by
  have:=(Wt.mp h).1;have:=r.length;rw[Xa] at this;lia
 obtain⟨u,hu,ru⟩:=r.get (i:=i) (x:=.int (ns.getD i 0)) (by rw[W8,Wr hi,Wv,Wr hi];rfl);rw[hu] at h;cases h;exact ru
end L2
namespace SO
open PySem PySem.W PyProof.Rows
section
variable {O:KeyOrd}{prog:Program}{w:World}{A:Around}{E:Value->Shared->Prop}{s:Shared}
def vH{Q:Value->Shared->Prop}(G:List Value->Heap->Nat->Prop)
  (hcol:∀(Q:List Value->Shared->Prop),(∀ vs g tk,G vs g tk->Q vs { s with heap:=g,toks:=tk })->wpAny (model prog w) A.in1 (collect v) Q E s)
  (hrest:∀ vs g tk,G vs g tk->∃(key:Nat->O.α)(κ:SortKind),vs.length<64/\
   (2<=vs.length->∀ h',Keeps g h'->∀(E:Value->Shared->Prop)(Q:SortKind->Shared->Prop),Q κ { s with heap:=h',toks:=tk }->wpAny (model prog w) A.in1.in1 (keyKind' vs.toArray) Q E { s with heap:=h',toks:=tk }) /\
   (∀ h',Keeps g h'->Cmp key vs.length (kas_ask prog w A.in1.in1 κ vs) { s with heap:=h',toks:=tk }) /\
   (∀(g':Heap)(p:Array Nat),Keeps g g'->InN vs.length p->dh key p vs.length->(∃ n,g'.get? g.objs.size=some (seqObj "list" (List.toArray (p.toList.map fun i=>vs.getD i Value.none)) n))->Q (.ref g.objs.size) { s with heap:=g',toks:=tk })) :
  wpAny (model prog w) A (call (.builtin "sorted") [v]) Q E s:=by
 refine Calls.call_function_entry kind_sorted plain_sorted entry_sorted (args_sorted1 _) ?_;unfold Builtin.«sorted»;refine Wo (Wq ?_);refine Wo (hcol _ fun vs g tk hG=>?_);obtain⟨key,κ,h64,hk,hc,h⟩:=hrest vs g tk hG;refine Wo (wpAny_newList ?_ (by rw[sizeLine_eq];lia));have hoL:(g.push (seqObj "list" vs.toArray 0)).get? g.objs.size=some (seqObj "list" vs.toArray 0):=Wy _ rfl;have kp:∀ h',(∀ b o,b≠g.objs.size->(g.push (seqObj "list" vs.toArray 0)).get? b=some o->h'.get? b=some o)->Keeps g h':=fun h' k b o q=>by
  exact k b o (Wx (Ww q)) (Ws _ q)
 refine Wo (WW (W6 slot_list_sort ⟨_,hoL,rfl⟩ entry_list_sort (nR key κ hoL h64 (fun z h' k Q q=>hk z h' (kp h' k) _ Q q) (fun h' k=>hc h' (kp h' k)) fun p a1 a2=>⟨_,rfl,?_⟩) (args_list_sort _)));refine Wq ⟨_,rfl,h _ p (kp _ fun b o hb q=>?_) a1 a2 ?_⟩
 ·unfold sortedHeap;have hlt:=Ww q;rw[Heap.get?_update_ne _ _ _ _ hb,Xc _ _ _ (by rw[size_push',WY];exact Wx (Xb hlt)),Xc _ _ _ (by rw[WY];exact Wx hlt),Heap.get?_update_ne _ _ _ _ hb];exact q
 ·unfold sortedHeap;have ha:=Ww hoL;obtain⟨e1,ho1⟩:∃ e1,((g.push (seqObj "list" vs.toArray 0)).update g.objs.size (Obj.mapSeq fun _=>#[])).get? g.objs.size=some (seqObj "list" #[] e1):=⟨_,get?_update_seq hoL (fun _=>#[])⟩
  have ho6:((((g.push (seqObj "list" vs.toArray 0)).update g.objs.size (Obj.mapSeq fun _=>#[])).push (seqObj "tuple" vs.toArray 0)).push (seqObj "list" #[] 0)).get? g.objs.size=some (seqObj "list" #[] e1):=by
   rw[Xc _ _ _ (by rw[size_push',WY];exact Wx (Xb ha)),Xc _ _ _ (by rw[WY];exact Wx ha)];exact ho1
  exact⟨_,get?_update_seq ho6 _⟩
end
end SO
namespace L2
open PySem PySem.Spec PyProof.Rows
def intΦ(w:World)(a:Addr)(ns:List Int):Heap->Prop:=fun h=>ST.Ka w h a ns
theorem rQ{ns:List Int}:∀ i,i<=ns.length->(SX.zL (fun i=>ns.getD i 0) i).Nodup/\∀ k,k∈SX.zL (fun i=>ns.getD i 0) i↔k∈ns.take i
 | 0,_=>⟨nodup_nil,fun k=>by rw[take_zero];exact Iff.rfl⟩
 | i+1,hi=>by
  obtain⟨h1,h2⟩:=rQ (ns:=ns) i (by lia);have e:ns.take (i+1)=ns.take i++[ns.getD i 0]:=by
   rw[List.take_succ_eq_append_getElem (by lia),Wv,Wr (by lia)]
   rfl
  show(ST.zJ (SX.zL (fun i=>ns.getD i 0) i) (ns.getD i 0)).Nodup/\_;rw[e];unfold ST.zJ;refine⟨?_,fun k=>?_⟩
  ·split
   ·exact h1
   ·rename_i z;exact nodup_cons.mpr ⟨z,h1⟩
  ·show k∈ST.zJ (SX.zL (fun i=>ns.getD i 0) i) (ns.getD i 0)↔_;unfold ST.zJ;rw[mem_append,mem_singleton,← h2 k];split
   ·rename_i z;exact⟨.inl,fun h=>h.elim id fun e=>by rw[e];exact z⟩
   ·rw[mem_cons];exact⟨fun h=>h.symm,fun h=>h.symm⟩
def Oi(K:W.Frag)(w:World):List V->Hp->VK->Prop:=fun xs H Q=>∃(p:Addr)(ns:List Int),xs=[.ref p]/\SqL K H p (ns.map V.int)/\ns.length<=1001/\∀(a:Addr)(ms:List Int),H a=none->ms.Nodup->(∀ k,k∈ms↔k∈ns)->ms.length<=ns.length->Q (.ref a) (upd H a (.ext (intΦ w a ms)))
def CP{X:Cx}(hc:X.calm=true):fP X (.type "set") (Oi X.K X.w):=by
 intro pins s σ H xs us Q I r h;obtain⟨p,ns,rfl,hp,hz,q⟩:=h;obtain⟨u,rfl,rx⟩:=vals1 r;cases rx;obtain⟨its,rv,pl,hzz⟩:=I.list hp;have hil:=rv.length;rw[Xa] at hil;have hsz:its.toArray.size=ns.length:=by simp;lia
 refine SX.jB (I.ok.hd hc) (.inr pl.isList) (fun i v hv=>Ez rv (by simpa using hv)) (by rw[hsz];lia) fun g tk hS kp=>?_
 rw[hsz] at hS;obtain⟨h1,h2⟩:=rQ ns.length (Wu _);have h3:=SX.lM (val:=fun i=>ns.getD i 0) (i:=ns.length);generalize SX.zL (fun i=>ns.getD i 0) ns.length=ms at hS h1 h2 h3;rw[take_length] at h2;refine⟨.ref s.heap.objs.size,_,I.laid (fun b o e=>kp b o (Ww e) e) (Wu _) ?_,rfl,q _ ms I.fresh h1 h2 (by lia)⟩;refine⟨hS,?_,fun h1 h2 hh k=>hh.keep k⟩;obtain⟨o,_,_,_,_,eo,_⟩:=hS.ex;exact⟨o,eo⟩
def Gn{E:Value->Shared->Prop}{Q:List Value->Shared->Prop}(hh:A.handled=none)(hS:ST.Ka w s.heap S ns)
  (h:∀(g:Heap)(tk:Nat)(kts:List (Int × Tok)),(kts.map (·.1)).Perm ns->(∀ b u,s.heap.get? b=some u->g.get? b=some u)->Q (kts.map fun p=>.int p.1 p.2) { s with heap:=g,toks:=tk }):wpAny (model prog w) A (collect (.ref S)) Q E s:=by
 obtain⟨o,es,ep,t,kts,ho,hex,hd,hT,hrm,hpl,hld,hmk,hp,hE⟩:=hS.ex;have hf:t.fits es.size=true:=by
  unfold SetTable.fits SetTable.fill;rw[hT.d,hT.sz];have:=hT.room;simp;exact this
 refine SI.kI hh ho hex.1 hd hf hT.sz hT.up (.inr (.inl (hpl rfl))) (fun z=>hld.resolve_left fun y=>absurd (y.symm.trans z) (by decide)) (by have:=hT.room;rw[sizeLine_eq];lia) fun g tk hk=>?_
 have hpe:(SI.ord w S es ep).toList.Perm (kts.map ST.QF):=by
  rw[← hE];exact SI.rJ
 obtain⟨ks2,k1,k2⟩:=ST.fQ hpe.symm rfl;have:=h g tk ks2 ((k1.map (·.1)).trans hp) hk;rw[k2,map_map];exact this
def Hr(ns:List Int):Hom (ns.map D.int):=by
 refine⟨fun d hd e he=>?_,.inl fun d hd=>?_⟩
 ·obtain⟨a,_,rfl⟩:=mem_map.mp hd;obtain⟨b,_,rfl⟩:=mem_map.mp he;exact trivial
 ·obtain⟨a,_,rfl⟩:=mem_map.mp hd;exact⟨_,rfl⟩
theorem Ik:∀ kts:List (Int × Tok),Vals ((kts.map (·.1)).map V.int) (kts.map fun p=>Value.int p.1 p.2)
 | []=>.nil
 | p::r=>.cons ⟨_,rfl⟩ (Ik r)
def u9(w:World):List V->Hp->VK->Prop:=fun xs H Q=>∃(p:Addr)(ms:List Int),xs=[.ref p]/\H p=some (.ext (intΦ w p ms))/\ms.length<64 /\
 ∀(l:Addr)(ns:List Int),H l=none->ns.Perm ms->ns.Pairwise (· <= ·)->Q (.ref l) (upd H l (.lst (ns.map V.int)))
def jk(hc:X.calm=true)(hu:X.A.units+64<cLine):fP X (.builtin "sorted") (u9 X.w):=by
 intro pins s σ H xs us Q I r h;obtain⟨p,ms,rfl,hp,hz,q⟩:=h;obtain⟨u,rfl,rx⟩:=vals1 r;cases rx;have hS:=(I.hok _ _ hp).1;refine SO.vH (O:=Ip) (fun its g tk=>∃ kts:List (Int × Tok),(kts.map (·.1)).Perm ms/\its=kts.map (fun p=>Value.int p.1 p.2)/\∀ b o,s.heap.get? b=some o->g.get? b=some o)
  (fun Q' q'=>Gn (by first | exact I.ok.hd hc | simp[I.ok.hd hc]) hS fun g tk kts hpm kp=>q' _ _ _ ⟨kts,hpm,rfl,kp⟩) ?_
 rintro its g tk ⟨kts,hpm,rfl,kp⟩;have I5:=I.kept (t':=tk) kp;have hn:kts.length=ms.length:=by
  have:=hpm.length_eq;rw[Xa] at this;exact this
 have hD':bL H ((kts.map (·.1)).map V.int) ((kts.map (·.1)).map D.int):=by
  generalize kts.map (·.1)=l
  induction l with
  | nil=>exact trivial
  | cons a l ih=>exact⟨rfl,ih⟩
 have rv:=Ik kts;have hpd:((kts.map (·.1)).map D.int).Perm (ms.map D.int):=hpm.map _;obtain⟨κ,hk2,hcm⟩:=RD hu I5 hD' rv (Hr _) (by rw[Xa,Xa];lia) (fun d hd=>by
  obtain⟨a,_,rfl⟩:=mem_map.mp hd;exact⟨(fun z=>nomatch z),fun _ z=>nomatch z⟩)
 have hle:(kts.map fun p=>Value.int p.1 p.2).length=kts.length:=Xa _;have hle2:((kts.map (·.1)).map V.int).length=kts.length:=by rw[Xa,Xa]
 have hle3:((kts.map (·.1)).map D.int).length=kts.length:=by rw[Xa,Xa]
 generalize ((kts.map (·.1)).map D.int)=ds at hD' hpd hcm hle3;generalize (kts.map fun p=>Value.int p.1 p.2)=its at rv hk2 hcm hle ⊢;generalize ((kts.map (·.1)).map V.int)=vs at hD' rv hle2;refine⟨fun i=>ds.getD i .non,κ,by rw[hle];lia,fun h2 h' kp' E Q q=>hk2 h2 h' kp' E Q q,fun h' kp'=>hcm h' kp',fun g' pp kp' hpp hs hob'=>?_⟩;obtain⟨m,hob'⟩:=hob';have hlt:∀ i∈pp.toList,i<kts.length:=fun i hi=>by rw[← hle];exact mem_range.mp (hpp.mem_iff.mp hi)
 have hps:pp.toList.length=kts.length:=by rw[← hle];simpa using hpp.length_eq
 have hU:=lN rv pp.toList fun i hi=>by rw[hle2];exact hlt i hi
 have hDD:=lX hD' pp.toList fun i hi=>by rw[hle3];exact hlt i hi
 have hPP:(pp.toList.map fun i=>ds.getD i D.non).Perm (ms.map D.int):=by
  refine List.Perm.trans ?_ hpd;have e:(List.range its.length).map (fun i=>ds.getD i .non)=ds:=by
   apply ext_getElem
   ·rw[Xa,length_range,hle,hle3]
   ·intro i h1 h2;simp[Wv,h2]
  have:=hpp.map fun i=>ds.getD i D.non
  rw[e] at this;exact this
 have hUp:UpD (pp.toList.map fun i=>ds.getD i D.non):=by
  unfold UpD;rw[pairwise_iff_getElem];intro i j hi hj hij;have h:=hs i j (Nat.le_of_lt hij) (by rw[hle,← hps];simpa using hj);have e:∀ k (hk:k<pp.toList.length),SO.KN (O:=Ip) (fun i=>ds.getD i .non) pp k=(pp.toList.map fun i=>ds.getD i D.non)[k]'(by rw[Xa];exact hk):=by
   intro k hk;have hk':k<pp.size:=by simpa using hk
   unfold SO.KN;rw[getElem_map];congr 1;simp[Array.getD,hk']
  rw[e i (by simpa using hi),e j (by simpa using hj)] at h;exact h
 obtain⟨ns,hn1,hn2⟩:=ST.fQ hPP.symm rfl;rw[hn2] at hDD hUp;have hus:=wK hDD;have hup:ns.Pairwise (· <= ·):=by
  unfold UpD at hUp;rw[pairwise_map] at hUp;refine hUp.imp fun {a b} h=>?_
  rw[vK] at h;exact Int.not_lt.mp (of_decide_eq_false h)
 rw[hus] at hU;refine⟨.ref _,_,I5.laid (o:=.lst (ns.map V.int)) kp' (Wu _) ⟨?_,_,m,hU,hob'⟩,rfl,q _ ns (I5.hok.fresh (Wu _)) hn1 hup⟩;rw[Xa,hn1.length_eq,sizeLine_eq];lia
def zX:∀ {a b:List Int},a.Pairwise (· < ·)->b.Pairwise (· <= ·)->b.Nodup->(∀ k,k∈b↔k∈a)->b=a:=by
 intro a b ha hb hn hm;have hb':b.Pairwise (· < ·):=by
  have:=List.Pairwise.and hb (nodup_iff_pairwise_ne.mp hn);exact this.imp fun {x y} h=>by lia
 exact(List.perm_ext_iff_of_nodup hn (ha.imp fun {x y} h=>by lia)).mpr hm |>.eq_of_pairwise (fun x y _ _ h1 h2=>by lia) hb' ha
end L2
namespace SO
open PySem PySem.W PyProof.Rows
section
variable {O:KeyOrd}{prog:Program}{w:World}{A:Around}{E:Value->Shared->Prop}{s:Shared}
def wg{Q:Value->Shared->Prop}(G:List Value->Heap->Nat->Drawn->Prop)
  (hcol:∀(Q:List Value->Shared->Prop),(∀ vs g tk dr,G vs g tk dr->Q vs { s with heap:=g,toks:=tk,drawn:=dr })->wpAny (model prog w) A.in1 (collect v) Q E s)
  (hrest:∀ vs g tk dr,G vs g tk dr->∃(key:Nat->O.α)(κ:SortKind),vs.length<64/\
   (2<=vs.length->∀ h',Keeps g h'->∀(E:Value->Shared->Prop)(Q:SortKind->Shared->Prop),Q κ { s with heap:=h',toks:=tk,drawn:=dr }->wpAny (model prog w) A.in1.in1 (keyKind' vs.toArray) Q E { s with heap:=h',toks:=tk,drawn:=dr }) /\
   (∀ h',Keeps g h'->Cmp key vs.length (kas_ask prog w A.in1.in1 κ vs) { s with heap:=h',toks:=tk,drawn:=dr }) /\
   (∀(g':Heap)(p:Array Nat),Keeps g g'->InN vs.length p->dh key p vs.length->(∃ n,g'.get? g.objs.size=some (seqObj "list" (List.toArray (p.toList.map fun i=>vs.getD i Value.none)) n))->Q (.ref g.objs.size) { s with heap:=g',toks:=tk,drawn:=dr })) :
  wpAny (model prog w) A (call (.builtin "sorted") [v]) Q E s:=by
 refine Calls.call_function_entry kind_sorted plain_sorted entry_sorted (args_sorted1 _) ?_;unfold Builtin.«sorted»;refine Wo (Wq ?_);refine Wo (hcol _ fun vs g tk dr hG=>?_);obtain⟨key,κ,h64,hk,hc,h⟩:=hrest vs g tk dr hG;refine Wo (wpAny_newList ?_ (by rw[sizeLine_eq];lia));have hoL:(g.push (seqObj "list" vs.toArray 0)).get? g.objs.size=some (seqObj "list" vs.toArray 0):=Wy _ rfl;have kp:∀ h',(∀ b o,b≠g.objs.size->(g.push (seqObj "list" vs.toArray 0)).get? b=some o->h'.get? b=some o)->Keeps g h':=fun h' k b o q=>by
  exact k b o (Wx (Ww q)) (Ws _ q)
 refine Wo (WW (W6 slot_list_sort ⟨_,hoL,rfl⟩ entry_list_sort (nR key κ hoL h64 (fun z h' k Q q=>hk z h' (kp h' k) _ Q q) (fun h' k=>hc h' (kp h' k)) fun p a1 a2=>⟨_,rfl,?_⟩) (args_list_sort _)));refine Wq ⟨_,rfl,h _ p (kp _ fun b o hb q=>?_) a1 a2 ?_⟩
 ·unfold sortedHeap;have hlt:=Ww q;rw[Heap.get?_update_ne _ _ _ _ hb,Xc _ _ _ (by rw[size_push',WY];exact Wx (Xb hlt)),Xc _ _ _ (by rw[WY];exact Wx hlt),Heap.get?_update_ne _ _ _ _ hb];exact q
 ·unfold sortedHeap;have ha:=Ww hoL;obtain⟨e1,ho1⟩:∃ e1,((g.push (seqObj "list" vs.toArray 0)).update g.objs.size (Obj.mapSeq fun _=>#[])).get? g.objs.size=some (seqObj "list" #[] e1):=⟨_,get?_update_seq hoL (fun _=>#[])⟩
  have ho6:((((g.push (seqObj "list" vs.toArray 0)).update g.objs.size (Obj.mapSeq fun _=>#[])).push (seqObj "tuple" vs.toArray 0)).push (seqObj "list" #[] 0)).get? g.objs.size=some (seqObj "list" #[] e1):=by
   rw[Xc _ _ _ (by rw[size_push',WY];exact Wx (Xb ha)),Xc _ _ _ (by rw[WY];exact Wx ha)];exact ho1
  exact⟨_,get?_update_seq ho6 _⟩
end
end SO
namespace SN
open PySem PySem.Spec PyProof.Rows L2
section
variable {prog:Program}{w:World}{A:Around}{E:Value->Shared->Prop}{s:Shared}{S:Addr}{C:D->Prop}
def uI{Q:List Value->Shared->Prop}(hh:A.handled=none)(hS:Ma w C s.heap S kas)
  (h:∀(g:Heap)(tk:Nat) dr (kas':List (D × Addr)),kas'.Perm kas->(∀ b u,s.heap.get? b=some u->g.get? b=some u)->Q (kas'.map fun p=>.ref p.2) { s with heap:=g,toks:=tk,drawn:=dr }):wpAny (model prog w) A (collect (.ref S)) Q E s:=by
 obtain⟨o,es,ep,t,kas',ho,hex,hd,hT,hrm,hld,hmk,hp,hE⟩:=hS.ex;have hf:t.fits es.size=true:=by
  unfold SetTable.fits SetTable.fill;rw[hT.d,hT.sz];have:=hT.room;simp;exact this
 refine SI.vB hh ho hex.1 hd hf hT.sz hT.up (fun z=>hld.resolve_left fun y=>absurd (y.symm.trans z) (by decide)) (by have:=hT.room;rw[sizeLine_eq];lia) fun g tk dr vs hpm hk=>?_
 have hpe:vs.Perm (kas'.map fun p=>Value.ref p.2):=by
  refine hpm.trans ?_;rw[hE.e,map_map];exact List.Perm.refl _
 obtain⟨ks2,k1,k2⟩:=ST.fQ hpe.symm rfl;rw[k2];exact h g tk dr ks2 (k1.trans hp) hk
end
end SN
namespace L2
open PySem PySem.Spec PyProof.Rows
def Inv.draw(I:Inv X pins σ H s)(dr:Drawn):Inv X pins σ H { s with drawn:=dr }:=⟨I.ok,I.os,I.bare,I.base,I.loc,I.cell,I.free,I.freeC,I.pin,I.hok,I.len⟩
def nestΦ(w:World)(a:Addr)(kas:List (D × Addr)):Heap->Prop:=fun h =>
 ∃(o:Obj)(es:Array (Int × Value))(ep:Nat)(t:SetTable)(kas':List (D × Addr)),h.get? a=some o/\o.ExactSet/\o.data=.set es ep t/\ST.TOk t es.size/\es.size*5<t.mask*3/\(w.params.followText "set-order" = true\/t.led=true)/\t.mask<=8000/\kas'.Perm kas/\es.toList=kas'.map fun p=>(fJ w p.1,Value.ref p.2)
def nestΦ_of{C:D->Prop}(x:SN.Ma w C h a kas)(hp:kas.Perm kas2):nestΦ w a kas2 h:=by
 obtain⟨o,es,ep,t,kas',a1,a2,a3,a4,a5,a7,a8,a9,b⟩:=x.ex;exact⟨o,es,ep,t,kas',a1,a2,a3,a4,a5,a7,a8,a9.trans hp,b.e⟩
def nestΦ_to{C:D->Prop}(x:nestΦ w a kas h)(hk:∀ p∈kas,SN.IsK C h p.1 p.2):SN.Ma w C h a kas:=by
 obtain⟨o,es,ep,t,kas',a1,a2,a3,a4,a5,a7,a8,a9,b⟩:=x;exact⟨o,es,ep,t,kas',a1,a2,a3,a4,a5,a7,a8,a9,b,fun p hq=>hk p (a9.mem_iff.mp hq)⟩
section
variable {X:Cx}{pins:List (Addr × Obj)}{σ:St}{H:Hp}{s:Shared}
def BK(I:Inv X pins σ H s){C:D->Prop}(hC:KCls C n)(hd:C d)(h:Den H (.ref a) d):SN.IsK C s.heap d a:=⟨hd,wY I.hok (hC.pl _ hd) h rfl⟩
theorem vY:∀ {as:List Addr}{ds:List D},bL H (as.map V.ref) ds->as.length=ds.length/\∀ q∈ds.zip as,Den H (.ref q.2) q.1
 | [],[],_=>⟨rfl,fun q hq=>by cases hq⟩
 | a::as,p::ps,h=>by
  obtain⟨h1,h2⟩:=h;obtain⟨e,k⟩:=vY h2;refine⟨by rw[length_cons,length_cons,e],fun q hq=>?_⟩;rcases mem_cons.mp hq with rfl | hq
  ·exact h1
  ·exact k q hq
 | [],_::_,h=>h.elim
 | _::_,[],h=>h.elim
theorem pA:∀ {l:List (D × Addr)},(∀ q∈l,Den H (.ref q.2) q.1)->bL H ((l.map (·.2)).map V.ref) (l.map fun q=>q.1)
 | [],_=>trivial
 | q::l,h=>⟨h q (.head _),pA fun r hr=>h r (.tail _ hr)⟩
end
def Gw(h:Hom ds)(p:ds.Perm es):Hom es:=⟨fun a ha b hb=>h.1 a (p.mem_iff.mpr ha) b (p.mem_iff.mpr hb),h.2.imp (fun z d hd=>z d (p.mem_iff.mpr hd)) fun z=>z.imp (fun z d hd=>z d (p.mem_iff.mpr hd)) fun z d hd=>z d (p.mem_iff.mpr hd)⟩
def Ab(hn:n<=8)(h:cN n d):cN 50 d:=by
 have:∀ k,cN (n+k) d:=fun k=>by
  induction k with
  | zero=>exact h
  | succ k ih=>exact ih.up
 have:=this (50 - n)
 rwa [show n+(50 - n)=50 by lia] at this
def wW(K:W.Frag)(w:World)(C:D->Prop):List V->Hp->VK->Prop:=fun xs H Q=>∃(p:Addr)(as:List Addr)(ps:List D),xs=[.ref p]/\SqT K H p (as.map V.ref)/\bL H (as.map V.ref) ps/\(∀ d∈ps,C d)/\ps.Nodup/\ps.length<=899/\∀ a,H a=none->Q (.ref a) (upd H a (.ext (nestΦ w a (ps.zip as))))
def uc{C:D->Prop}(hC:KCls C n)(hw:X.w=w)(hc:X.calm=true)(hu:X.A.units+64<cLine):fP X (.type "set") (wW X.K w C):=by
 subst hw;intro pins s σ H xs us Q I r h;obtain⟨p,as,ps,rfl,hp,hD,hCs,hnd,hz,q⟩:=h;obtain⟨u,rfl,rx⟩:=vals1 r;cases rx;obtain⟨its,rv,pl,hzz⟩:=I.tuple hp;obtain⟨hl,hk⟩:=vY hD;have hil:=rv.length;rw[Xa] at hil;have hsz:its.toArray.size=ps.length:=by simp;lia
 have hzl:(ps.zip as).length=ps.length:=by rw[length_zip];lia
 have hK:=fun q hq=>BK I hC (hCs _ (of_mem_zip hq).1) (hk q hq)
 have hKk:∀ h':Heap,(∀ b o,s.heap.get? b=some o->h'.get? b=some o)->∀ q∈ps.zip as,SN.IsK C h' q.1 q.2:=fun h' ho q hq=>⟨(hK q hq).1,(hK q hq).2.keep fun b its t=>by
  obtain⟨o,e,c⟩:=t;exact⟨o,ho b o e,c⟩⟩
 refine SX.um (SS:=fun i h=>SN.Ma X.w C h s.heap.objs.size (((ps.zip as).take i).reverse)) (I.ok.hd hc) (.inl (show s.heap.IsTuple _ its.toArray from pl)) (fun i h h' hS hs ho=>?_) (fun A' i v s' E' Q' hA hi hv hS ho hq=>?_) (fun led h hled eg ho=>?_) fun g tk hS kp=>?_
 ·obtain⟨o,es,ep,t,kas',a1,a2,a3,a4,a5,a7,a8,a9,b⟩:=hS.ex;exact⟨o,es,ep,t,kas',hs o a1,a2,a3,a4,a5,a7,a8,a9,b.e,fun q hq=>hKk h' ho q (List.mem_of_mem_take (List.mem_reverse.mp (a9.mem_iff.mp hq)))⟩
 ·rw[hsz] at hi;have hzi:i<(ps.zip as).length:=by lia
  have hv':its[i]?=some v:=by simpa using hv
  have hn:(as.map V.ref)[i]?=some (.ref as[i]):=by rw[W8,Wr (by lia)];rfl
  obtain⟨u,hu',ru⟩:=rv.get hn;rw[hv'] at hu';cases hu';have ev:=ru;subst ev;have hm:(ps[i],as[i])∈ps.zip as:=by
   have:=getElem_mem hzi;rw[getElem_zip] at this;exact this
  have hki:=hKk s'.heap ho _ hm;have hn8:=hC.n8;unfold setAdd;refine WW (Wo (Gz n (hC.sh _ hki.1) hki.2 (by lia) ?_));refine SN.Ky hC (by lia) hS hki (fun q hq z=>?_) (by rw[List.length_reverse,length_take];lia) fun g sb hS2=>?_
  ·have hq:=List.mem_reverse.mp hq;obtain⟨j,hj,e⟩:=List.getElem_of_mem hq;rw[length_take] at hj;rw[List.getElem_take,getElem_zip] at e;have e1:ps[j]=q.1:=by rw[← e]
   rw[nodup_iff_pairwise_ne,pairwise_iff_getElem] at hnd;exact hnd j i (by lia) (by lia) (by lia) (e1.trans z)
  ·refine hq true g _ (Nat.le_add_right _ _) sb ?_;have:(((ps.zip as).take (i+1)).reverse)=(ps[i],as[i])::((ps.zip as).take i).reverse:=by
    rw[List.take_succ_eq_append_getElem hzi,List.reverse_append,getElem_zip]
    rfl
   rw[this];exact hS2
 ·exact⟨_,#[],0,.fresh 0 0 led,[],eg,⟨rfl,rfl,rfl⟩,rfl,⟨⟨3,rfl⟩,rfl,rfl,by show 0<=7;decide,by show 7%2=1;rfl,ST.Up.nil⟩,by show 0*5<7*3;decide,hled,by show 7<=8000;decide,List.Perm.refl _,⟨rfl,fun p hp=>by cases hp⟩⟩
 ·rw[hsz,take_of_length_le (by lia)] at hS;refine⟨.ref s.heap.objs.size,_,I.laid (fun b o e=>kp b o (Ww e) e) (Wu _) ?_,rfl,q _ I.fresh⟩;have hΦ:=nestΦ_of hS (List.reverse_perm _);refine⟨hΦ,?_,fun h1 h2 ⟨o,es,ep,t,kas',eo,rest⟩ k=>⟨o,es,ep,t,kas',k o eo,rest⟩⟩;obtain⟨o,es,ep,t,_,eo,_⟩:=hΦ;exact⟨o,eo⟩
def DP(w:World)(C:D->Prop):List V->Hp->VK->Prop:=fun xs H Q=>∃(p:Addr)(as:List Addr)(ps:List D),xs=[.ref p]/\H p=some (.ext (nestΦ w p (ps.zip as)))/\bL H (as.map V.ref) ps/\(∀ d∈ps,C d)/\Hom ps/\ps.length<64 /\
 ∀(l:Addr)(us:List V)(ds':List D),H l=none->ds'.Perm ps->UpD ds'->bL H us ds'->Q (.ref l) (upd H l (.lst us))
def qP{C:D->Prop}(hC:KCls C n)(hw:X.w=w)(hc:X.calm=true)(hu:X.A.units+64<cLine):fP X (.builtin "sorted") (DP w C):=by
 subst hw;intro pins s σ H xs us Q I r h;obtain⟨p,as,ps,rfl,hp,hD,hCs,hhom,hz,q⟩:=h;obtain⟨u,rfl,rx⟩:=vals1 r;cases rx;obtain⟨hl,hk⟩:=vY hD;have hS:=nestΦ_to (I.hok _ _ hp).1 fun q hq=>BK I hC (hCs _ (of_mem_zip hq).1) (hk q hq)
 refine SO.wg (O:=Ip) (fun its g tk dr=>∃ kas:List (D × Addr),kas.Perm (ps.zip as)/\its=kas.map (fun p=>Value.ref p.2)/\∀ b o,s.heap.get? b=some o->g.get? b=some o)
  (fun Q' q'=>SN.uI (by first | exact I.ok.hd hc | simp[I.ok.hd hc]) hS fun g tk dr kas hpm kp=>q' _ _ _ dr ⟨kas,hpm,rfl,kp⟩) ?_
 rintro its g tk dr ⟨kas,hpm,rfl,kp⟩;have I5:=(I.kept (t':=tk) kp).draw dr;have hn:kas.length=ps.length:=by rw[hpm.length_eq,length_zip];lia
 have hmp:∀ q∈kas,q.1∈ps:=fun q hq=>(of_mem_zip (hpm.mem_iff.mp hq)).1
 have hD':=pA fun q hq=>hk q (hpm.mem_iff.mp hq)
 have rv:Vals ((kas.map (·.2)).map V.ref) (kas.map fun p=>Value.ref p.2):=by
  have:=sI (kas.map (·.2));have e:(kas.map (·.2)).map Value.ref=kas.map fun p=>Value.ref p.2:=by rw[map_map];rfl
  rw[e] at this;exact this
 have hpd:(kas.map fun q=>q.1).Perm (ps):=by
  have:=hpm.map fun q=>q.1
  refine this.trans ?_;have e:(ps.zip as).map (fun q=>q.1)=ps:=map_fst_zip (by lia);rw[e]
 obtain⟨κ,hk2,hcm⟩:=RD hu I5 hD' rv (Gw hhom hpd.symm) (by rw[Xa];lia) (fun d hd=>by obtain⟨q,hq,rfl⟩:=mem_map.mp hd;exact Ab hC.n8 (hC.sh _ (hCs _ (hmp q hq))));have hle:(kas.map fun p=>Value.ref p.2).length=kas.length:=Xa _;have hle2:((kas.map (·.2)).map V.ref).length=kas.length:=by rw[Xa,Xa]
 have hle3:(kas.map fun q=>q.1).length=kas.length:=Xa _;generalize (kas.map fun q=>q.1)=ds at hD' hpd hcm hle3;generalize (kas.map fun p=>Value.ref p.2)=its at rv hk2 hcm hle ⊢;generalize ((kas.map (·.2)).map V.ref)=vs at hD' rv hle2;refine⟨fun i=>ds.getD i .non,κ,by rw[hle];lia,fun h2 h' kp' E Q q=>hk2 h2 h' kp' E Q q,fun h' kp'=>hcm h' kp',fun g' pp kp' hpp hs hob'=>?_⟩;obtain⟨m,hob'⟩:=hob';have hlt:∀ i∈pp.toList,i<kas.length:=fun i hi=>by rw[← hle];exact mem_range.mp (hpp.mem_iff.mp hi)
 have hps:pp.toList.length=kas.length:=by rw[← hle];simpa using hpp.length_eq
 have hU:=lN rv pp.toList fun i hi=>by rw[hle2];exact hlt i hi
 refine⟨.ref _,_,I5.laid (o:=.lst (pp.toList.map fun i=>vs.getD i .non)) kp' (Wu _) ⟨?_,_,m,hU,hob'⟩,rfl,q _ _ (pp.toList.map fun i=>ds.getD i .non) (I5.hok.fresh (Wu _)) ?_ ?_ (lX hD' _ fun i hi=>by rw[hle3];exact hlt i hi)⟩
 ·rw[Xa,hps,sizeLine_eq];lia
 ·refine List.Perm.trans ?_ hpd;have e:(List.range its.length).map (fun i=>ds.getD i .non)=ds:=by
   apply ext_getElem
   ·rw[Xa,length_range,hle,hle3]
   ·intro i h1 h2;simp[Wv,h2]
  have:=hpp.map fun i=>ds.getD i D.non
  rw[e] at this;exact this
 ·unfold UpD;rw[pairwise_iff_getElem];intro i j hi hj hij;have h:=hs i j (Nat.le_of_lt hij) (by rw[hle,← hps];simpa using hj);have e:∀ k (hk:k<pp.toList.length),SO.KN (O:=Ip) (fun i=>ds.getD i .non) pp k=(pp.toList.map fun i=>ds.getD i D.non)[k]'(by rw[Xa];exact hk):=by
   intro k hk;have hk':k<pp.size:=by simpa using hk
   unfold SO.KN;rw[getElem_map];congr 1;simp[Array.getD,hk']
  rw[e i (by simpa using hi),e j (by simpa using hj)] at h;exact h
section
variable {prog:Program}{w:World}{A:Around}{E:Value->Shared->Prop}{s:Shared}
theorem wX(hne:l≠g):∀(n i:Nat)(s:Shared)(Q:List Value->Shared->Prop),s.heap.IsListIter g l i->s.heap.IsList l its->i+n<=its.size ->
  (∀ h',h'.IsListIter g l (i+n)->Heap.SameBut g s.heap h'->Q ((its.toList.drop i).take n) { s with heap:=h' })->wpAny (model prog w) A (draw (.ref g) n) Q E s
 | 0,i,s,Q,hg,_,_,q=>Wq (by
   have:=q s.heap hg (Heap.SameBut.refl ..)
   rwa [take_zero] at this)
 | n+1,i,s,Q,hg,hl,hle,q=>by
  have lt:i<its.size:=WM (by lia) hle;refine Wo (wpAny_pyNext_list_item hg hl (WD lt) fun ha ga sa=>?_);refine Wo (WW (wX hne n (i+1) _ _ ga (hl.extBut sa.extBut hne) (by lia) fun hb gb sb=>Wq ?_));have z:=q hb (by rw[Nat.add_comm n 1,← Nat.add_assoc];exact gb) (sa.trans sb);have e:its.toList.drop i=its[i]::its.toList.drop (i+1):=List.drop_eq_getElem_cons (by simpa using lt)
  rwa [e,take_succ_cons] at z
def yx{tgs:List (Bool × (Value->Sem Unit))}{Q:Unit->Shared->Prop}(hh:A.handled=none)(hl:s.heap.IsList l its)(hn:tgs.length=its.size)(hst:tgs.findIdx? (·.1)=none)
  (h:∀ h',Heap.ExtBut s.heap.objs.size s.heap h'->wpAny (model prog w) A (assignInOrder (tgs.map (·.2)) its.toList) Q E { s with heap:=h' }):wpAny (model prog w) A (unpack (.ref l) tgs) Q E s:=by
 have ne:l≠s.heap.objs.size:=by
  obtain⟨o,ho,_⟩:=hl;exact Wx (Ww ho)
 unfold unpack;rw[hn,hst];refine Wo (WW ?_);unfold unpackItems notIterableAtAll;refine Wo (Wo (wpAny_specialOf hl.typeIs slot_list_iter.lookup (Wq ?_)));rw[if_neg (by simp)];refine Wo (WW (wpAny_pyIter_list hl ?_));refine Wo (WW (wX ne its.size 0 _ _ ⟨_,Wy _ rfl,rfl,rfl⟩ (hl.push _) (by lia) fun ha ga sa=>?_));have e:(its.toList.drop 0).take its.size=its.toList:=take_of_length_le (Nat.le_of_eq (by rw[length_drop,Nat.sub_zero,WK]));rw[e,if_neg (by simp)];refine Wo (WW (wpAny_pyNext_list_end hh ga ((hl.push _).extBut sa.extBut ne) (by simp) fun hb sb=>?_));rw[if_neg (by simp)];exact Wq (h hb fun b o z e=>sb b o z (sa.extBut b o z (Ws _ e)))
end
def Ti(K:W.Frag)(n:Nat)(t:TGs):TG:=fun v σ H Q=>∃ a xs,v=.ref a/\SqL K H a xs/\xs.length=n/\t xs σ H Q
theorem Pg(hc:X.calm=true)(h:PGs X es t)
  (hn:(assignEach es X.env).length=n:=by rfl)(hst:(assignEach es X.env).findIdx? (·.1)=none:=by rfl):PG X (.Tuple es k pos) (Ti X.K n t):=by
 intro pins s σ H v u Q I r hw;obtain⟨a,xs,e1,hq,hl,hw⟩:=hw;subst e1;cases r;obtain⟨its,rv,ht,hz⟩:=I.list hq;rw[assign_Tuple];refine Wo (wpAny_standAt (yx (I.ok.hd hc) ht.isList (by simp[hn,← hl,rv.length]) hst fun h' hx=>?_));exact h pins _ σ H xs _ Q (I.kept fun b o e=>hx b o (Wx (Ww e)) e) (by simpa using rv) hw
def Sw(F:List (Str × List Str)):List (Str × KTD.Dat):=F.map fun p=>(p.1,.tup (p.2.map PyData.str))
def Tj(K:W.Frag)(t:Addr)(F:List (Str × List Str)):Prop:=KTD.tabLook (KTD.datLooks fun b=>K.lookup b) (fun b=>K.lookup b) t (Sw F)=true
def jL:MtM X "list.remove" (fun x vs H Q=>∃(l:Addr)(ys:List Str)(y:Str)(j:Nat),x=.ref l/\vs=[.str y]/\H l=some (.lst (ys.map V.str))/\ys[j]?=some y/\(∀(i:Nat)(z:Str),i<j->ys[i]?=some z->z≠y)/\Q .non (upd H l (.lst ((ys.map V.str).eraseIdx j)))):=by
 intro pins s σ H x vs v us Q I rx rv h;obtain⟨l,ys,y,j,rfl,rfl,hH,hj,hno,q⟩:=h;cases rx;obtain⟨u,rfl,ru⟩:=rv.one;obtain⟨tk,rfl⟩:=ru;obtain⟨z,its,n,r,hl,e⟩:=I.lstM hH;have hs:=yu r;have hjl:=(Wt.mp hj).1;rw[Xa] at hl;have at_:∀(i:Nat)(hi:i<its.length),∃ t,its[i]=.str ys[i] t:=fun i hi=>by
  have hy:(ys.map V.str)[i]?=some (.str ys[i]):=by rw[W8,Wr (by lia)];rfl
  obtain⟨u',h1,t,h2⟩:=r.get hy;rw[Wr hi] at h1;exact⟨t,(WT h1).trans h2⟩
 have ej:=WT ((Wr hjl).symm.trans hj);refine call_meets PySem.F.slot_list_remove ⟨_,e,rfl⟩ PySem.F.entry_list_remove (PySem.F.args_list_remove_2 _ _)
  (MeetsSeq.list_remove l its.toArray n (.str y tk) (isStrOf y) (fun v hv=>eq_isStrOf y tk hs v (by simpa using hv)) j (by rw[Xd];lia) ?_ ?_ ?_) ⟨e,?_⟩
 ·show isStrOf y its[j]=true;obtain⟨t,h⟩:=at_ j (by lia)
  rw[h,ej];exact beq_self_eq_true y
 ·intro m hm hlt;show isStrOf y its[m]=false;have hm':m<its.length:=by simpa using hm
  obtain⟨t,h⟩:=at_ m hm'
  rw[h];exact beq_eq_false_iff_ne.mpr (hno m _ hlt (Wr (by lia)))
 ·rw[Xd];rw[Xa] at z;lia
 ·refine⟨.non,_,I.lset hH e ?_ (r.eraseIdx j) ?_,rfl,q⟩
  ·show its.toArray.eraseIdxIfInBounds j=(its.eraseIdx j).toArray;rw[List.eraseIdxIfInBounds_toArray]
  ·have:=mL (ys.map V.str) j;lia
def rC(K:W.Frag)(nm:Str)(v:Value):Bool:=match W.nsIn K mainGlobals nm,v with
 | some (some (.ref a)),.ref b=>a == b
 | _,_=>false
def KFT(K:W.Frag)(t:Addr)(F:List (Str × Str)):Prop:=KTD.tabLook (rC K) (fun b=>K.lookup b) t F=true
def Ml{K:W.Frag}{nm:Str}{v:Value}(h:rC K nm v=true):∃ f,v=.ref f/\W.nsIn K mainGlobals nm=some (some (.ref f)):=by
 unfold rC at h;split at h
 ·rename_i a b e;exact⟨b,rfl,by rw[e,eq_of_beq h]⟩
 ·cases h
def KFT.tab{K:W.Frag}{t:Addr}{F:List (Str × Str)}{h:Heap}(k:KFT K t F)(X:K.In h):KTD.TabOf (fun nm v=>rC K nm v=true) h t F:=KTD.tab_of_look (fun _ _ x=>x) (fun b o q=>X b o q) k
section
variable {prog:Program}{w:World}{A:Around}{E:Value->Shared->Prop}{s:Shared}
def Kd{δ:Type}{R:δ->Value->Prop}{D:List (Str × δ)}{Q:Option Value->Shared->Prop}(T:KTD.TabOf R s.heap a D){d:δ}(hd:KTD.datumAt k D=some d)
  (q:∀ v,R d v->Q (some v) { s with toks:=s.toks+1 }):wpAny (model prog w) A (dictGet a (.str k tk)) Q E s:=by
 obtain⟨_,o,es,ep,ho,hc,he,hr⟩:=T;unfold dictGet
 try with_reducible refine WW ?_
 refine Wo (wpAny_pyHash_str (Wo (KTD.kt_dictFind_strs ho he (by obtain⟨l⟩:=es;simpa using hr.exact) ?_)));obtain⟨v,hv,rv⟩:=hr.find_some hd;have z:findBy (fun k v=>v.isStr k) es k=some v:=by
  obtain⟨l⟩:=es
  simpa [findBy] using hv
 rw[findBy_of_findIdx?] at z;cases hi:es.findIdx? fun e=>e.key.isStr k with
 | none=>rw[hi] at z;cases z
 | some i =>
  rw[hi] at z;refine Wo (wpAny_dictEntries ho he (Wq ?_));rw[show(es[i]?.map (·.val))=some v from z];exact q v rv
end
def Ra(K:W.Frag)(td ty:TE):TE:=fun σ H Q=>td σ H fun x H1=>ty σ H1 fun y H2=>∃(t:Addr)(F:List (Str × Str))(k nm:Str),x=.ref t/\y=.str k/\KFT K t F/\KTD.datumAt k F=some nm /\
 ∀ f,W.nsIn K mainGlobals nm=some (some (.ref f))->Q (.ref f) H2
def K3{X:Cx}{o i:Expr}{pos:Pos}{td ty:TE}(ho:PE X o td)(hi:PE X i ty)(hs:QD i):PE X (.Subscript o i pos) (Ra X.K td ty):=by
 intro pins s σ H Q I h;refine Ek PySem.F.slot_dict_getitem.lookup hs (thn (ho pins s σ H _ I h) fun u s1 ⟨x,H1,I1,rx,q1⟩=>thn (hi pins s1 σ H1 _ I1 q1) fun iv s2 ⟨y,H2,I2,ry,t,F,k,nm,ex,ey,kt,hk,q2⟩=>?_);subst ex ey;cases rx;obtain⟨tk,rfl⟩:=ry;have T:=kt.tab I2.kIn;have hty:s2.TypeIs (.ref t) "dict":=by
  obtain⟨_,o,es,ep,ho,hc,_⟩:=T;exact⟨o,ho,hc.1⟩
 refine⟨hty,?_⟩;unfold getItem
 try with_reducible refine WW ?_
 refine Wo (wpAny_sequenceKey hty (by decide) (Wo (wpAny_callSpecial?_slot hty slot_dict_getitem
  (W6 slot_dict_getitem hty entry_dict_getitem ?_ (args_dict_getitem _ _)))))
 show wpAny _ _ (dictGet t (.str k tk) >>= _) _ _ s2;refine Wo (Kd T hk fun v rv=>Wq ⟨v,rfl,Wq ?_⟩);obtain⟨f,rfl,hf⟩:=Ml rv;exact⟨.ref f,H2,I2.tok _,rfl,q2 f hf⟩
def jN(hw:X.w=w)(hc:X.calm=true):fP X (.type "set") (Oi X.K w):=by subst hw;exact CP hc
def fU(hw:X.w=w)(hc:X.calm=true)(hu:X.A.units+64<cLine):fP X (.builtin "sorted") (u9 w):=by subst hw;exact jk hc hu
def qj{X:Cx}{K:W.Frag}(hK:X.K=K):fP X (.type "list") (fun xs H Q=>∃ p ys,xs=[.ref p]/\(SqL K H p ys\/SqT K H p ys)/\∀ l,H l=none->Q (.ref l) (upd H l (.lst ys))):=by subst hK;exact dM
def MgK(K:W.Frag)(mg:Str->Option Value):Prop:=∀(nm:Str)(v:Value),W.nsIn K mainGlobals nm=some (some v)->mg nm=some v
def mgk{K:W.Frag}{mg:Str->Option Value}{h:Heap}(X:K.In h)(G:h.Ns mainGlobals mg):MgK K mg:=fun _ _ e=>W.mg_of X G e
end L2
namespace SX
open PySem PySem.Spec PyProof.Rows
def oO{E:Value->Shared->Prop}{val:Nat->Int}{Q:Value->Shared->Prop}
  (hd:A.handled=none)(tl:s.heap.IsTuple l items)(hv:∀(i:Nat)(v:Value),items[i]?=some v->∃ t,v=Value.int (val i) t)(room:items.size+1<=1002)
  (q:∀(g:Heap)(tk:Nat),ST.Ka w g s.heap.objs.size (zL val items.size)->(∀ b o,b<s.heap.objs.size->s.heap.get? b=some o->g.get? b=some o)->Q (.ref s.heap.objs.size) { s with heap:=g,toks:=tk }) :
  wpAny (model prog w) A (call (.type "set") [.ref l]) Q E s :=
 jB hd (.inl tl) hv room q
end SX
namespace L2
open PySem PySem.W PyProof.Rows
def Jk(K:W.Frag)(w:World):List V->Hp->VK->Prop:=fun xs H Q=>∃(p:Addr)(ns:List Int),xs=[.ref p]/\SqT K H p (ns.map V.int)/\ns.length<=1001/\∀(a:Addr)(ms:List Int),H a=none->ms.Nodup->(∀ k,k∈ms↔k∈ns)->ms.length<=ns.length->Q (.ref a) (upd H a (.ext (intΦ w a ms)))
def zB(hw:X.w=w)(hc:X.calm=true):fP X (.type "set") (Jk X.K w):=by
 subst hw;intro pins s σ H xs us Q I r h;obtain⟨p,ns,rfl,hp,hz,q⟩:=h;obtain⟨u,rfl,rx⟩:=vals1 r;cases rx;obtain⟨its,rv,pl,hzz⟩:=I.tuple hp;have hil:=rv.length;rw[Xa] at hil;have hsz:its.toArray.size=ns.length:=by simp;lia
 refine SX.oO (val:=fun i=>ns.getD i 0) (I.ok.hd hc) (show s.heap.IsTuple _ its.toArray from pl) (fun i v hv=>Ez rv (by simpa using hv)) (by rw[hsz];lia) fun g tk hS kp=>?_
 rw[hsz] at hS;obtain⟨h1,h2⟩:=rQ (ns:=ns) ns.length (Wu _);have h3:=SX.lM (val:=fun i=>ns.getD i 0) (i:=ns.length);generalize SX.zL (fun i=>ns.getD i 0) ns.length=ms at hS h1 h2 h3;rw[take_length] at h2;refine⟨.ref s.heap.objs.size,_,I.laid (t':=tk) (o:=.ext (intΦ X.w s.heap.objs.size ms)) (fun b o e=>kp b o (Ww e) e) (Wu _) ?_,rfl,q _ ms I.fresh h1 h2 (by lia)⟩;refine⟨hS,?_,fun h1 h2 hh k=>hh.keep k⟩;obtain⟨o,_,_,_,_,eo,_⟩:=hS.ex;exact⟨o,eo⟩
end L2
namespace L2
open PySem PySem.Spec PyProof.Rows
def SM:R2:=fun x y H Q=>∃(l b:Addr)(xs:List V),x=.ref l/\y=.ref b/\H l=some (.lst xs)/\H b=some (.lst [])/\Q (.bl xs.isEmpty) H
def Dz(hu:X.A.units<cLine):OpR X (compareOp .Eq) SM:=by
 intro pins s σ H x y v u Q I rx ry h;obtain⟨l,b,xs,rfl,rfl,hl,hb,q⟩:=h;cases rx;cases ry;obtain⟨its,r1,p1,_⟩:=I.list (SqL.of (K:=X.K) hl);obtain⟨its2,r2,p2,_⟩:=I.list (SqL.of (K:=X.K) hb);cases r2;cases r1 with
 | nil=>exact SeqAt.eq_listAt (e:=fun _=>true) p1.isList p2.isList rfl hu (fun j h1 _=>absurd h1 (Nat.not_lt_zero j)) ⟨.bl true,H,I,rfl,q⟩
 | cons _ _=>exact SeqAt.eq_list_lengthsAt p1.isList p2.isList (by simp) hu ⟨.bl false,H,I,rfl,q⟩
def notStar:Expr->Bool
 | .Starred ..=>false
 | _=>true
def Dk(h:notStar e=true):starEach (e::es) env=(false,eval e env)::starEach es env:=by
 cases e <;> first | rfl | cases h
def Tg(ha:PE X e te)(hr:PA X es t)(h:notStar e=true:=by rfl):PA X (e::es) (BL te t):=aj ha hr (Dk h)
structure QSs(X:Cx)(st:List Stmt)(t:TS):Prop where
 h:PSs X st t
structure QS(X:Cx)(st:Stmt)(t:TS):Prop where
 h:PS X st t
structure QE(X:Cx)(e:Expr)(t:TE):Prop where
 h:PE X e t
structure QA(X:Cx)(es:List Expr)(t:TA):Prop where
 h:PA X es t
def gF{X:Cx}{st:Stmt}{rest:List Stmt}{t u:TS}(h1:QS X st t)(h2:QSs X rest u):QSs X (st::rest) (PB t u):=⟨au h1.h h2.h⟩
def Jd(hN:X.N.Nodup)(hi:X.N[i]?=some x)(hx:Loc X.env.scope x)(he:QE X e te)(hs:swapsWith e (some (.Name x pos')) pos.line X.env=pure false:=by rfl)
  (hf:X.fn x=true\/X.env.scope.names.lookup x=some .local:=by first | exact .inl rfl | exact .inr rfl):QS X (.Assign [.Name x pos'] e pos) (NP te (zf i)):=⟨aL hN hi hx he.h hs hf⟩
def Ng(h:QA X es t):QE X (.List es pos) (Rw t):=⟨bR h.h⟩
theorem Pb:QA X [] Q8:=⟨aq⟩
def Dn(ha:QE X e te)(hr:QA X es t)(h:notStar e=true:=by rfl):QA X (e::es) (BL te t):=⟨Tg ha.h hr.h h⟩
structure QPs(X:Cx)(pos:Pos)(keys:List (Option Expr))(values:List Expr)(trs:List (TE × TE)):Prop where
 h:PPs X pos keys values trs
def JM:QPs X pos [] [] []:=⟨vR⟩
def xU(hk:QE X k tk)(hv:QE X v tv)(hr:QPs X pos ks vs trs):QPs X pos (some k::ks) (v::vs) ((tk,tv)::trs):=⟨fM hk.h hv.h hr.h⟩
def K4(h:QPs X pos keys values trs)(hall:keys.all (·.isSome)=true)(hl:keys.length=values.length)(h0:keys≠[])(h15:keys.length<=15):QE X (.Dict keys values pos) (Ot trs):=⟨uU h.h hall hl h0 h15⟩
def HN:QE X (.Constant (.str x) k pos) (tC (.str x)):=⟨aG⟩
def Qm:R2:=fun x y H Q=>(x=.non/\y=.non/\Q (.bl false) H)\/(x=.non/\(∃ es,Den H y (.tup es))/\Q (.bl true) H)\/(y=.non/\(∃ es,Den H x (.tup es))/\Q (.bl true) H)\/Om x y H Q
theorem Pn(hu:X.A.units+64<cLine):OpR X (compareOp .NotEq) Qm:=by
 intro pins s σ H x y v u Q I rx ry h;rcases h with⟨rfl,rfl,q⟩ | ⟨rfl,⟨es,hy⟩,q⟩ | ⟨rfl,⟨es,hy⟩,q⟩ | h
 ·exact yK pins s σ H _ _ v u Q I rx ry ⟨rfl,q⟩
 ·obtain⟨a,vs,rfl,ha,hda⟩:=aN hy;cases rx;cases ry;obtain⟨its,r1,p1,_⟩:=I.tuple (SqT.of (K:=X.K) ha);exact SeqAt.RcNeAt.none_tuple p1 (by lia) X.prog X.w _ _ ⟨.bl true,H,I,rfl,q⟩
 ·obtain⟨a,vs,rfl,ha,hda⟩:=aN hy;cases rx;cases ry;obtain⟨its,r1,p1,_⟩:=I.tuple (SqT.of (K:=X.K) ha);exact SeqAt.RcNeAt.tuple_none p1 (by lia) X.prog X.w _ _ ⟨.bl true,H,I,rfl,q⟩
 ·exact Lw hu pins s σ H x y v u Q I rx ry h
def NZ(hu:X.A.units+64<cLine):OpR X (compareOp .NotEq) (fun x y H Q=>rNe x y H Q\/Qm x y H Q):=by
 intro pins s σ H x y v u Q I rx ry h;rcases h with h | h
 ·exact yK pins s σ H x y v u Q I rx ry h
 ·exact Pn hu pins s σ H x y v u Q I rx ry h
theorem nj{α:Type}{f:α->D}(h:∀ a,Pl (f a)):∀ xs:List α,PlL (xs.map f)
 | []=>trivial
 | x::xs=>⟨h x,nj h xs⟩
end L2
namespace L2
open PySem PySem.W PySem.Calls PyProof.Rows
section
variable {prog:Program}{w:World}{A:Around}{E:Value->Shared->Prop}{s:Shared}
def vU{a n:Nat}(ha:a<=n):sliceBounds (some (a:Int)) none none n=((a:Int),(n:Int),1):=by
 simp only[sliceBounds,Option.getD_none];have h1:¬ ((a:Int)<0):=by lia
 simp only[h1,if_false,show(1:Int)>0 by decide,if_true];congr 1;lia
def tM{n n2:Nat}{a:Nat}{Q:Unit->Shared->Prop}
    (e:s.heap.get? l=some { cls:=.type "list",data:=.seq items n })(e2:s.heap.get? b=some { cls:=.type "list",data:=.seq new n2 })(hne:l≠b)
    (hs:s.heap.IsSliceOf sl vl vu .none)(pl:IsPart vl (some (a:Int)))(pu:IsPart vu none)(hac:a<=items.size)
    (hsz:items.size+new.size<=sizeLine)(h:Q () { s with heap:=s.heap.update l (Obj.mapSeq fun xs=>xs.extract 0 a++new++xs.extract items.size xs.size) }) :
    wpAny (model prog w) A (setItem (.ref l) (.ref sl) (.ref b)) Q E s:=by
  have hl:=PySem.IsL.isList e;have hb:=PySem.IsL.isList e2;obtain⟨os,hos,hcs,hds⟩:=id hs;have hTs:s.TypeIs (.ref sl) "slice":=⟨os,hos,hcs⟩
  have hstep:¬ ((rawPart none == rawInt 0)=true):=Wz;have hsame:Builtin.List.listSameRef (.ref l) (.ref b)=false:=by
    unfold Builtin.List.listSameRef;exact beq_eq_false_iff_ne.mpr hne
  have hmax:(max (a:Int) (items.size:Int)).toNat=items.size:=by lia
  have hz':((fun xs:Array Value=>xs.extract 0 a++new++xs.extract items.size xs.size) items).size<=sizeLine+1:=by
    simp only[Array.size_append,Array.size_extract];lia
  unfold setItem
  try with_reducible refine WW ?_
  first | refine Wo (Wq ?_) | skip
  refine Wo (wpAny_sequenceKey hl.typeIs (by decide) ?_);refine Wo (wpAny_callSpecial?_slot hl.typeIs slot_list_setitem
    (W6 slot_list_setitem hl.typeIs entry_list_setitem ?_ (args_list_setitem _ _ _)))
  show wpAny _ _ (Builtin.List.listSubscript? (.ref sl) >>= _) _ _ s;refine Wo ?_;unfold Builtin.List.listSubscript?;refine Wo (wpAny_specialOf hTs slice_no_index ?_);simp only[Option.isNone_none,if_true];refine Wq ?_;refine Wo (wpAny_typeOf hTs ?_)
  first
    | rw[if_neg (by decide)]
    | refine W.KFB.if_not (by decide) ?_
  rw[listSliceParts_eq];refine Wo (Wo (wpAny_field hos hds rfl (Wo (wpAny_listPart .none ?_))));rw[if_neg hstep];refine Wo (wpAny_field hos hds rfl (Wo (wpAny_listPart pl ?_)));refine Wo (wpAny_field hos hds rfl (Wo (wpAny_listPart pu (Wq ?_))))
  first
    | simp only[hsame,Bool.false_eq_true,if_false]
    | refine W.KFB.if_not hsame ?_
    | (dsimp only
       rw[if_neg (by rw[hsame];exact Wz)])
  refine Wo ?_;unfold Builtin.List.listAllItems;refine Wo (wpAny_typeOf hb.typeIs ?_)
  first
    | refine W.KFB.if_so (by decide) ?_
    | rw[if_pos (by decide)]
    | simp only[beq_self_eq_true,Bool.true_or,if_true]
  unfold Builtin.List.listItems;refine Wo (wpAny_seqItems e2 rfl (Wq ?_));refine Wo (Wo (wpAny_seqItems e rfl (Wq ?_)));refine Wo (wpAny_of_eq ((sliceIndices_raw (some (a:Int)) none none items.size (by simp)).trans (congrArg (pure:Int × Int × Int->Sem (Int × Int × Int)) (vU hac))) ?_);show wpAny _ _ (if ((1:Int) == 1)=true then _ else _) _ _ s;rw[if_pos (by decide)];refine Wo (wpAny_rule ?_)
  first
    | simp only[rP hsz,Bool.false_eq_true,if_false]
    | refine W.KFB.if_not (rP hsz) ?_
  first | refine Wo (Wq ?_) | skip
  rw[hmax,Int.toNat_natCast];refine Wo (wpAny_updateSeq e rfl ?_);refine Wo (wpAny_letGo ?_)
  first
    | exact Wo (Wq (Wq ⟨.none,rfl,Wq h⟩))
    | exact Wq ⟨.none,rfl,Wq h⟩
variable {X:Cx}
def Hu{a:Nat}{Q:Unit->Shared->Prop}(I:Inv X pins σ H s)
  (hH:H l=some (.lst xs))(hB:H b=some (.lst ys))(hne:l≠b)(hs:s.heap.IsSliceOf sl vl vu .none)(ra:IsPart vl (some (a:Int)))(rc:IsPart vu none)(hac:a<=xs.length)
  (hz:xs.length+ys.length<=sizeLine)(h:∀ s',Inv X pins σ (upd H l (.lst (xs.take a++ys))) s'->Q () s') :
  wpAny (model X.prog X.w) X.A (setItem (.ref l) (.ref sl) (.ref b)) Q X.xe s:=by
 obtain⟨z,its,n,r,hl,e⟩:=I.lstM hH;obtain⟨z2,its2,n2,r2,hl2,e2⟩:=I.lstM hB;refine tM e e2 hne hs ra rc (by rw[Xd];lia) (by rw[Xd,Xd];lia) (h _ ?_);refine I.lset hH e ?_ (Vals.append (r.take _) r2) ?_
 ·have:=Ba its its2 a its.toArray.size;rw[show its.drop its.toArray.size=[] by simp,append_nil] at this;exact this
 ·rw[W0,length_take];lia
def Qs(to:TE)(tl:TO):TG:=fun v σ H Q=>to σ H fun o H1=>tl σ H1 fun l H2=>∃(p q:Addr)(xs ys:List V)(a:Nat),o=.ref p/\v=.ref q/\l=some (a:Int)/\H2 p=some (.lst xs)/\H2 q=some (.lst ys)/\p≠q/\a<=xs.length/\xs.length+ys.length<=sizeLine/\Q σ (upd H2 p (.lst (xs.take a++ys)))
def J8{o lo:Expr}{p2 pos:Pos}{to:TE}{tl:TO}(ho:PE X o to)(hl:PO X (some lo) tl)
  (ha:∀ v,assign (.Subscript o (.Slice (some lo) none none p2) pos) X.env v=(do
   let ov ← holding [v] (eval o X.env)
   let iv ← holding [v,ov] (eval (.Slice (some lo) none none p2) X.env)
   standAt pos
   holding [v,ov,iv] (setItem ov iv v)
   release [iv,v,ov] []):=by intro _;rfl):PG X (.Subscript o (.Slice (some lo) none none p2) pos) (Qs to tl):=by
 intro pins s σ H v u Q I r h;rw[ha];refine Wo (WW (thn (ho pins s σ H _ I h) fun ov s1 ⟨x,H1,I1,r1,q1⟩=>?_));refine Wo (WW (wpAny_Slice (thn (hl pins s1 σ H1 _ I1 q1) fun vl s2 ⟨l,H2,I2,pl,q2⟩=>?_)));rw[evalPart_none];refine Wq (Wq ?_);obtain⟨p,q,xs,ys,a,rfl,rfl,rfl,hp,hq,hne,hax,hz,k⟩:=q2;cases r;cases r1;have I4:Inv X pins σ H2 { s2 with heap:=s2.heap.push { cls:=.type "slice",data:=.fields #[vl,.none,.none] } }:=I2.kept fun b ob q=>Ws _ q
 refine Wo (wpAny_standAt (Wo (WW (Hu I4 hp hq hne (Heap.IsSliceOf.new ..) pl .none hax hz fun s5 I5=>?_))));exact wpAny_release ⟨σ,_,I5,k⟩
end
end L2
namespace L2
open PySem PySem.Spec PyProof.Rows
def uO:List V->List V->Bool
 | [],[]=>true
 | x::xs,y::ys=>eqV x y && uO xs ys
 | _,_=>false
def Ho(h:fu x=true):eqV x x=true:=by
 cases x <;> first | (cases h;done) | simp[eqV]
theorem tU:∀ {xs:List V},(∀ v∈xs,fu v=true)->uO xs xs=true
 | [],_=>rfl
 | x::xs,h=>by
  show(eqV x x && uO xs xs)=true;rw[Ho (h x (.head _)),tU fun v hv=>h v (.tail _ hv)]
  rfl
theorem wJ:∀ {xs ys:List V},xs.length≠ys.length->uO xs ys=false
 | [],[],h=>absurd rfl h
 | [],_::_,_=>rfl
 | _::_,[],_=>rfl
 | x::xs,y::ys,h=>by
  show(eqV x y && uO xs ys)=false;rw[wJ fun e=>h (congrArg (· + 1) e),Bool.and_false]
def range_all{f:Nat->Bool}:(List.range (n+1)).all f=(f 0 && (List.range n).all fun i=>f (i+1)):=by
 rw[List.range_succ_eq_map,all_cons,List.all_map]
 rfl
theorem xK:∀ {xs ys:List V},xs.length=ys.length->(List.range xs.length).all (fun j=>eqV (xs.getD j .non) (ys.getD j .non))=uO xs ys
 | [],[],_=>rfl
 | [],_::_,h=>nomatch h
 | _::_,[],h=>nomatch h
 | x::xs,y::ys,h=>by
  rw[length_cons,range_all];show(eqV x y && _)=(eqV x y && uO xs ys);rw[← xK (Nat.succ.inj h)]
  rfl
theorem wQ:∀(es:List Bool),(List.range es.length).all (fun j=>es.getD j true)=es.all id
 | []=>rfl
 | e::es=>by
  rw[length_cons,range_all,all_cons,← wQ es]
  rfl
def ItE(H:Hp)(x y:V)(e:Bool):Prop:=(fu x=true/\fu y=true/\e=eqV x y)\/∃(a b:Addr)(xs ys:List V),x=.ref a/\y=.ref b/\H a=some (.lst xs)/\H b=some (.lst ys)/\(∀ v∈xs,fu v=true)/\(∀ v∈ys,fu v=true)/\e=uO xs ys
section
variable {X:Cx}{pins:List (Addr × Obj)}{σ:St}{H:Hp}{s:Shared}
def NK(I:Inv X pins σ H s)(hu:A.units<cLine)(rx:RelV x u)(ry:RelV y v)(h:ItE H x y e):SeqAt.EqAt A s u v e:=by
 rcases h with⟨f1,f2,rfl⟩ | ⟨a,b,xs,ys,rfl,rfl,ha,hb,h1,h2,rfl⟩
 ·exact Di rx ry f1 f2
 cases rx;cases ry;by_cases hab:a=b
 ·subst hab;rw[ha] at hb;cases hb;rw[tU h1];exact SeqAt.EqAt.same _
 obtain⟨its,r1,p1,_⟩:=I.list (SqL.of ha);obtain⟨its2,r2,p2,_⟩:=I.list (SqL.of hb);have m1:=r1.length;have m2:=r2.length;refine SeqAt.EqAt.of_refs hab ?_;by_cases hl:xs.length=ys.length
 ·have key:=SeqAt.RcAt.lists (e:=fun j=>eqV (xs.getD j .non) (ys.getD j .non)) p1.isList p2.isList (by simp;lia) hu fun j g1 g2=>?_
  ·have q:=xK hl;rw[show xs.length=its.toArray.size by simp;lia] at q;rw[q] at key;exact key
  ·have hj1:j<xs.length:=by simpa [m1] using g1
   have hj2:j<ys.length:=by simpa [m2] using g2
   obtain⟨w1,hw1,rw1⟩:=r1.get (Wr hj1);obtain⟨w2,hw2,rw2⟩:=r2.get (Wr hj2);have q1:its.toArray[j]=w1:=by
    have:=(Wt.mp hw1).2
    simpa using this
   have q2:its2.toArray[j]=w2:=by
    have:=(Wt.mp hw2).2
    simpa using this
   rw[q1,q2,Wv,Wv,Wr hj1,Wr hj2];exact Di rw1 rw2 (h1 _ (getElem_mem hj1)) (h2 _ (getElem_mem hj2))
 ·rw[wJ hl];exact SeqAt.RcAt.lists_lengths p1.isList p2.isList (by simp;lia) hu
end
def Q9:R2:=fun x y H Q=>∃(l b:Addr)(xs ys:List V)(es:List Bool),x=.ref l/\y=.ref b/\H l=some (.lst xs)/\H b=some (.lst ys) /\
 (xs.length=ys.length->es.length=xs.length/\∀(j:Nat)(u v:V),xs[j]?=some u->ys[j]?=some v->ItE H u v (es.getD j true))/\Q (.bl (!(decide (xs.length=ys.length) && es.all id))) H
def Lx(hu:X.A.units+64<cLine):OpR X (compareOp .NotEq) Q9:=by
 intro pins s σ H x y v u Q I rx ry h;obtain⟨l,b,xs,ys,es,rfl,rfl,hl,hb,hs,q⟩:=h;cases rx;cases ry;obtain⟨its,r1,p1,_⟩:=I.list (SqL.of hl);obtain⟨its2,r2,p2,_⟩:=I.list (SqL.of hb);have m1:=r1.length;have m2:=r2.length;by_cases hz:xs.length=ys.length
 ·obtain⟨hel,hs⟩:=hs hz;have key:=SeqAt.RcNeAt.lists (A:=X.A) (e:=fun j=>es.getD j true) p1.isList p2.isList (by simp;lia) (by lia) fun j h1 h2=>?_
  ·have e:=wQ es;rw[show es.length=its.toArray.size by simp;lia] at e;rw[e] at key;rw[W9 hz,Bool.true_and] at q;exact key X.prog X.w _ _ ⟨.bl _,H,I,rfl,q⟩
  ·have hj1:j<xs.length:=by simpa [m1] using h1
   have hj2:j<ys.length:=by simpa [m2] using h2
   obtain⟨w1,hw1,rw1⟩:=r1.get (Wr hj1);obtain⟨w2,hw2,rw2⟩:=r2.get (Wr hj2);have q1:its.toArray[j]=w1:=by
    have:=(Wt.mp hw1).2
    simpa using this
   have q2:its2.toArray[j]=w2:=by
    have:=(Wt.mp hw2).2
    simpa using this
   rw[q1,q2];exact NK I (by first | (simp only[Around.in1];lia) | lia) rw1 rw2 (hs j _ _ (Wr hj1) (Wr hj2))
 ·have key:=SeqAt.RcNeAt.lists_lengths (A:=X.A) p1.isList p2.isList (by simp;lia) (by lia);rw[WX hz,Bool.false_and] at q;exact key X.prog X.w _ _ ⟨.bl _,H,I,rfl,q⟩
end L2
namespace L2
open PySem PySem.W PyProof.Rows
def BR{X:Cx}{w:World}{n:Nat}{C:D->Prop}(hC:KCls C n)(hw:X.w=w)(hc:X.calm=true)(hu:X.A.units+64<cLine):fP X (.type "set") (fun xs H Q=>Jk X.K w xs H Q\/wW X.K w C xs H Q):=by
 intro pins s σ H xs us Q I r h;rcases h with h | h
 ·exact zB hw hc pins s σ H xs us Q I r h
 ·exact uc hC hw hc hu pins s σ H xs us Q I r h
def uJ{X:Cx}{w:World}{n:Nat}{C:D->Prop}(hC:KCls C n)(hw:X.w=w)(hc:X.calm=true)(hu:X.A.units+64<cLine):fP X (.builtin "sorted") (fun xs H Q=>u9 w xs H Q\/DP w C xs H Q):=by
 intro pins s σ H xs us Q I r h;rcases h with h | h
 ·subst hw;exact jk hc hu pins s σ H xs us Q I r h
 ·exact qP hC hw hc hu pins s σ H xs us Q I r h
end L2
namespace L2
open PySem PySem.Spec PyProof.Rows
def Lk{X:Cx}{st:Stmt}{t:TS}(h1:QS X st t):QSs X [st] t:=⟨aB h1.h⟩
end L2
namespace Mine
open PySem L2 PyProof.Rows
def top(i:Nat):Stmt:=PySem.Challenge.pw_twainkeep_k20_taken_out.main.body.getD i (.Pass ⟨0,0,0,0⟩)
abbrev rm:Stmt:=top 11
abbrev qU:Stmt:=top 13
abbrev qD:Stmt:=top 16
abbrev jq:Stmt:=top 22
abbrev jx:Stmt:=top 23
abbrev lW:Stmt:=top 24
abbrev dB:Stmt:=top 25
abbrev jh:Stmt:=top 28
abbrev gn:Stmt:=top 31
abbrev dz:Stmt:=top 33
abbrev jw:Stmt:=top 34
abbrev iI:Stmt:=top 46
abbrev ju:Stmt:=top 47
abbrev FT:Stmt:=top 51
abbrev PK:Stmt:=top 53
abbrev Fx:Stmt:=top 54
abbrev xg:Stmt:=top 55
abbrev mZ:Stmt:=top 56
abbrev yr:Stmt:=top 57
abbrev FJ:Stmt:=top 58
abbrev lU:Stmt:=top 59
abbrev wI:Stmt:=top 60
abbrev Ac:Stmt:=top 61
abbrev oY:Stmt:=top 62
abbrev Fv:Stmt:=top 63
abbrev pN:Stmt:=top 64
abbrev qL:Stmt:=top 65
abbrev G7:Stmt:=top 66
abbrev Hs:Stmt:=top 67
abbrev zu:Stmt:=top 68
abbrev tW:Stmt:=top 69
abbrev sDo:Stmt:=top 70
abbrev FP:Stmt:=top 71
abbrev jj:Stmt:=top 72
abbrev Hw:Stmt:=top 73
abbrev xZ:Stmt:=top 74
abbrev sE:Stmt:=top 75
abbrev oh:Stmt:=top 76
abbrev Hg:Stmt:=top 77
def cg(s:Same H H')(h:H l=none):Same H (upd H' l o):=fun c u z=>by
 rw[aF (aD z h)];exact s c u z
def bZ{α:Type}{xs:List α}(h:i<xs.length):xs[i]?=some xs[i]:=Wr h
def take_one{α:Type}{xs:List α}{x:α}(h:xs[i]?=some x):xs.take (i+1)=xs.take i++[x]:=by rw[take_add_one,h];rfl
def at_of(d:bL H vs ds){i:Nat}(h:vs[i]?=some v)(he:ds[i]?=some e):Den H v e:=by
 obtain⟨f,hf,k⟩:=d.at_ h;rw[hf] at he;cases he;exact k
def lC(e:H l=some (.lst us)):∀(b:Addr)(vs:List V),H b=some (.tup vs)->(upd H l (.lst ws)) b=some (.tup vs):=fun b vs z=>by
 rw[aF]
 ·exact z
 ·intro q;rw[q,e] at z;cases z
def zK{t u:TS}{D:Ends}{σ:L2.St}{H:Hp}(P:L2.St->Hp->Prop)(h1:∀ N:L2.St->Hp->Prop,(∀ σ' H',P σ' H'->N σ' H')->t { D with nx:=N } σ H)(h2:∀ σ' H',P σ' H'->u D σ' H'):PB t u D σ H:=h1 (u D) h2
def nxP{t u:TS}{D:Ends}{r:VK}{b c:L2.St->Hp->Prop}{σ:L2.St}{H:Hp}(P:L2.St->Hp->Prop)(h1:∀ N:L2.St->Hp->Prop,(∀ σ' H',P σ' H'->N σ' H')->t { D with nx:=N } σ H)(h2:∀ σ' H',P σ' H'->u D σ' H'):Ends.nx ⟨PB t u D,r,b,c⟩ σ H:=h1 (u D) h2
def mD(c:Nat):Prop:=(32<=c/\c<=126)\/c=10
abbrev Nms:=List (List Nat)
abbrev Prt:=List Nat × List Nat × List Int
abbrev Lnk:=Nms × Nms × Int × List Int × List Int
def zY(ms:List Int):D:=.tup (ms.map D.int)
def dZ(ns:Nms):D:=.tup (ns.map sD)
def bH(q:Prt):D:=.tup [sD q.1,sD q.2.1,zY q.2.2]
def aV(k:Lnk):D:=.tup [dZ k.1,dZ k.2.1,.int k.2.2.1,.tup [zY k.2.2.2.1,zY k.2.2.2.2]]
def Gp(ms:List Int):Prop:=(∀ n∈ms,0<=n/\n<=1000000000000)/\ms.Pairwise (· < ·)/\ms.length<=20
def Gu(ns:Nms):Prop:=(∀ x∈ns,isNm ⟨x.toArray⟩=true)/\ns.Pairwise (fun a b=>dlt (sD a) (sD b)=true)/\ns.length<=1000
def vW(q:Prt):Prop:=isNm ⟨q.1.toArray⟩=true/\q.2.1.length<=1000/\(∀ c∈q.2.1,mD c)/\Gp q.2.2/\q.2.2≠[]
def qy(k:Lnk):Prop:=Gu k.1/\Gu k.2.1/\k.1≠[]/\k.2.1≠[]/\0<=k.2.2.1/\k.2.2.1<=1000000000000/\Gp k.2.2.2.1/\Gp k.2.2.2.2
theorem PL:∀ {cs:List Int}{vs:List V},bL H vs (cs.map D.int)->vs=cs.map V.int
 | [],[],_=>rfl
 | _::cs,v::vs,h=>by
  have e:v=.int _:=h.1;rw[e,PL h.2]
  rfl
 | [],_::_,h=>h.elim
 | _::_,[],h=>h.elim
theorem eZ(H:Hp):∀ cs:List Int,bL H (cs.map V.int) (cs.map D.int)
 | []=>trivial
 | _::cs=>⟨rfl,eZ H cs⟩
theorem eG:∀ {ds es:List D}{vs us:List V},bL H vs ds->bL H us es->bL H (vs++us) (ds++es)
 | [],_,[],_,_,h=>h
 | _::_,_,_::_,_,h,g=>⟨h.1,eG h.2 g⟩
 | [],_,_::_,_,h,_=>h.elim
 | _::_,_,[],_,h,_=>h.elim
theorem cV(h:cN n d):∀ k,cN (n+k) d
 | 0=>h
 | k+1=>(cV h k).up
def cO(hl:ds.length<=100000)(h:∀ d∈ds,cN n d):cN (n+1) (.tup ds) :=
 ⟨(fun z=>nomatch z),fun es e=>by injection e with e;subst e;exact⟨hl,h⟩⟩
def jC(h:ms.length<=1000):cN 1 (zY ms):=cO (by rw[Xa];lia) fun d hd=>by
 obtain⟨i,_,rfl⟩:=mem_map.mp hd;exact qT i
def dH(h:ns.length<=1000):cN 1 (dZ ns):=cO (by rw[Xa];lia) fun d hd=>by
 obtain⟨i,_,rfl⟩:=mem_map.mp hd;exact eF _
theorem rG{α β:Type}{f:α->D}{g:β->D}(h:∀ a b,Sim (f a) (g b)):∀(xs:List α)(ys:List β),uh (xs.map f) (ys.map g)
 | [],_=>xQ _
 | _::_,[]=>OJ _
 | x::xs,y::ys=>iV (h x y) (rG h xs ys)
def Dw(a b:Int):Sim (.int a) (.int b):=trivial
def qe(a b:Str):Sim (.str a) (.str b):=trivial
def vf(a b:List Int):Sim (zY a) (zY b):=yI (rG (fun a b=>Dw a b) a b)
def nG(a b:Nms):Sim (dZ a) (dZ b):=yI (rG (fun a b=>qe _ _) a b)
def lG(a b:Lnk):Sim (aV a) (aV b):=by
 unfold aV;exact yI (iV (nG _ _) (iV (nG _ _) (iV (Dw _ _) (iV (yI (iV (vf _ _) (iV (vf _ _) (xQ _)))) (xQ _)))))
def Dh(g:qy q):cN 3 (aV q):=by
 obtain⟨g1,g2,g3,g4,g5,g6,g7,g8⟩:=g;refine cO (by simp) fun d hd=>?_
 simp only[mem_cons,not_mem_nil,or_false] at hd;rcases hd with rfl | rfl | rfl | rfl
 ·exact(dH g1.2.2).up
 ·exact(dH g2.2.2).up
 ·exact(qT _).up.up
 ·refine cO (by simp) fun d hd=>?_
  simp only[mem_cons,not_mem_nil,or_false] at hd;rcases hd with rfl | rfl
  ·exact jC (W7 g7.2.2 (by decide))
  ·exact jC (W7 g8.2.2 (by decide))
def lF(h:Den H v (aV q)):∃(p p0 p1 p3 p4 p5:Addr)(us0 us1:List V),v=.ref p/\H p=some (.tup [.ref p0,.ref p1,.int q.2.2.1,.ref p3])/\H p0=some (.tup us0)/\bL H us0 (q.1.map sD)/\H p1=some (.tup us1)/\bL H us1 (q.2.1.map sD) /\
  H p3=some (.tup [.ref p4,.ref p5])/\H p4=some (.tup (q.2.2.2.1.map V.int))/\H p5=some (.tup (q.2.2.2.2.map V.int)):=by
 obtain⟨p,us,rfl,hp,hd⟩:=aN h;obtain⟨b0,b1,b2,b3,rfl⟩:∃ b0 b1 b2 b3,us=[b0,b1,b2,b3]:=by
  match us,hd with
  | [b0,b1,b2,b3],_=>exact⟨b0,b1,b2,b3,rfl⟩
  | [],h=>exact h.elim
  | [_],h=>exact h.2.elim
  | [_,_],h=>exact h.2.2.elim
  | [_,_,_],h=>exact h.2.2.2.elim
  | _::_::_::_::_::_,h=>exact h.2.2.2.2.elim
 obtain⟨p0,us0,rfl,h0,hd0⟩:=aN hd.1;obtain⟨p1,us1,rfl,h1,hd1⟩:=aN hd.2.1;have e2:b2=.int q.2.2.1:=hd.2.2.1;subst e2;obtain⟨p3,us3,rfl,h3,hd3⟩:=aN hd.2.2.2.1;obtain⟨c0,c1,rfl⟩:∃ c0 c1,us3=[c0,c1]:=by
  match us3,hd3 with
  | [c0,c1],_=>exact⟨c0,c1,rfl⟩
  | [],h=>exact h.elim
  | [_],h=>exact h.2.elim
  | _::_::_::_,h=>exact h.2.2.elim
 obtain⟨p4,us4,rfl,h4,hd4⟩:=aN hd3.1;obtain⟨p5,us5,rfl,h5,hd5⟩:=aN hd3.2.1;rw[PL hd4] at h4;rw[PL hd5] at h5;exact⟨p,p0,p1,p3,p4,p5,us0,us1,rfl,hp,h0,hd0,h1,hd1,h3,h4,h5⟩
def eE(L R:List Prt)(ks:List Lnk)(al:Nms):D:=.tup [.tup (L.map bH),.tup (R.map bH),.tup (ks.map aV),dZ al]
def bO(L:List Prt):List V:=L.map fun q=>mkT q.1
def aK(n:Nat)(k:Lnk):Nms:=if n=0 then k.1 else k.2.1
def aY(n:Nat)(ks:List Lnk):Nms:=ks.flatMap (aK n)
def oN(K:W.Frag)(H:Hp)(v:V)(L R:List Prt)(ks:List Lnk)(al:Nms):Prop:=∃ p pl pr pk pa ls rs us,v=.ref p/\SqT K H p [.ref pl,.ref pr,.ref pk,.ref pa]/\SqT K H pl ls/\bL H ls (L.map bH)/\SqT K H pr rs/\bL H rs (R.map bH)/\SqT K H pk us/\bL H us (ks.map aV)/\SqT K H pa (al.map mkT)
theorem zF:∀ {cs:Nms}{vs:List V},bL H vs (cs.map sD)->vs=cs.map mkT
 | [],[],_=>rfl
 | _::cs,v::vs,h=>by
  have e:v=mkT _:=h.1;rw[e,zF h.2]
  rfl
 | [],_::_,h=>h.elim
 | _::_,[],h=>h.elim
theorem cC(H:Hp):∀ cs:Nms,bL H (cs.map mkT) (cs.map sD)
 | []=>trivial
 | _::cs=>⟨rfl,cC H cs⟩
structure Fj(L R:List Prt)(ks:List Lnk)(al:Nms):Prop where
 parts:∀ q∈L++R,vW q
 nd:((L++R).map (·.1)).Nodup
 lL:L.length<=1000
 lR:R.length<=1000
 links:∀ k∈ks,qy k
 up:ks.Pairwise fun a b=>dlt (aV a) (aV b)=true
 lk:ks.length<=1000
 alone:Gu al
 on:∀ x∈aY 0 ks,x∈L.map (·.1)
 off:∀ x∈aY 1 ks,x∈R.map (·.1)
 nd2:(aY 0 ks++aY 1 ks++al).Nodup
 len:(aY 0 ks++aY 1 ks++al).length<=4000
 al_in:∀ x∈al,x∈(L++R).map (·.1)
def lZ(h:Den H v (eE L R ks al)):∃(p pl pr pk pa:Addr)(ls rs us:List V),v=.ref p/\H p=some (.tup [.ref pl,.ref pr,.ref pk,.ref pa])/\H pl=some (.tup ls)/\bL H ls (L.map bH)/\H pr=some (.tup rs)/\bL H rs (R.map bH)/\H pk=some (.tup us)/\bL H us (ks.map aV)/\H pa=some (.tup (al.map mkT)):=by
 obtain⟨p,us,rfl,hp,hd⟩:=aN h;obtain⟨b0,b1,b2,b3,rfl⟩:∃ b0 b1 b2 b3,us=[b0,b1,b2,b3]:=by
  match us,hd with
  | [b0,b1,b2,b3],_=>exact⟨b0,b1,b2,b3,rfl⟩
  | [],h=>exact h.elim
  | [_],h=>exact h.2.elim
  | [_,_],h=>exact h.2.2.elim
  | [_,_,_],h=>exact h.2.2.2.elim
  | _::_::_::_::_::_,h=>exact h.2.2.2.2.elim
 obtain⟨pl,ls,rfl,hpl,hdl⟩:=aN hd.1;obtain⟨pr,rs,rfl,hpr,hdr⟩:=aN hd.2.1;obtain⟨pk,ws,rfl,hpk,hdk⟩:=aN hd.2.2.1;obtain⟨pa,as,rfl,hpa,hda⟩:=aN hd.2.2.2.1;rw[zF hda] at hpa;exact⟨p,pl,pr,pk,pa,ls,rs,ws,rfl,hp,hpl,hdl,hpr,hdr,hpk,hdk,hpa⟩
def oN.of{K:W.Frag}{H:Hp}{v:V}{L R:List Prt}{ks:List Lnk}{al:Nms}(h:Den H v (eE L R ks al)):oN K H v L R ks al:=by
 obtain⟨p,pl,pr,pk,pa,ls,rs,us,rfl,a1,a2,a3,a4,a5,a6,a7,a8⟩:=lZ h;exact⟨p,pl,pr,pk,pa,ls,rs,us,rfl,SqT.of a1,SqT.of a2,a3,SqT.of a4,a5,SqT.of a6,a7,SqT.of a8⟩
theorem jM{α:Type}{p:α->Bool}:∀ {xs:List α}{i:Nat} (hi:i<xs.length),(∀ x∈xs.take i,p x=false)->p xs[i]=true->xs.find? p=some xs[i]
 | x::xs,0,_,_,h=>by
  rw[find?_cons,show p x=true from h]
  rfl
 | x::xs,i+1,hi,h0,h=>by
  rw[find?_cons,h0 x (by rw[take_succ_cons];exact .head _)];exact jM (by simpa using hi) (fun y hy=>h0 y (by rw[take_succ_cons];exact .tail _ hy)) h
def lO(h:Den H v (bH q)):∃(b pm:Addr),v=.ref b/\H b=some (.tup [mkT q.1,mkT q.2.1,.ref pm])/\H pm=some (.tup (q.2.2.map V.int)):=by
 obtain⟨b,bs,rfl,hb,hbd⟩:=aN h
 match bs,hbd with
 | [c0,c1,c2],hbd =>
  have e0:c0=mkT q.1:=hbd.1;have e1:c1=mkT q.2.1:=hbd.2.1;obtain⟨pm,ms,rfl,h1,h2⟩:=aN hbd.2.2.1;rw[PL h2] at h1;exact⟨b,pm,rfl,by rw[hb,e0,e1],h1⟩
 | [],h=>exact h.elim
 | [_],h=>exact h.2.elim
 | [_,_],h=>exact h.2.2.elim
 | _::_::_::_::_,h=>exact h.2.2.2.elim
def cJ(ps:List Prt)(x:List Nat):Option Prt:=ps.find? fun p=>decide (p.1=x)
def wV(K:W.Frag)(C:Addr):Sp:=fun vs H Q E=>∃ v L R ks al x,vs=[v,mkT x]/\oN K H v L R ks al/\L.length<=60/\R.length<=60/\x.length<=1000 /\
 (∀ p,cJ (L++R) x=some p->∀(u:V)(H':Hp),Same H H'->Den H' u (bH p)->Q u H')/\(cJ (L++R) x=none->dR C H E)
section
variable {P:Program}{w:World}{K:W.Frag}{mg:Str->Option Value}{base:Heap}{Tn:Addr}
def yg:aR ["book","name","part"] ["book","name"] (aC rm):=⟨rfl,rfl,rfl,by decide +kernel,rfl,by decide +kernel,by decide +kernel⟩
def Bl(h:Has K mg "part_of" rm ["book","name"])(Ue:mg "NoPart" = some (.ref Tn))(x_NoPart:W.excIn K Tn vBm "ValueError.__new__" = true):lu P w K mg base "part_of" 1 ["book","name"] (wV K Tn):=by
 refine h.mk1 yg (fun vs H Q E hs=>?_) (fun f cdv A outer s H vs Q E hr hs=>?_)
 ·obtain⟨v,L,R,ks,al,x,rfl,_⟩:=hs
  rfl
 obtain⟨v,L,R,ks,al,x,rfl,hv,hlL,hlR,hlx,k1,k2⟩:=hs;refine⟨_,(au (dU PassesOwn.leaving rfl (fY (bF Gf (bx bJ (pv 0) aA (fun _ _=>rfl)) (bx bJ (pv 0) aA (fun _ _=>rfl)))) (aP (i:=2) yg.nd rfl (Or.inl rfl))
   (aB (cF (aO iZ (bx bJ (pv 2) aA (fun _ _=>rfl)) (pv 1) (bA _))
   (aB (aW (pv 2)))
   bB)))
  (aB (yp rfl Eh rfl Ue x_NoPart (aj (Ds (qZ aG (qZ (Hy (pv 1)) HS))) aq)))),?_⟩
 obtain⟨p,pl,pr,pk,pa,ls,rs,ws,rfl,hp,hpl,hdl,hpr,hdr,hpk,hdk,hpa⟩:=hv;have at0:atI [V.ref pl,V.ref pr,V.ref pk,V.ref pa] 0=some (.ref pl):=bC _ _;have at1:atI [V.ref pl,V.ref pr,V.ref pk,V.ref pa] 1=some (.ref pr):=aZ (xs:=[V.ref pl,V.ref pr,V.ref pk,V.ref pa]) (j:=1) rfl;have hl1:=hdl.len;have hl2:=hdr.len;rw[Xa] at hl1 hl2;refine⟨_,rfl,p,_,_,_,rfl,rfl,hp,at0,_,rfl,p,_,_,_,rfl,rfl,hp,at1,pl,pr,_,_,rfl,rfl,hpl,hpr,small (by lia),fun q3 H3 s3 e3=>?_⟩;have dA:bL H (ls++rs) ((L++R).map bH):=by
  rw[map_append];exact eG hdl hdr
 refine⟨q3,rfl,⟨_,e3⟩,?_⟩;refine jK (K:=K) (a:=q3) (xs:=ls++rs) (fun j σ H4=>∃ v2:Option V,σ=[some (.ref p),some (mkT x),v2]/\Same H H4/\SqT K H4 q3 (ls++rs)/\∀ q∈(L++R).take j,decide (q.1=x)=false) ⟨_,rfl,s3,e3,fun q hq=>by rw[take_zero] at hq;cases hq⟩ ?_ ?_ ?_
 ·rintro j σ H4 _ ⟨_,_,_,e4,_⟩;exact e4
 ·rintro j y σ H4 hj ⟨v2,rfl,s4,e4,hno⟩;obtain⟨dd,hdd,dyp⟩:=dA.at_ hj;have hnj:j<(L++R).length:=by
   have:=(Wt.mp hdd).1
   rwa [Xa] at this
  rw[W8,Wr hnj] at hdd;have edd:bH (L++R)[j]=dd:=WT hdd;subst edd;have htk:(L++R).take (j+1)=(L++R).take j++[(L++R)[j]]:=by
   rw[take_add_one,Wr hnj]
   rfl
  have hfirst:decide ((L++R)[j].1=x)=true->cJ (L++R) x=some (L++R)[j]:=fun h=>jM hnj hno h
  generalize (L++R)[j]=q at dyp htk hfirst;obtain⟨bq,pm,rfl,hbq,hpm⟩:=lO (dyp.same s4);refine gN ⟨_,rfl,bq,_,_,_,rfl,rfl,SqT.of hbq,bC _ _,_,rfl,rfl,_,rfl,?_⟩;have ez:∀ a b:List Nat,decide (mkT a=mkT b)=decide (a=b):=fun a b=>by
   by_cases h:a=b
   ·subst h;simp
   ·rw[WX h];exact WX fun z=>h (by injection z with z;injection z with z;exact(Array.mk.inj z))
  refine eU (fun z=>?_) (fun z=>?_)
  ·have z':decide (q.1=x)=true:=by rw[← ez];exact z
   exact⟨_,rfl,k1 q (hfirst z') _ _ s4 (dyp.same s4)⟩
  ·have z':decide (q.1=x)=false:=by rw[← ez];exact Bool.eq_false_iff.mpr z
   refine⟨_,rfl,s4,e4,fun q' hq'=>?_⟩;rw[htk] at hq';rcases mem_append.mp hq' with h | h
   ·exact hno q' h
   ·rw[mem_singleton.mp h];exact z'
 ·rintro σ H4 ⟨v2,rfl,s4,e4,hno⟩;have hn:cJ (L++R) x=none:=find?_eq_none.mpr fun q hq=>by
   have hlen:(ls++rs).length=(L++R).length:=by rw[W0,W0,hl1,hl2]
   have:=hno q (by rw[hlen,take_length];exact hq);rw[this];decide
  have th:=(k2 hn).up s4;have hx1:(⟨x.toArray⟩:Str).length<=sizeLine:=by
   show x.toArray.size<=sizeLine;rw[Xd];exact Nat.le_of_lt (aH hlx)
  have hx2:((Str.empty++Str.ofString "there is no part ")++(⟨x.toArray⟩:Str)).length<=sizeLine:=by
   rw[strLen_append];have e1:(Str.empty++Str.ofString "there is no part ").length=17:=by decide +kernel
   rw[e1];show 17+x.toArray.size<=sizeLine;rw[Xd];exact W7 (Nat.add_le_add_left hlx 17) (by decide)
  refine⟨_,rfl,by decide +kernel,_,rfl,.inl ⟨_,rfl,hx1,_,rfl,hx2,hx2,?_⟩⟩;exact⟨smn 1,fun e T he hT=>th.made he hT⟩
end
def Ft(a b:Prt):Sim (bH a) (bH b):=by
 unfold bH;exact yI (iV (qe _ _) (iV (qe _ _) (iV (vf _ _) (xQ _))))
def jA(h:q.2.2.length<=1000):cN 2 (bH q):=by
 refine cO (by simp) fun d hd=>?_
 simp only[mem_cons,not_mem_nil,or_false] at hd;rcases hd with rfl | rfl | rfl
 ·exact(eF _).up
 ·exact(eF _).up
 ·exact jC h
def GR(h:bH a=bH b):a.1=b.1:=by
 unfold bH at h;injection h with h;injection h with h _;injection h with h;injection h with h;exact Array.mk.inj h
def J7(h:cJ (L++R) x=some p):(L.map bH).any (fun e=>eqD e (bH p))=(cJ L x).isSome:=by
 unfold cJ at h ⊢;rw[List.find?_append] at h;cases q:L.find? (fun p=>decide (p.1=x)) with
 | some r =>
  rw[q] at h;cases h;rw[Option.isSome_some,any_eq_true];exact⟨_,mem_map_of_mem (List.mem_of_find?_eq_some q),dW.mpr rfl⟩
 | none =>
  rw[q] at h;have h':R.find? (fun p=>decide (p.1=x))=some p:=h;have hx:p.1=x:=W3 (find?_some (p:=fun p:Prt=>decide (p.1=x)) h');rw[Option.isSome_none,List.any_eq_false];intro e he z;obtain⟨r,hr,rfl⟩:=mem_map.mp he;have:=GR (dW.mp z);exact find?_eq_none.mp q r hr (W9 (this.trans hx))
def rN(K:W.Frag)(C:Addr):Sp:=fun vs H Q E=>∃ v L R ks al x,vs=[v,mkT x]/\oN K H v L R ks al/\L.length<=60/\R.length<=60/\x.length<=1000/\(∀ p∈L++R,p.2.2.length<=1000) /\
 (∀ p,cJ (L++R) x=some p->∀(H':Hp),Same H H'->Q (.int (if (cJ L x).isSome then 0 else 1)) H')/\(cJ (L++R) x=none->dR C H E)
section
variable {P:Program}{w:World}{K:W.Frag}{mg:Str->Option Value}{base:Heap}{Tn:Addr}
def GP:aR ["book","name"] ["book","name"] (aC qU):=⟨rfl,rfl,rfl,by decide +kernel,rfl,by decide +kernel,by decide +kernel⟩
def Bh(h:Has K mg "side_of" qU ["book","name"])(UG:lu P w K mg base "part_of" 1 ["book","name"] (wV K Tn)):lu P w K mg base "side_of" 2 ["book","name"] (rN K Tn):=by
 refine h.mk1 GP (fun vs H Q E hs=>?_) (fun f cdv A outer s H vs Q E hr hs=>?_)
 ·obtain⟨v,L,R,ks,al,x,rfl,_⟩:=hs
  rfl
 obtain⟨v,L,R,ks,al,x,rfl,hv,hlL,hlR,hlx,hmo,k1,k2⟩:=hs;refine⟨_,(aB (aW (Gg (aO (NT hr.units) (gV UG hr (by decide) rfl iB (aj (pv 0) (aj (pv 1) aq))) (bx bJ (pv 0) aA (fun _ _=>rfl)) (by with_unfolding_all rfl)) aA aA))),?_⟩;refine⟨_,rfl,_,rfl,v,L,R,ks,al,x,rfl,hv,hlL,hlR,hlx,fun p hp u H' s' d=>?_,fun z=>(k2 z).out⟩;obtain⟨pb,pl,pr,pk,pa,ls,rs,ws,rfl,hpb,hpl,hdl,hpr,hdr,hpk,hdk,hpa⟩:=hv;have at0:atI [V.ref pl,V.ref pr,V.ref pk,V.ref pa] 0=some (.ref pl):=bC _ _;have hpm:p∈L++R:=List.mem_of_find?_eq_some hp;refine⟨_,rfl,pb,_,_,_,rfl,rfl,(stT s' hpb),at0,pl,ls,bH p,L.map bH,2,rfl,.inr (stT s' hpl),d,hdl.same s',(fun e he=>?_),⟨_,rfl⟩,jA (hmo p hpm),(fun e he=>?_),by decide,?_⟩
 ·obtain⟨r,_,rfl⟩:=mem_map.mp he;exact⟨_,rfl⟩
 ·obtain⟨r,hr,rfl⟩:=mem_map.mp he;exact⟨jA (hmo r (W5 _ hr)),Ft _ _⟩
 rw[J7 hp];have kk:=k1 p hp H' s';refine⟨_,rfl,?_⟩;cases hq:(cJ L x).isSome with
 | true =>
  rw[hq] at kk;exact kk
 | false =>
  rw[hq] at kk;exact kk
end
def Fl(h:mkT a=mkT b):a=b:=by
 injection h with h;injection h with h;exact Array.mk.inj h
def QW(a b:List Nat):decide (mkT a=mkT b)=decide (a=b):=by
 by_cases h:a=b
 ·subst h;simp
 ·rw[WX h];exact WX fun z=>h (Fl z)
def Ry{r:Nat}(h:r<=xs.length):u6 xs none (some (r:Int))=xs.take r:=by
 unfold u6;rw[HT.vV,HT.rO,Nat.min_eq_left h];simp
def RN{r:Nat}(h:r<=xs.length):u6 xs (some (r:Int)) none=xs.drop r:=by
 unfold u6;rw[HT.vV,HT.rO,Nat.min_eq_left h];exact take_of_length_le (by rw[length_drop];lia)
def JN(xs:List V)(n:Nat)(t:V)(h:n<xs.length):xs.take n++[t]++xs.drop (n+1)=xs.set n t:=by
 rw[List.set_eq_take_append_cons_drop,if_pos h,append_assoc]
 rfl
def fW:Sp:=fun vs H Q _=>∃ p us n t,vs=[.ref p,.int (n:Nat),t]/\H p=some (.tup us)/\n<us.length/\us.length<=900/\∀(q:Addr)(H':Hp),Same H H'->H' q=some (.tup (us.set n t))->Q (.ref q) H'
def fZ(L:List Prt)(x:List Nat):List Prt:=L.filter fun p=>decide (p.1≠x)
def uM:Sp:=fun vs H Q _=>∃ p us L x,vs=[.ref p,mkT x]/\H p=some (.tup us)/\bL H us (L.map bH)/\L.length<=900/\∀(q:Addr)(ws:List V)(H':Hp),Same H H'->H' q=some (.tup ws)->bL H' ws ((fZ L x).map bH)->Q (.ref q) H'
def bf(L:List Prt)(x:List Nat):Nat:=if (cJ L x).isSome then 0 else 1
def pD(x:List Nat)(xs:Nms):inV (mkT x) (xs.map mkT)=decide (x∈xs):=by
 have e:xs.map mkT=(xs.map fun x=>(⟨x.toArray⟩:Str)).map V.str:=by rw[map_map];rfl
 rw[e,zM,Bool.eq_iff_iff,decide_eq_true_eq,decide_eq_true_eq];constructor
 ·intro h;obtain⟨y,hy,e⟩:=mem_map.mp h;have:y=x:=by injection e with e;exact Array.mk.inj e
  rw[← this];exact hy
 ·exact fun h=>mem_map.mpr ⟨x,h,rfl⟩
def gD(xs:Nms):(xs.map mkT).all fu=true:=by
 rw[all_eq_true];intro v hv;obtain⟨x,_,rfl⟩:=mem_map.mp hv
 rfl
def kJ(L:List Prt):bO L=(L.map (·.1)).map mkT:=by
 unfold bO;rw[map_map]
 rfl
def bW:(cJ L x).isSome=decide (x∈L.map (·.1)):=by
 unfold cJ;rw[Bool.eq_iff_iff,List.find?_isSome,decide_eq_true_eq,mem_map];exact⟨fun⟨p,h1,h2⟩=>⟨p,h1,W3 h2⟩,fun⟨p,h1,h2⟩=>⟨p,h1,W9 h2⟩⟩
def Qt(x:List Nat):(⟨x.toArray⟩:Str).length=x.length:=by
 show x.toArray.size=_;rw[Xd]
def u5(h:n<=10000):n<=sizeLine:=W7 (show n<=1000000 by lia) gZ
def Rp:Str.empty.length=0:=rfl
def Mh{c:String}{x:List Nat}(hx:x.length<=1000)(hc:(Str.ofString c).length<=100):((Str.empty++(⟨x.toArray⟩:Str))++Str.ofString c).length<=sizeLine:=by
 rw[strLen_append,strLen_append];have h1:=Qt x;have h2:=Rp;exact u5 (by lia)
section
variable {P:Program}{w:World}{K:W.Frag}{mg:Str->Option Value}{base:Heap}{Tn Tp Tt:Addr}
def zH:aR ["row","place","thing"] ["row","place","thing"] (aC jq):=⟨rfl,rfl,rfl,by decide +kernel,rfl,by decide +kernel,by decide +kernel⟩
def yM(h:Has K mg "replaced" jq ["row","place","thing"])  : Cal P w K mg base "replaced" 1 ["row","place","thing"] fW:=by
 refine h.mk' zH (fun vs H Q E hs=>?_) (fun f cdv A outer s H vs Q E hr hs=>?_)
 ·obtain⟨p,us,n,t,rfl,_⟩:=hs
  rfl
 obtain⟨p,us,n,t,rfl,hp,hn,hl,k⟩:=hs;refine⟨_,(aB (aW (bF jr (bF jr (gq wu (pv 0) iW (gY (pv 1))) (cu (aj (pv 2) aq))) (gq wu (pv 0) (gY (bF fV (pv 1) aA)) iW)))),?_⟩;refine⟨_,rfl,_,rfl,_,rfl,p,us,rfl,hp,fun p1 H1 s1 e1=>?_⟩;rw[Ry (by lia)] at e1;refine⟨_,rfl,smn 1,fun p2 hp2=>?_⟩;have s2:=ao hp2 (.tup [t]);have e2:(upd H1 p2 (.tup [t])) p2=some (.tup [t]):=ak;generalize upd H1 p2 (.tup [t])=H2 at s2 e2 ⊢;refine⟨p1,p2,_,_,rfl,rfl,s2 _ _ e1,e2,small (by rw[length_take];show _+1<=1000;lia),fun p3 H3 s3 e3=>?_⟩;have s13:=(s1.trans s2).trans s3;refine⟨_,rfl,_,rfl,_,_,rfl,rfl,_,rfl,p,us,rfl,s13 _ _ hp,fun p4 H4 s4 e4=>?_⟩;have e4':H4 p4=some (.tup (us.drop (n+1))):=by
  have e:u6 us (some (((n:Nat):Int)+1)) none=us.drop (n+1):=RN (r:=n+1) (by lia);rw[← e];exact e4
 refine⟨p3,p4,_,_,rfl,rfl,s4 _ _ e3,e4',small (by rw[W0,length_take,length_drop];show _+1+_<=1000;lia),fun p5 H5 s5 e5=>?_⟩;rw[JN _ _ _ hn] at e5;exact k p5 H5 ((s13.trans s4).trans s5) e5
def oU:aR ["parts","name"] ["parts","name"] (aC dB):=⟨rfl,rfl,rfl,by decide +kernel,rfl,by decide +kernel,by decide +kernel⟩
def nA(h:Has K mg "parts_without" dB ["parts","name"])(Tw:mg "tuple" = none):Cal P w K mg base "parts_without" 1 ["parts","name"] uM:=by
 refine h.mk' oU (fun vs H Q E hs=>?_) (fun f cdv A outer s H vs Q E hr hs=>?_)
 ·obtain⟨p,us,L,x,rfl,_⟩:=hs
  rfl
 obtain⟨p,us,L,x,rfl,hp,hd,hl,k⟩:=hs;refine⟨_,(aB (aW (aQ aU rfl Tw boot_tuple (aj (cD ["parts","name"] (aC dB) ["name","part"] [some 1,none] rfl rfl rfl (fY (pv 0)) rfl (by decide +kernel) (by decide +kernel) (by decide +kernel) (by decide +kernel) (hg:=fun cl C s H ex pn E=>(aP (i:=1) (by decide +kernel:(["name","part"]:List Str).Nodup) rfl (Or.inl rfl))) (ht:=fun cl C s H ex pn E=>(gw (aO yK (bx (vd (K:=K) rfl) (pv 1) aA (fun _ _=>rfl)) (pv 0) (bA _)))) (he:=fun cl C s H ex pn E=>(pv 1))) aq)))),?_⟩;have hul:=hd.len;rw[Xa] at hul;refine⟨_,rfl,p,rfl,⟨_,SqT.of hp⟩,fun lc hlc=>?_⟩;refine cZ (J:=Itt K p) (l:=lc) us.length (fun i σ' H'=>∃ v ws,σ'=[some (mkT x),v]/\Same H H'/\H' lc=some (.lst ws)/\ws.length<=i/\bL H' ws ((fZ (L.take i) x).map bH)) ⟨none,[],rfl,ao hlc _,ak,Wu _,trivial⟩ ?_ ?_
 ·rintro σ' H' ⟨v,ws,rfl,s1,e1,hwl,d1⟩;rw[hul,take_length] at d1;refine⟨⟨_,SqT.of (s1 _ _ hp),Wu _⟩,lc,_,rfl,.inl ⟨SqL.of e1,fun q hq=>?_⟩⟩;exact k q ws _ (s1.trans (ao hq _)) ak (d1.same (ao hq _))
 ·rintro i σ' H' hi ⟨v,ws,rfl,s1,e1,hwl,d1⟩;have hil:i<L.length:=by lia
  refine⟨⟨_,_,SqT.of (s1 _ _ hp),bZ hi⟩,?_⟩;rintro N hN y H'' ⟨rfl,hy⟩;have ey:y=us[i]:=WT ((hy _ (SqT.of (s1 _ _ hp))).symm.trans (bZ hi));have dy:Den H us[i] (bH L[i]):=at_of hd (bZ hi) (by rw[W8,bZ hil];rfl);have htk:=take_one (bZ hil);rw[← ey] at dy;generalize L[i]=q at dy htk;obtain⟨b,pm,rfl,hb,hpm⟩:=lO (dy.same s1);refine gN ⟨_,rfl,b,_,_,_,rfl,rfl,SqT.of hb,bC _ _,_,rfl,rfl,_,rfl,?_⟩;refine eU (fun z=>?_) (fun z=>?_)
  ·have hq:q.1≠x:=fun e=>by rw[e] at z;simp at z
   refine⟨_,rfl,ws,e1,aH (by lia),hN _ _ ⟨_,ws++[.ref b],rfl,cg s1 hlc,ak,by rw[W0,length_singleton];lia,?_⟩⟩;rw[htk];unfold fZ;rw[filter_append,filter_cons_of_pos (by simpa using hq),filter_nil,map_append];exact eG (d1.keepT (lC e1)) ⟨(dy.same s1).keepT (lC e1),trivial⟩
  ·have hq:q.1=x:=by
    by_cases e:q.1=x
    ·exact e
    ·exact absurd (by rw[QW,WX e];rfl) z
   refine hN _ _ ⟨_,ws,rfl,s1,e1,by lia,?_⟩;rw[htk];unfold fZ;rw[filter_append,filter_cons_of_neg (by simpa using hq),filter_nil,append_nil];exact d1
end
def jg(L:List Prt)(x:List Nat):Nat:=if (cJ L x).isSome then 0 else 1
def cH(L:List Prt)(ks:List Lnk)(x:List Nat):Option Lnk:=ks.find? fun k=>decide (x∈aK (jg L x) k)
def pY(K:W.Frag)(C:Addr):Sp:=fun vs H Q E=>∃ v L R ks al x,vs=[v,mkT x]/\oN K H v L R ks al/\L.length<=60/\R.length<=60/\x.length<=1000/\(∀ p∈L++R,p.2.2.length<=1000) /\
 (∀ p,cJ (L++R) x=some p->(∀ k,cH L ks x=some k->∀(u:V)(H':Hp),Same H H'->Den H' u (aV k)->Q u H')/\(cH L ks x=none->∀(H':Hp),Same H H'->Q .non H'))/\(cJ (L++R) x=none->dR C H E)
section
variable {P:Program}{w:World}{K:W.Frag}{mg:Str->Option Value}{base:Heap}{Tn:Addr}
def pZ:aR ["book","name","side","link"] ["book","name"] (aC qD):=⟨rfl,rfl,rfl,by decide +kernel,rfl,by decide +kernel,by decide +kernel⟩
def Dj(h:Has K mg "link_of" qD ["book","name"])(Uc:lu P w K mg base "side_of" 2 ["book","name"] (rN K Tn)):lu P w K mg base "link_of" 3 ["book","name"] (pY K Tn):=by
 refine h.mk1 pZ (fun vs H Q E hs=>?_) (fun f cdv A outer s H vs Q E hr hs=>?_)
 ·obtain⟨v,L,R,ks,al,x,rfl,_⟩:=hs
  rfl
 obtain⟨v,L,R,ks,al,x,rfl,hv,hlL,hlR,hlx,hmo,k1,k2⟩:=hs;refine⟨_,(au (aL (i:=2) pZ.nd rfl (Or.inl rfl) (gV Uc hr (by decide) rfl iB (aj (pv 0) (aj (pv 1) aq))))
  (au (dU PassesOwn.leaving rfl (fY (bx bJ (pv 0) aA (fun _ _=>rfl))) (aP (i:=3) pZ.nd rfl (Or.inl rfl))
   (aB (cF (aO dJ (pv 1) (bx bJ (pv 3) (pv 2) (fun _ _=>rfl)) (by with_unfolding_all rfl))
   (aB (aW (pv 3)))
   bB)))
  (aB (aW cU)))),?_⟩
 refine⟨_,rfl,_,rfl,v,L,R,ks,al,x,rfl,hv,hlL,hlR,hlx,hmo,fun p hp H' s'=>?_,fun z=>(k2 z).out⟩;obtain⟨kk1,kk2⟩:=k1 p hp;obtain⟨pb,pl,pr,pk,pa,ls,rs,ws,rfl,hpb,hpl,hdl,hpr,hdr,hpk,hdk,hpa⟩:=hv;have at2:atI [V.ref pl,V.ref pr,V.ref pk,V.ref pa] 2=some (.ref pk):=aZ (xs:=[V.ref pl,V.ref pr,V.ref pk,V.ref pa]) (j:=2) rfl;have esd:(if (cJ L x).isSome=true then (0:Int) else 1)=(jg L x:Nat):=by
  unfold jg;cases(cJ L x).isSome <;> rfl
 rw[esd];have hsl:jg L x<=1:=by
  unfold jg;cases(cJ L x).isSome <;> decide
 have hln:cH L ks x=ks.find? fun k=>decide (x∈aK (jg L x) k):=rfl
 generalize jg L x=n at *;have hwl:=hdk.len;rw[Xa] at hwl;refine⟨_,rfl,pb,_,_,_,rfl,rfl,(stT s' hpb),at2,pk,rfl,⟨_,stT s' hpk⟩,?_⟩;refine jK (K:=K) (a:=pk) (xs:=ws) (fun i σ H2=>∃ v3:Option V,σ=[some (.ref pb),some (mkT x),some (.int (n:Nat)),v3]/\Same H H2/\∀ k∈ks.take i,decide (x∈aK n k)=false) ⟨_,rfl,s',fun k hk=>by rw[take_zero] at hk;cases hk⟩ ?_ ?_ ?_
 ·rintro i σ H2 _ ⟨_,_,s2,_⟩;exact stT s2 hpk
 ·rintro i y σ H2 hi ⟨v3,rfl,s2,hno⟩;have hni:i<ks.length:=by
   have:=(Wt.mp hi).1;lia
  obtain⟨dd,hdd,dy⟩:=hdk.at_ hi;rw[W8,Wr hni] at hdd;have edd:aV ks[i]=dd:=WT hdd;subst edd;have htk:ks.take (i+1)=ks.take i++[ks[i]]:=by
   rw[take_add_one,Wr hni]
   rfl
  have hfirst:decide (x∈aK n ks[i])=true->cH L ks x=some ks[i]:=fun h=>hln.trans (jM hni hno h)
  generalize ks[i]=k at dy htk hfirst;have dy2:=dy.same s2;obtain⟨b,p0,p1,p3,p4,p5,us0,us1,rfl,hb,h0,hd0,h1,hd1,h3,h4,h5⟩:=lF dy2;rw[zF hd0] at h0;rw[zF hd1] at h1;obtain⟨pq,hat,hpq⟩:∃ pq,atI [V.ref p0,V.ref p1,V.int k.2.2.1,V.ref p3] (n:Nat)=some (.ref pq)/\H2 pq=some (.tup ((aK n k).map mkT)):=by
   match n,hsl with
   | 0,_=>exact⟨p0,bC _ _,h0⟩
   | 1,_=>exact⟨p1,aZ (xs:=[V.ref p0,V.ref p1,V.int k.2.2.1,V.ref p3]) (j:=1) rfl,h1⟩
  refine gN ⟨_,rfl,_,rfl,_,rfl,b,_,_,_,rfl,rfl,SqT.of hb,hat,pq,_,rfl,.inr (SqT.of hpq),rfl,gD _,_,rfl,?_⟩;rw[show(if false=true then !inV (mkT x) ((aK n k).map mkT) else inV (mkT x) ((aK n k).map mkT))=inV (mkT x) ((aK n k).map mkT) from rfl,pD];refine eU (fun z=>?_) (fun z=>?_)
  ·exact⟨_,rfl,kk1 k (hfirst z) _ _ s2 dy2⟩
  ·refine⟨_,rfl,s2,fun k' hk'=>?_⟩;rw[htk] at hk';rcases mem_append.mp hk' with h | h
   ·exact hno k' h
   ·rw[mem_singleton.mp h];exact Bool.eq_false_iff.mpr z
 ·rintro σ H2 ⟨v3,rfl,s2,hno⟩;have hn:cH L ks x=none:=hln.trans (find?_eq_none.mpr fun k hk=>by
   have:=hno k (by rw[hwl,take_length];exact hk);rw[this];decide)
  exact kk2 hn H2 s2
end
noncomputable def neD:Option Lnk->Option Lnk->Bool
 | none,none=>false
 | some a,some b=>!eqD (aV a) (aV b)
 | _,_=>true
def LkV(H:Hp)(u:V):Option Lnk->Prop
 | none=>u=.non
 | some k=>Den H u (aV k)
def LkV.same(h:LkV H u o)(s:Same H H'):LkV H' u o:=by
 cases o with
 | none=>exact h
 | some k=>exact Den.same s h
def J1{L:List Prt}{ks:List Lnk}{x:List Nat}{H:Hp}{Q:VK}(h:∀(u:V)(H':Hp),Same H H'->LkV H' u (cH L ks x)->Q u H'):(∀ k,cH L ks x=some k->∀(u:V)(H':Hp),Same H H'->Den H' u (aV k)->Q u H')/\(cH L ks x=none->∀(H':Hp),Same H H'->Q .non H') :=
 ⟨fun k hk u H' s d=>h u H' s (by rw[hk];exact d),fun hn H' s=>h .non H' s (by rw[hn];rfl)⟩
def jo(h:cH L ks x=some k):k∈ks:=List.mem_of_find?_eq_some h
def Oo(hx:LkV H x a)(hy:LkV H y b)(sa:∀ k,a=some k->cN 50 (aV k))(sb:∀ k,b=some k->cN 50 (aV k))(q:Q (.bl (neD a b)) H):Qm x y H Q:=by
 cases a with
 | none=>cases b with
  | none=>exact .inl ⟨hx,hy,q⟩
  | some k=>exact .inr (.inl ⟨hx,⟨_,hy⟩,q⟩)
 | some j=>cases b with
  | none=>exact .inr (.inr (.inl ⟨hy,⟨_,hx⟩,q⟩))
  | some k=>exact .inr (.inr (.inr ⟨_,_,49,hx,hy,sa j rfl,sb k rfl,by decide,lG j k,q⟩))
def LkS(k:Lnk):Prop:=k.1.length<=1000/\k.2.1.length<=1000/\k.2.2.2.1.length<=1000/\k.2.2.2.2.length<=1000
def ji(h:LkS k):cN 3 (aV k):=by
 obtain⟨h1,h2,h3,h4⟩:=h;refine cO (by simp) fun d hd=>?_
 simp only[mem_cons,not_mem_nil,or_false] at hd;rcases hd with rfl | rfl | rfl | rfl
 ·exact(dH h1).up
 ·exact(dH h2).up
 ·exact(qT _).up.up
 ·refine cO (by simp) fun d hd=>?_
  simp only[mem_cons,not_mem_nil,or_false] at hd;rcases hd with rfl | rfl
  ·exact jC h3
  ·exact jC h4
def LkC(d:D):Prop:=∃ k:Lnk,d=aV k/\LkS k
def Ke(k:Lnk):Pl (aV k):=by
 unfold aV dZ zY;exact⟨nj (f:=sD) (fun _=>trivial) _,nj (f:=sD) (fun _=>trivial) _,trivial,⟨nj (f:=D.int) (fun _=>trivial) _,nj (f:=D.int) (fun _=>trivial) _,trivial⟩,trivial⟩
def Rk:KCls LkC 3:=⟨fun d ⟨k,e,_⟩=>by rw[e];exact Ke k,fun d ⟨k,e,h⟩=>by rw[e];exact ji h,fun d e ⟨k,h1,_⟩ ⟨j,h2,_⟩=>by rw[h1,h2];exact lG k j,by decide⟩
def IW(ks:List Lnk):Hom (ks.map aV):=by
 refine⟨fun a ha b hb=>?_,.inr (.inr fun d hd=>?_)⟩
 ·obtain⟨x,_,rfl⟩:=mem_map.mp ha;obtain⟨y,_,rfl⟩:=mem_map.mp hb;exact lG x y
 ·obtain⟨x,_,rfl⟩:=mem_map.mp hd;exact⟨_,_,rfl⟩
def Sy:Sp:=fun vs H Q _=>∃(p:Addr)(ms:List Int)(t:Int),vs=[.ref p,.int t]/\H p=some (.tup (ms.map V.int))/\ms.Pairwise (· < ·)/\ms.length<=60/\∀(q:Addr)(rs:List Int)(H':Hp),Same H H'->H' q=some (.tup (rs.map V.int))->rs.Pairwise (· < ·)->(∀ k,k∈rs↔k∈ms\/k=t)->Q (.ref q) H'
def Te:Sp:=fun vs H Q _=>∃(p:Addr)(as:List Addr)(v:Addr)(ks:List Lnk)(j:Lnk),vs=[.ref p,.ref v]/\H p=some (.tup (as.map V.ref))/\bL H (as.map V.ref) (ks.map aV)/\Den H (.ref v) (aV j)/\(∀ k∈ks++[j],LkS k)/\((ks++[j]).map aV).Nodup/\ks.length<=60/\∀(q:Addr)(us:List V)(ms:List Lnk)(H':Hp),Same H H'->H' q=some (.tup us)->bL H' us (ms.map aV)->ms.Perm (ks++[j])->UpD (ms.map aV)->Q (.ref q) H'
def vp(w:World):Sp:=fun vs H Q E=>Sy vs H Q E\/Te vs H Q E
def Qu:Sp:=fun vs H Q _=>∃(p:Addr)(xs:Nms)(x:List Nat),vs=[.ref p,mkT x]/\H p=some (.tup (xs.map mkT))/\xs.length<=900/\∀(q:Addr)(H':Hp),Same H H'->H' q=some (.tup ((xs.filter fun y=>decide (y≠x)).map mkT))->Q (.ref q) H'
noncomputable def woL(ks:List Lnk)(o:Option Lnk):List Lnk:=ks.filter fun k=>neD (some k) o
def Qk:Sp:=fun vs H Q _=>∃ p us v ks o,vs=[.ref p,v]/\H p=some (.tup us)/\bL H us (ks.map aV)/\LkV H v o/\(∀ k∈ks,LkS k)/\(∀ k,o=some k->LkS k)/\ks.length<=900/\∀(q:Addr)(ws:List V)(H':Hp),Same H H'->H' q=some (.tup ws)->bL H' ws ((woL ks o).map aV)->Q (.ref q) H'
def yh:Sp:=fun vs H Q E=>Qu vs H Q E\/Qk vs H Q E
theorem Et:∀ {us:List V}{ks:List Lnk},bL H us (ks.map aV)->∃ as:List Addr,us=as.map V.ref
 | [],[],_=>⟨[],rfl⟩
 | _::_,_::_,h=>by
  obtain⟨p,vs,e,_⟩:=aN h.1;obtain⟨as,e2⟩:=Et h.2;exact⟨p::as,by rw[e,e2];rfl⟩
 | [],_::_,h=>h.elim
 | _::_,[],h=>h.elim
def qC(xs:Nms):xs.map mkT=(xs.map fun x=>(⟨x.toArray⟩:Str)).map V.str:=by rw[map_map];rfl
def str_inj{a b:List Nat}(h:(⟨a.toArray⟩:Str)=⟨b.toArray⟩):a=b:=by
 injection h with h;exact Array.mk.inj h
section
variable {P:Program}{w:World}{K:W.Frag}{mg:Str->Option Value}{base:Heap}
def Ed:aR ["row","thing"] ["row","thing"] (aC lW):=⟨rfl,rfl,rfl,by decide +kernel,rfl,by decide +kernel,by decide +kernel⟩
def yL(h:Has K mg "with_one" lW ["row","thing"])(Tw:mg "tuple" = none)(TX:mg "sorted" = none)(UW:mg "set" = none):Cal P w K mg base "with_one" 1 ["row","thing"] (vp w):=by
 refine h.mk' Ed (fun vs H Q E hs=>?_) (fun f cdv A outer s H vs Q E hr hs=>?_)
 ·rcases hs with⟨p,ms,t,rfl,_⟩ | ⟨p,as,v,ks,j,rfl,_⟩ <;> rfl
 refine⟨_,(aB (aW (aQ aU rfl Tw boot_tuple (aj (bh (uJ Rk (w:=w) rfl rfl hr.units) rfl TX boot_sorted (aj (aQ (BR Rk (w:=w) rfl rfl hr.units) rfl UW boot_set (aj (bF jr (pv 0) (cu (aj (pv 1) aq))) aq)) aq)) aq)))),?_⟩;rcases hs with⟨p,ms,t,rfl,hp,hu,hl,k⟩ | ⟨p,as,v,ks,j,rfl,hp,hd,hv,hS,hnd,hl,k⟩
 ·refine⟨_,rfl,_,rfl,smn 1,fun p1 hp1=>?_⟩;have s1:=ao hp1 (.tup [.int t]);have e1:(upd H p1 (.tup [.int t])) p1=some (.tup [.int t]):=ak;generalize upd H p1 (.tup [.int t])=H1 at s1 e1 ⊢;refine⟨p,p1,_,_,rfl,rfl,s1 _ _ hp,e1,small (by rw[Xa];show _+1<=1000;lia),fun p2 H2 s2 e2=>?_⟩;have e2':H2 p2=some (.tup ((ms++[t]).map V.int)):=by rw[e2,map_append];rfl
  refine .inl ⟨p2,ms++[t],rfl,SqT.of e2',by rw[W0];show _+1<=1001;lia,fun a ns ha hn hi hnl=>?_⟩;rw[W0] at hnl;refine .inl ⟨a,ns,rfl,ak,(by have:[t].length=1:=rfl;lia),fun l rs hl hp3 hs3=>?_⟩;refine⟨l,_,rfl,.inl ⟨SqL.of ak,fun q hq=>?_⟩⟩;have hup:rs.Pairwise (· < ·):=by
   have:=List.Pairwise.and hs3 (nodup_iff_pairwise_ne.mp (hp3.nodup_iff.mpr hn));exact this.imp fun {x y} h=>by lia
  exact k q rs _ ((((s1.trans s2).trans (ao ha _)).trans (ao hl _)).trans (ao hq _)) ak hup fun k=>(hp3.mem_iff).trans ((hi k).trans (by rw[mem_append,mem_singleton]))
 ·refine⟨_,rfl,_,rfl,smn 1,fun p1 hp1=>?_⟩;have s1:=ao hp1 (.tup [.ref v]);have e1:(upd H p1 (.tup [.ref v])) p1=some (.tup [.ref v]):=ak;generalize upd H p1 (.tup [.ref v])=H1 at s1 e1 ⊢;refine⟨p,p1,_,_,rfl,rfl,s1 _ _ hp,e1,small (by have:=hd.len;rw[Xa,Xa] at this;rw[Xa];show _+1<=1000;lia),fun p2 H2 s2 e2=>?_⟩;have s12:=s1.trans s2;have e2':H2 p2=some (.tup ((as++[v]).map V.ref)):=by rw[e2,map_append];rfl
  have hd2:bL H2 ((as++[v]).map V.ref) ((ks++[j]).map aV):=by
   rw[map_append,map_append];exact eG (hd.same s12) ⟨hv.same s12,trivial⟩
  have hcs:∀ d∈(ks++[j]).map aV,LkC d:=fun d hd=>by
   obtain⟨q,hq,rfl⟩:=mem_map.mp hd;exact⟨q,rfl,hS q hq⟩
  have hlen:((ks++[j]).map aV).length=ks.length+1:=by rw[Xa,W0];rfl
  refine .inr (⟨p2,as++[v],_,rfl,SqT.of e2',hd2,hcs,hnd,by rw[hlen];lia,fun a ha=>?_⟩);have s3:=ao ha (.ext (nestΦ w a (((ks++[j]).map aV).zip (as++[v]))));refine .inr (⟨a,as++[v],_,rfl,ak,hd2.same s3,hcs,IW _,by rw[hlen];lia,fun l us ds hl hp3 hs3 hden=>?_⟩);obtain⟨ms,hm1,rfl⟩:=ST.fQ hp3.symm rfl;refine⟨l,_,rfl,.inl ⟨SqL.of ak,fun q hq=>?_⟩⟩;have s4:=(ao hl (.lst us)).trans (ao hq (.tup us));exact k q us ms _ ((s12.trans s3).trans s4) ak (hden.same s4) hm1 hs3
def Aw:aR ["row","thing"] ["row","thing"] (aC jx):=⟨rfl,rfl,rfl,by decide +kernel,rfl,by decide +kernel,by decide +kernel⟩
def Ah(h:Has K mg "without" jx ["row","thing"])(Tw:mg "tuple" = none):Cal P w K mg base "without" 1 ["row","thing"] yh:=by
 refine h.mk' Aw (fun vs H Q E hs=>?_) (fun f cdv A outer s H vs Q E hr hs=>?_)
 ·rcases hs with⟨p,xs,x,rfl,_⟩ | ⟨p,us,v,ks,o,rfl,_⟩ <;> rfl
 refine⟨_,(aB (aW (aQ aU rfl Tw boot_tuple (aj (cD ["row","thing"] (aC jx) ["thing","each"] [some 1,none] rfl rfl rfl (fY (pv 0)) rfl (by decide +kernel) (by decide +kernel) (by decide +kernel) (by decide +kernel) (hg:=fun cl C s H ex pn E=>(aP (i:=1) (by decide +kernel:(["thing","each"]:List Str).Nodup) rfl (Or.inl rfl))) (ht:=fun cl C s H ex pn E=>(gw (aO (NZ hr.units) (pv 1) (pv 0) (bA _)))) (he:=fun cl C s H ex pn E=>(pv 1))) aq)))),?_⟩;rcases hs with⟨p,xs,x,rfl,hp,hl,k⟩ | ⟨p,us,v,ks,o,rfl,hp,hd,hv,hS,hSo,hl,k⟩
 ·refine⟨_,rfl,p,rfl,⟨_,SqT.of hp⟩,fun lc hlc=>?_⟩;refine cZ (J:=Itt K p) (l:=lc) xs.length (fun i σ' H'=>∃ v:Option V,σ'=[some (mkT x),v]/\Same H H'/\H' lc=some (.lst (((xs.take i).filter fun y=>decide (y≠x)).map mkT))) ⟨none,rfl,ao hlc _,ak⟩ ?_ ?_
  ·rintro σ' H' ⟨v,rfl,s1,e1⟩;rw[take_length] at e1;refine⟨⟨_,SqT.of (s1 _ _ hp),by rw[Xa];exact Wu _⟩,lc,_,rfl,.inl ⟨SqL.of e1,fun q hq=>?_⟩⟩;exact k q _ (s1.trans (ao hq _)) ak
  ·rintro i σ' H' hi ⟨v,rfl,s1,e1⟩;have hat:(xs.map mkT)[i]?=some (mkT xs[i]):=by rw[W8,bZ hi];rfl
   refine⟨⟨_,_,SqT.of (s1 _ _ hp),hat⟩,?_⟩;rintro N hN y H'' ⟨rfl,hy⟩;have ey:y=mkT xs[i]:=WT ((hy _ (SqT.of (s1 _ _ hp))).symm.trans hat);have htk:=take_one (bZ hi);generalize xs[i]=z at ey htk;subst ey;refine gN ⟨_,rfl,_,rfl,.inl ⟨rfl,_,rfl,?_⟩⟩;rw[QW];refine eU (fun hz=>?_) (fun hz=>?_)
   ·have hz:z≠x:=by simpa using hz
    refine⟨_,rfl,_,e1,aH ?_,hN _ _ ⟨_,rfl,cg s1 hlc,?_⟩⟩
    ·rw[Xa];refine W7 (length_filter_le _ _) ?_;rw[length_take];lia
    ·rw[ak,htk,filter_append,map_append,filter_cons_of_pos (by simpa using hz)]
     rfl
   ·have hz:z=x:=by simpa using hz
    refine hN _ _ ⟨_,rfl,s1,?_⟩;rw[e1,htk,filter_append,filter_cons_of_neg (by simpa using hz),filter_nil,append_nil]
 ·have hul:=hd.len;rw[Xa] at hul;refine⟨_,rfl,p,rfl,⟨_,SqT.of hp⟩,fun lc hlc=>?_⟩;refine cZ (J:=Itt K p) (l:=lc) us.length (fun i σ' H'=>∃ x ws,σ'=[some v,x]/\Same H H'/\H' lc=some (.lst ws)/\ws.length<=i/\bL H' ws ((woL (ks.take i) o).map aV)) ⟨none,[],rfl,ao hlc _,ak,Wu _,trivial⟩ ?_ ?_
  ·rintro σ' H' ⟨x,ws,rfl,s1,e1,hwl,d1⟩;rw[hul,take_length] at d1;refine⟨⟨_,SqT.of (s1 _ _ hp),Wu _⟩,lc,_,rfl,.inl ⟨SqL.of e1,fun q hq=>?_⟩⟩;exact k q ws _ (s1.trans (ao hq _)) ak (d1.same (ao hq _))
  ·rintro i σ' H' hi ⟨x,ws,rfl,s1,e1,hwl,d1⟩;have hil:i<ks.length:=by lia
   refine⟨⟨_,_,SqT.of (s1 _ _ hp),bZ hi⟩,?_⟩;rintro N hN y H'' ⟨rfl,hy⟩;have ey:y=us[i]:=WT ((hy _ (SqT.of (s1 _ _ hp))).symm.trans (bZ hi));have dy:Den H us[i] (aV ks[i]):=at_of hd (bZ hi) (by rw[W8,bZ hil];rfl);have htk:=take_one (bZ hil);have hSi:=hS _ (getElem_mem hil);rw[← ey] at dy;generalize ks[i]=z at dy htk hSi;have dy1:=dy.same s1;refine gN ⟨_,rfl,_,rfl,.inr (Oo (a:=some z) (b:=o) dy1 (hv.same s1) (fun k hk=>by cases hk;exact cV (n:=3) (ji hSi) 47) (fun k hk=>cV (n:=3) (ji (hSo k hk)) 47) ⟨_,rfl,?_⟩)⟩;refine eU (fun hz=>?_) (fun hz=>?_)
   ·refine⟨_,rfl,ws,e1,aH (by lia),hN _ _ ⟨_,ws++[y],rfl,cg s1 hlc,ak,by rw[W0,length_singleton];lia,?_⟩⟩;rw[htk];unfold woL;rw[filter_append,filter_cons_of_pos (by exact hz),filter_nil,map_append];exact eG (d1.keepT (lC e1)) ⟨dy1.keepT (lC e1),trivial⟩
   ·refine hN _ _ ⟨_,ws,rfl,s1,e1,by lia,?_⟩;rw[htk];unfold woL;rw[filter_append,filter_cons_of_neg (by exact hz),filter_nil,append_nil];exact d1
end
def vh(hq:H q=some (.tup [.ref pl,.ref pr,.ref pk,.ref pa]))(hl:H pl=some (.tup ls))(dl:bL H ls (L.map bH))(hr:H pr=some (.tup rs))(dr:bL H rs (R.map bH))(hk:H pk=some (.tup us))(dk:bL H us (ks.map aV))(ha:H pa=some (.tup (al.map mkT))):Den H (.ref q) (eE L R ks al) :=
 ⟨q,_,rfl,hq,⟨pl,ls,rfl,hl,dl⟩,⟨pr,rs,rfl,hr,dr⟩,⟨pk,us,rfl,hk,dk⟩,⟨pa,_,rfl,ha,cC _ al⟩,trivial⟩
def Jy(ks:List Lnk)(o:Option Lnk):(woL ks o).length<=ks.length:=length_filter_le _ _
def qF(h:k∈woL ks o):k∈ks:=(mem_filter.mp h).1
def RelK(ks ks':List Lnk)(o:Option Lnk):Option Lnk->Prop
 | none=>ks'=woL ks o
 | some j=>ks'.Perm (woL ks o++[j])/\UpD (ks'.map aV)
def iJ:Sp:=fun vs H Q _=>∃ v a b L R ks al o n,vs=[v,a,b]/\Den H v (eE L R ks al)/\LkV H a o/\LkV H b n/\(∀ k∈ks,LkS k)/\(∀ k,o=some k->LkS k)/\(∀ k,n=some k->LkS k)/\ks.length<=60/\(∀ j,n=some j->((woL ks o++[j]).map aV).Nodup) /\
 ∀(u:V)(ks':List Lnk)(H':Hp),Same H H'->Den H' u (eE L R ks' al)->RelK ks ks' o n->Q u H'
section
variable {P:Program}{w:World}{K:W.Frag}{mg:Str->Option Value}{base:Heap}
def jY:aR ["book","old","new","links"] ["book","old","new"] (aC jh):=⟨rfl,rfl,rfl,by decide +kernel,rfl,by decide +kernel,by decide +kernel⟩
def yO(h:Has K mg "relinked" jh ["book","old","new"])(T7:Cal P w K mg base "without" 1 ["row","thing"] yh)(T9:Cal P w K mg base "with_one" 1 ["row","thing"] (vp w))(T3:Cal P w K mg base "replaced" 1 ["row","place","thing"] fW):Cal P w K mg base "relinked" 2 ["book","old","new"] iJ:=by
 refine h.mk' jY (fun vs H Q E hs=>?_) (fun f cdv A outer s H vs Q E hr hs=>?_)
 ·obtain⟨v,a,b,L,R,ks,al,o,n,rfl,_⟩:=hs
  rfl
 obtain⟨v,a,b,L,R,ks,al,o,n,rfl,hv,ha,hb,hS,hSo,hSn,hl,hnd,k⟩:=hs;refine⟨_,(au (aL (i:=3) jY.nd rfl (Or.inl rfl) (aM T7 hr (by decide) rfl (aj (bx bJ (pv 0) aA (fun _ _=>rfl)) (aj (pv 1) aq))))
  (au (cF (aO qm (pv 2) cU (bA _))
   (aB (aL (i:=3) jY.nd rfl (Or.inl rfl) (aM T9 hr (by decide) rfl (aj (pv 3) (aj (pv 2) aq)))))
   bB)
  (aB (aW (aM T3 hr (by decide) rfl (aj (pv 0) (aj aA (aj (pv 3) aq)))))))),?_⟩
 obtain⟨p,pl,pr,pk,pa,ls,rs,us,rfl,hp,hpl,hdl,hpr,hdr,hpk,hdk,hpa⟩:=lZ hv;have at2:=aZ (xs:=[V.ref pl,V.ref pr,V.ref pk,V.ref pa]) (j:=2) rfl;refine⟨_,rfl,p,_,_,_,rfl,rfl,SqT.of hp,at2,_,rfl,.inr ⟨pk,us,a,ks,o,rfl,hpk,hdk,ha,hS,hSo,by lia,fun q ws H1 s1 e1 d1=>?_⟩⟩;have rep:∀(r:Addr)(ys:List V)(ks':List Lnk)(H2:Hp),Same H H2->H2 r=some (.tup ys)->bL H2 ys (ks'.map aV)->RelK ks ks' o n->fW [.ref p,.int ((2:Nat):Int),.ref r] H2 Q E:=fun r ys ks' H2 s2 e2 d2 hR =>
  ⟨p,_,2,.ref r,rfl,s2 _ _ hp,by show 2<4;lia,by show 4<=900;lia,fun q H3 s3 e3=>k (.ref q) ks' H3 (s2.trans s3) (vh e3 ((s2.trans s3) _ _ hpl) (hdl.same (s2.trans s3)) ((s2.trans s3) _ _ hpr) (hdr.same (s2.trans s3)) (s3 _ _ e2) (d2.same s3) ((s2.trans s3) _ _ hpa)) hR⟩
 cases n with
 | none =>
  have eb:b=.non:=hb;subst eb;refine⟨_,rfl,rfl,_,rfl,?_⟩;refine eU (fun z=>?_) (fun _=>?_)
  ·cases z
  exact⟨_,rfl,_,rfl,rep q ws _ H1 s1 e1 d1 rfl⟩
 | some j =>
  obtain⟨pj,vj,rfl,hpj,dj⟩:=aN hb;have hb1:Den H1 (.ref pj) (aV j):=Den.same s1 hb;refine⟨_,rfl,rfl,_,rfl,rY ?_⟩;obtain⟨as,rfl⟩:=Et d1;refine⟨_,rfl,_,rfl,.inr (⟨q,as,pj,woL ks o,j,rfl,e1,d1,hb1,fun k hk=>?_,hnd j rfl,W7 (Jy _ _) hl,fun r ys ms H2 s2 e2 d2 hpm hup=>?_⟩)⟩
  ·rcases mem_append.mp hk with z | z
   ·exact hS k (qF z)
   ·rw[mem_singleton.mp z];exact hSn j rfl
  ·exact⟨_,rfl,_,rfl,rep r ys ms H2 (s1.trans s2) e2 d2 ⟨hpm,hup⟩⟩
end
def SmB(L R:List Prt):Prop:=L.length<=60/\R.length<=60/\∀ p∈L++R,p.2.2.length<=1000
def c5(a b c d e:Addr):Nat->Addr
 | 0=>a
 | 1=>b
 | 2=>c
 | 3=>d
 | _=>e
def isP(L R:List Prt)(x:List Nat):Bool:=(cJ (L++R) x).isSome
def Ca(h:cJ (L++R) x=some p):isP L R x=true:=by unfold isP;rw[h];rfl
def Jp(h:cJ (L++R) x=none):isP L R x=false:=by unfold isP;rw[h];rfl
def vZ(K:W.Frag)(C C2:Addr):Sp:=fun vs H Q E=>∃ v L R ks al x,vs=[v,mkT x]/\oN K H v L R ks al/\SmB L R/\x.length<=1000 /\
 (isP L R x=true->∀ k,cH L ks x=some k->∀(u:V)(H':Hp),Same H H'->Den H' u (aV k)->Q u H')/\(isP L R x=true->cH L ks x=none->dR C2 H E)/\(isP L R x=false->dR C H E)
def QG{x:List Nat}(hx:x.length<=1000):(Str.empty++(⟨x.toArray⟩:Str)).length<=sizeLine:=by
 rw[strLen_append];have h1:=Qt x;have h2:=Rp;exact u5 (by lia)
section
variable {P:Program}{w:World}{K:W.Frag}{mg:Str->Option Value}{base:Heap}{Tn Tp Tt Tq Tr:Addr}
def kh:aR ["book","name","link"] ["book","name"] (aC gn):=⟨rfl,rfl,rfl,by decide +kernel,rfl,by decide +kernel,by decide +kernel⟩
def qz(h:Has K mg "needed_link" gn ["book","name"])(Ur:mg "Apart" = some (.ref Tr))(x_Apart:W.excIn K Tr vBm "ValueError.__new__" = true)(Ud:lu P w K mg base "link_of" 3 ["book","name"] (pY K Tn)):lu P w K mg base "needed_link" 4 ["book","name"] (vZ K Tn Tr):=by
 refine h.mk1 kh (fun vs H Q E hs=>?_) (fun f cdv A outer s H vs Q E hr hs=>?_)
 ·obtain⟨v,L,R,ks,al,x,rfl,_⟩:=hs
  rfl
 obtain⟨v,L,R,ks,al,x,rfl,hv,⟨h1,h2,hmo⟩,hx,k0,k1,k2⟩:=hs;refine⟨_,(au (aL (i:=2) kh.nd rfl (Or.inl rfl) (gV Ud hr (by decide) rfl iB (aj (pv 0) (aj (pv 1) aq))))
  (au (cF (aO nZ (pv 2) cU (bA _))
   (aB (yp rfl Eh rfl Ur x_Apart (aj (Ds (qZ (Hy (pv 1)) (qZ aG HS))) aq)))
   bB)
  (aB (aW (pv 2))))),?_⟩
 have hb1:(⟨x.toArray⟩:Str).length<=sizeLine:=by rw[Qt];exact u5 (by lia)
 have hb2:=QG hx;have hb3:((Str.empty++(⟨x.toArray⟩:Str))++Str.ofString " is in no link").length<=sizeLine:=Mh hx (by decide +kernel);refine⟨_,rfl,_,rfl,v,L,R,ks,al,x,rfl,hv,h1,h2,hx,hmo,fun p hp=>⟨fun k hk u H1 s1 d1=>?_,fun hn H1 s1=>?_⟩,fun z=>(k2 (Jp z)).out⟩
 ·obtain⟨q,us,rfl,_⟩:=aN d1;refine⟨_,rfl,rfl,_,rfl,?_⟩;refine eU (fun z=>?_) (fun _=>⟨_,rfl,k0 (Ca hp) k hk _ _ s1 d1⟩);have:=W3 z;cases this
 ·refine⟨_,rfl,rfl,_,rfl,rY ⟨_,rfl,.inl ⟨_,rfl,hb1,_,rfl,hb2,_,rfl,hb3,hb3,?_⟩⟩⟩;exact⟨smn 1,fun e T he hT=>((k1 (Ca hp) hn).up s1).made he hT⟩
end
def jW(h:aV a=aV b):a.1=b.1:=by
 unfold aV dZ at h;injection h with h;injection h with h _;injection h with h;have:∀ {xs ys:Nms},xs.map sD=ys.map sD->xs=ys:=by
  intro xs
  induction xs with
  | nil=>intro ys h;cases ys with | nil=>rfl | cons y ys=>cases h
  | cons x xs ih =>
   intro ys h;cases ys with
   | nil=>cases h
   | cons y ys =>
    rw[map_cons,map_cons] at h;injection h with h1 h2;rw[ih h2];have:x=y:=by
     unfold sD at h1;injection h1 with h1;injection h1 with h1;exact Array.mk.inj h1
    rw[this]
 exact this h
def cj(n:Nat)(k:Lnk):List Int:=if n=0 then k.2.2.2.1 else k.2.2.2.2
def fX(k:Lnk)(n:Nat)(x:List Nat)(rs:List Int):Lnk:=if n=0 then (k.1.filter (fun y=>decide (y≠x)),k.2.1,k.2.2.1,rs,k.2.2.2.2) else (k.1,k.2.1.filter (fun y=>decide (y≠x)),k.2.2.1,k.2.2.2.1,rs)
def Il:Sp:=fun vs H Q _=>∃ u n x t l,vs=[u,.int (n:Nat),mkT x,.int t]/\Den H u (aV l)/\n<=1/\LkS l/\(cj n l).Pairwise (· < ·)/\(cj n l).length<=60/\(aK n l).length<=900 /\
 (aK n l=[x]->∀ H',Same H H'->Q .non H')/\(aK n l≠[x]->∀(u':V)(rs:List Int)(H':Hp),Same H H'->rs.Pairwise (· < ·)->(∀ k,k∈rs↔k∈cj n l\/k=t)->Den H' u' (aV (fX l n x rs))->Q u' H')
def JZ{H:Hp}{l:Lnk}{a0 a1 a3 a4 a5:Addr}{n:Nat}(hn:n<=1)(h0:H a0=some (.tup (l.1.map mkT)))(h1:H a1=some (.tup (l.2.1.map mkT)))(h4:H a4=some (.tup (l.2.2.2.1.map V.int)))(h5:H a5=some (.tup (l.2.2.2.2.map V.int))) :
  ∃ b c:Addr,atI [V.ref a0,.ref a1,.int l.2.2.1,.ref a3] (n:Nat)=some (.ref b)/\H b=some (.tup ((aK n l).map mkT))/\atI [V.ref a4,.ref a5] (n:Nat)=some (.ref c)/\H c=some (.tup ((cj n l).map V.int)):=by
 match n,hn with
 | 0,_=>exact⟨a0,a4,bC _ _,h0,bC _ _,h4⟩
 | 1,_=>exact⟨a1,a5,aZ (xs:=[V.ref a0,.ref a1,.int l.2.2.1,.ref a3]) (j:=1) rfl,h1,aZ (xs:=[V.ref a4,.ref a5]) (j:=1) rfl,h5⟩
def Li(hn:n<=1)(h0:H a0=some (.tup (l.1.map mkT)))(h1:H a1=some (.tup (l.2.1.map mkT)))(h4:H a4=some (.tup (l.2.2.2.1.map V.int)))(h5:H a5=some (.tup (l.2.2.2.2.map V.int)))
  (hw:H w=some (.tup (((aK n l).filter fun y=>decide (y≠x)).map mkT)))(hr:H r=some (.tup (rs.map V.int)))(h3:H q3=some (.tup ([V.ref a4,.ref a5].set n (.ref r))))(hq:H q=some (.tup (([V.ref a0,.ref a1,.int l.2.2.1,.ref a3].set n (.ref w)).set 3 (.ref q3)))):Den H (.ref q) (aV (fX l n x rs)):=by
 match n,hn with
 | 0,_=>exact⟨q,_,rfl,hq,⟨w,_,rfl,hw,cC _ _⟩,⟨a1,_,rfl,h1,cC _ _⟩,rfl,⟨q3,_,rfl,h3,⟨r,_,rfl,hr,eZ _ _⟩,⟨a5,_,rfl,h5,eZ _ _⟩,trivial⟩,trivial⟩
 | 1,_=>exact⟨q,_,rfl,hq,⟨a0,_,rfl,h0,cC _ _⟩,⟨w,_,rfl,hw,cC _ _⟩,rfl,⟨q3,_,rfl,h3,⟨a4,_,rfl,h4,eZ _ _⟩,⟨r,_,rfl,hr,eZ _ _⟩,trivial⟩,trivial⟩
def Km(h:dZ xs=dZ ys):xs=ys:=by
 have:=jW (a:=(xs,[],0,[],[])) (b:=(ys,[],0,[],[])) (by unfold aV;rw[h]);exact this
section
variable {P:Program}{w:World}{K:W.Frag}{mg:Str->Option Value}{base:Heap}
def gG:aR ["link","side","name","t","lost"] ["link","side","name","t"] (aC dz):=⟨rfl,rfl,rfl,by decide +kernel,rfl,by decide +kernel,by decide +kernel⟩
def jy(h:Has K mg "link_behind_loss" dz ["link","side","name","t"])(T3:Cal P w K mg base "replaced" 1 ["row","place","thing"] fW)(T9:Cal P w K mg base "with_one" 1 ["row","thing"] (vp w))(T7:Cal P w K mg base "without" 1 ["row","thing"] yh):Cal P w K mg base "link_behind_loss" 2 ["link","side","name","t"] Il:=by
 refine h.mk' gG (fun vs H Q E hs=>?_) (fun f cdv A outer s H vs Q E hr hs=>?_)
 ·obtain⟨u,n,x,t,l,rfl,_⟩:=hs
  rfl
 obtain⟨u,n,x,t,l,rfl,hu,hn,hS,hup,hll,hsl,k1,k2⟩:=hs;refine⟨_,(au (cF (aO (JF hr.units) (bx bJ (pv 0) (pv 1) (fun _ _=>rfl)) (cu (aj (pv 2) aq)) (bA _))
   (aB (aW cU))
   bB)
  (au (aL (i:=4) gG.nd rfl (Or.inl rfl) (aM T3 hr (by decide) rfl (aj (bx bJ (pv 0) aA (fun _ _=>rfl)) (aj (pv 1) (aj (aM T9 hr (by decide) rfl (aj (bx bJ (bx bJ (pv 0) aA (fun _ _=>rfl)) (pv 1) (fun _ _=>rfl)) (aj (pv 3) aq))) aq)))))
  (aB (aW (aM T3 hr (by decide) rfl (aj (aM T3 hr (by decide) rfl (aj (pv 0) (aj (pv 1) (aj (aM T7 hr (by decide) rfl (aj (bx bJ (pv 0) (pv 1) (fun _ _=>rfl)) (aj (pv 2) aq))) aq)))) (aj aA (aj (pv 4) aq)))))))),?_⟩
 obtain⟨a,a0,a1,a3,a4,a5,us0,us1,rfl,ha,h0,d0,h1,d1,h3,h4,h5⟩:=lF hu;rw[zF d0] at h0;rw[zF d1] at h1;clear d0 d1;obtain⟨b,c,hb,eb,hc,ec⟩:=JZ (a3:=a3) hn h0 h1 h4 h5;have at3:atI [V.ref a0,.ref a1,.int l.2.2.1,.ref a3] 3=some (.ref a3):=aZ (xs:=[V.ref a0,.ref a1,.int l.2.2.1,.ref a3]) (j:=3) rfl;refine⟨_,rfl,_,rfl,a,_,_,_,rfl,rfl,SqT.of ha,hb,_,rfl,smn 1,fun p1 hp1=>?_⟩;have s1:=ao hp1 (.tup [mkT x]);have e1:(upd H p1 (.tup [mkT x])) p1=some (.tup [mkT x]):=ak;generalize upd H p1 (.tup [mkT x])=H1 at s1 e1 ⊢;refine⟨(aK n l).map sD,[sD x],1,⟨b,_,rfl,s1 _ _ eb,cC _ _⟩,⟨p1,_,rfl,e1,rfl,trivial⟩,(dH (ns:=aK n l) (by lia)).up,(dH (ns:=[x]) (by show 1<=1000;lia)).up,by lia,Ij (nG (aK n l) [x]),_,rfl,?_⟩;refine eU (fun z=>?_) (fun z=>?_)
 ·exact k1 (Km (dW.mp z)) _ s1
 have hne:aK n l≠[x]:=fun e=>z (by rw[e];exact jG _)
 refine⟨_,rfl,a,_,_,_,rfl,rfl,SqT.of (s1 _ _ ha),at3,_,rfl,_,rfl,a,_,_,_,rfl,rfl,SqT.of (s1 _ _ ha),at3,_,rfl,a3,_,_,_,rfl,rfl,SqT.of (s1 _ _ h3),hc,_,rfl,.inl ⟨c,cj n l,t,rfl,s1 _ _ ec,hup,hll,fun r rs H2 s2 e2 hrs hmem=>?_⟩⟩;have s12:=s1.trans s2;refine⟨a3,_,n,.ref r,rfl,s12 _ _ h3,by show n<2;lia,by show 2<=900;lia,fun q3 H3 s3 e3=>?_⟩;have s13:=s12.trans s3;refine⟨_,rfl,_,rfl,_,rfl,_,rfl,a,_,_,_,rfl,rfl,SqT.of (s13 _ _ ha),hb,_,rfl,.inl ⟨b,aK n l,x,rfl,s13 _ _ eb,hsl,fun w' H4 s4 e4=>?_⟩⟩;have s14:=s13.trans s4;refine⟨a,_,n,.ref w',rfl,s14 _ _ ha,by show n<4;lia,by show 4<=900;lia,fun q4 H5 s5 e5=>?_⟩;have s15:=s14.trans s5;refine⟨_,rfl,q4,_,3,.ref q3,rfl,e5,by rw[length_set];show 3<4;lia,by rw[length_set];show 4<=900;lia,fun q5 H6 s6 e6=>?_⟩;have s16:=s15.trans s6;have s36:=(s4.trans s5).trans s6;exact k2 hne (.ref q5) rs H6 s16 hrs hmem (Li hn (s16 _ _ h0) (s16 _ _ h1) (s16 _ _ h4) (s16 _ _ h5) ((s5.trans s6) _ _ e4) ((s3.trans s36) _ _ e2) (s36 _ _ e3) e6)
end
inductive Dd
 | take (x:List Nat)
 | loose (x:List Nat)
 | step (x:List Nat)
def Dd.ix:Dd->Nat
 | .take ..=>1
 | .loose ..=>8
 | .step ..=>9
def jt(H:Hp)(pd:Addr)(t:Int):Dd->Prop
 | .take x=>H pd=some (.tup [.str (Str.ofString "take"),.int t,mkT x])
 | .loose x=>H pd=some (.tup [.str (Str.ofString "loose"),.int t,mkT x])
 | .step x=>H pd=some (.tup [.str (Str.ofString "step"),.int t,mkT x])
def dE(L R:List Prt)(ks:List Lnk)(al:Nms):Dd->Option Nat
 | .take x=>if isP L R x then none else some 0
 | .loose x=>if isP L R x then (if (cH L ks x).isSome then none else some 4) else some 0
 | .step x=>if isP L R x then (if (cH L ks x).isSome then none else some 4) else some 0
def Dd.nm:Dd->List Nat
 | .take x=>x
 | .loose x=>x
 | .step x=>x
structure Fit(L R:List Prt)(ks:List Lnk)(al:Nms):Prop where
 sm:SmB L R
 nd:((L++R).map (·.1)).Nodup
 lk:∀ k∈ks,LkS k
 lo:∀ k∈ks,∀ n,(cj n k).Pairwise (· < ·)/\(cj n k).length<=60/\(aK n k).length<=900
 ne:∀ k∈ks,k.1≠[]
 pw:ks.Pairwise fun a b=>∀ x∈a.1,x ∉ b.1
 kl:ks.length<=60
 an:al.Nodup
 sl:al.length<=60
def yP(l:Lnk)(n:Nat)(x:List Nat)(rs:List Int):Option Lnk:=if aK n l=[x] then none else some (fX l n x rs)
def Aft(L R:List Prt)(ks:List Lnk)(al:Nms)(t:Int)(L' R':List Prt)(ks':List Lnk)(al':Nms):Dd->Prop
 | .take x=>L'=fZ L x/\R'=fZ R x/\al'=al.filter (fun y=>decide (y≠x))/\(cH L ks x=none->ks'=ks)/\∀ l,cH L ks x=some l->∃ rs:List Int,rs.Pairwise (· < ·)/\(∀ k,k∈rs↔k∈cj (bf L x) l\/k=t)/\RelK ks ks' (some l) (yP l (bf L x) x rs)
 | .loose x=>L'=L/\R'=R/\al'=al/\∀ l,cH L ks x=some l->RelK ks ks' (some l) none
 | .step x=>L'=L/\R'=R/\al'=al/\∀ l,cH L ks x=some l->RelK ks ks' (some l) (some (l.1,l.2.1,t,[],[]))
def Fd(C:Nat->Addr)(n:Nat):Sp:=fun vs H Q E=>∃ v pd t d L R ks al,vs=[v,.ref pd]/\Den H v (eE L R ks al)/\jt H pd t d/\d.ix=n/\Fit L R ks al/\d.nm.length<=400 /\
 (dE L R ks al d=none->∀(u:V)(L' R':List Prt)(ks':List Lnk)(al':Nms)(H':Hp),Same H H'->Den H' u (eE L' R' ks' al')->Aft L R ks al t L' R' ks' al' d->Q u H')/\(∀ e,dE L R ks al d=some e->dR (C e) H E)
def sy(hne:∀ k∈ks,k.1≠[])(hpw:ks.Pairwise fun a b=>∀ x∈a.1,x ∉ b.1)(hj:∀ k∈ks,k.1≠j.1):((ks++[j]).map aV).Nodup:=by
 rw[nodup_iff_pairwise_ne,pairwise_map,pairwise_append];refine⟨?_,pairwise_singleton _ _,fun a ha b hb e=>?_⟩
 ·refine hpw.imp_of_mem fun {a b} ha _ h e=>?_
  have e1:=jW e;cases hx:a.1 with
  | nil=>exact hne a ha hx
  | cons x xs=>exact h x (by rw[hx];exact .head _) (by rw[← e1,hx];exact .head _)
 ·rw[mem_singleton.mp hb] at e;exact hj a ha (jW e)
def yQ(h:cH L ks x=none)(hk:k∈ks):x ∉ aK (jg L x) k:=fun hx=>by
 have:=find?_eq_none.mp h k hk;exact this (W9 hx)
theorem pK{α:Type}{R:α->α->Prop}:∀ {xs:List α},xs.Pairwise R->∀ {a b:α},a∈xs->b∈xs->a≠b->R a b\/R b a
 | [],_,_,_,h,_,_=>nomatch h
 | x::xs,hp,a,b,ha,hb,hne=>by
  obtain⟨h1,h2⟩:=pairwise_cons.mp hp;rcases mem_cons.mp ha with ea | ha
  ·rcases mem_cons.mp hb with eb | hb
   ·exact absurd (ea.trans eb.symm) hne
   ·exact .inl (ea ▸ h1 b hb)
  ·rcases mem_cons.mp hb with eb | hb
   ·exact .inr (eb ▸ h1 a ha)
   ·exact pK h2 ha hb hne
def Fit.apart(hf:Fit L R ks al)(hk:k∈woL ks (some l))(hl:l∈ks)(hj:∀ y∈j,y∈l.1):k.1≠j:=fun e=>by
 have hkm:=qF hk;have hne:k≠l:=fun e2=>by
  have h:(!eqD (aV k) (aV l))=true:=(mem_filter.mp hk).2;rw[e2,jG] at h;cases h
 cases hx:k.1 with
 | nil=>exact hf.ne k hkm hx
 | cons x xs =>
  have m1:x∈k.1:=by rw[hx];exact .head _
  have m2:=hj x (e ▸ m1);rcases pK hf.pw hkm hl hne with h | h
  ·exact h x m1 m2
  ·exact h x m2 m1
def Hj(h1:H p1=none)(h2:(upd H p1 (.tup [])) p2=none)(h3:(upd (upd H p1 (.tup [])) p2 (.tup [])) p3=none)(h4:(upd (upd (upd H p1 (.tup [])) p2 (.tup [])) p3 (.tup [.ref p1,.ref p2])) p4=none)(e0:H a0=some (.tup us0))(d0:bL H us0 (xs.map sD))(e1:H a1=some (.tup us1))(d1:bL H us1 (ys.map sD)) :
  Same H (upd (upd (upd (upd H p1 (.tup [])) p2 (.tup [])) p3 (.tup [.ref p1,.ref p2])) p4 (.tup [.ref a0,.ref a1,.int t,.ref p3]))/\Den (upd (upd (upd (upd H p1 (.tup [])) p2 (.tup [])) p3 (.tup [.ref p1,.ref p2])) p4 (.tup [.ref a0,.ref a1,.int t,.ref p3])) (.ref p4) (aV (xs,ys,t,[],[])):=by
 have s1:=ao h1 (.tup []);have s2:=ao h2 (.tup []);have s3:=ao h3 (.tup [.ref p1,.ref p2]);have s4:=ao h4 (.tup [.ref a0,.ref a1,.int t,.ref p3]);have s:=((s1.trans s2).trans s3).trans s4;have s24:=(s2.trans s3).trans s4;have s34:=s3.trans s4;exact⟨s,p4,_,rfl,ak,⟨a0,us0,rfl,s _ _ e0,d0.same s⟩,⟨a1,us1,rfl,s _ _ e1,d1.same s⟩,rfl,⟨p3,_,rfl,s4 _ _ ak,⟨p1,[],rfl,s24 _ _ ak,trivial⟩,⟨p2,[],rfl,s34 _ _ ak,trivial⟩,trivial⟩,trivial⟩
def Ei(hn:n<=1)(hq:H q=some (.tup (([V.ref pl,V.ref pr,V.ref pk,V.ref pa].set n (.ref p)).set 3 (.ref w))))(hp:H p=some (.tup ws))(dp:bL H ws (M.map bH))
  (h1:H pl=some (.tup ls))(d1:bL H ls (L.map bH))(h2:H pr=some (.tup rs))(d2:bL H rs (R.map bH))(h3:H pk=some (.tup us))(d3:bL H us (ks.map aV))(h4:H w=some (.tup (al.map mkT))) :
  Den H (.ref q) (eE (if n=0 then M else L) (if n=0 then R else M) ks al):=by
 match n,hn with
 | 0,_=>exact vh hq hp dp h2 d2 h3 d3 h4
 | 1,_=>exact vh hq h1 d1 hp dp h3 d3 h4
def sdP(n:Nat)(L R:List Prt):List Prt:=if n=0 then L else R
def lJ(L:List Prt)(x:List Nat):bf L x<=1:=by
 unfold bf;split <;> lia
def Gk(hn:n<=1)(h1:H pl=some (.tup ls))(d1:bL H ls (L.map bH))(h2:H pr=some (.tup rs))(d2:bL H rs (R.map bH)) :
  ∃(p:Addr)(us:List V),atI [V.ref pl,V.ref pr,V.ref pk,V.ref pa] (n:Nat)=some (.ref p)/\H p=some (.tup us)/\bL H us ((sdP n L R).map bH):=by
 match n,hn with
 | 0,_=>exact⟨pl,ls,bC _ _,h1,d1⟩
 | 1,_=>exact⟨pr,rs,aZ (xs:=[V.ref pl,V.ref pr,V.ref pk,V.ref pa]) (j:=1) rfl,h2,d2⟩
theorem xM:∀ {xs ys:List Int},xs.Nodup->(∀ x∈xs,x∈ys)->xs.length<=ys.length
 | [],_,_,_=>Nat.zero_le _
 | x::xs,ys,h,s=>by
  obtain⟨hx,h'⟩:=nodup_cons.mp h;have hm:=s x (.head _);have:=xM (xs:=xs) (ys:=ys.erase x) h' fun y hy=>(mem_erase_of_ne (fun e:y=x=>hx (by rw[← e];exact hy))).mpr (s y (.tail _ hy))
  rw[List.length_erase_of_mem hm] at this;have:=length_pos_of_mem hm;rw[length_cons];lia
def Kq:∀ {rs ms:List Int}{t:Int},rs.Pairwise (· < ·)->(∀ k∈rs,k∈ms\/k=t)->rs.length<=ms.length+1:=fun {rs ms t} h s=>by
 have:=xM (xs:=rs) (ys:=t::ms) (nodup_iff_pairwise_ne.mpr (h.imp fun h=>Int.ne_of_lt h)) fun k hk=>by
  rcases s k hk with z | z
  ·exact .tail _ z
  ·rw[z];exact .head _
 rwa [length_cons] at this
theorem Ja:∀ {ms:List Int},ms.Pairwise (· < ·)->∀ t:Int,∃ rs:List Int,rs.Pairwise (· < ·)/\∀ k,k∈rs↔k∈ms\/k=t
 | [],_,t=>⟨[t],pairwise_singleton _ _,fun k=>by simp⟩
 | m::ms,h,t=>by
  obtain⟨h1,h2⟩:=pairwise_cons.mp h;rcases Int.lt_trichotomy t m with z | z | z
  ·exact⟨t::m::ms,.cons (fun a ha=>by rcases mem_cons.mp ha with e | e;(rw[e];exact z);(exact Int.lt_trans z (h1 a e))) h,fun k=>by rw[mem_cons];exact⟨fun q=>q.elim .inr .inl,fun q=>q.elim .inr .inl⟩⟩
  ·exact⟨m::ms,h,fun k=>⟨.inl,fun q=>q.elim id fun e=>by rw[e,z];exact .head _⟩⟩
  ·obtain⟨rs,r1,r2⟩:=Ja h2 t;refine⟨m::rs,.cons (fun a ha=>?_) r1,fun k=>?_⟩
   ·rcases(r2 a).mp ha with e | e
    ·exact h1 a e
    ·rw[e];exact z
   ·rw[mem_cons,mem_cons,r2 k];exact⟨fun q=>q.elim (fun e=>.inl (.inl e)) fun q=>q.elim (fun e=>.inl (.inr e)) .inr,fun q=>q.elim (fun q=>q.elim .inl fun e=>.inr (.inl e)) fun e=>.inr (.inr e)⟩
def uL(h:x ∉ L.map (·.1)):fZ L x=L:=filter_eq_self.mpr fun p hp=>W9 fun e=>h (by rw[← e];exact mem_map_of_mem hp)
def GF(hnd:((L++R).map (·.1)).Nodup):(if bf L x=0 then fZ (sdP (bf L x) L R) x else L)=fZ L x/\(if bf L x=0 then R else fZ (sdP (bf L x) L R) x)=fZ R x:=by
 rw[map_append,nodup_append] at hnd;by_cases hx:x∈L.map (·.1)
 ·have h0:bf L x=0:=by unfold bf;rw[bW,W9 hx];rfl
  rw[h0,if_pos rfl,if_pos rfl,uL (L:=R) fun z=>hnd.2.2 x hx x z rfl];exact⟨rfl,rfl⟩
 ·have h0:bf L x=1:=by unfold bf;rw[bW,WX hx];rfl
  rw[h0,if_neg (by decide),if_neg (by decide),uL (L:=L) hx];exact⟨rfl,rfl⟩
section
variable {P:Program}{w:World}{K:W.Frag}{mg:Str->Option Value}{base:Heap}{Tn Tp Tt Tq Tr:Addr}
def vQ:aR ["book","deed"] ["book","deed"] (aC iI):=⟨rfl,rfl,rfl,by decide +kernel,rfl,by decide +kernel,by decide +kernel⟩
def uF(h:Has K mg "loose_done" iI ["book","deed"])(T5:Cal P w K mg base "relinked" 2 ["book","old","new"] iJ)(T6:lu P w K mg base "needed_link" 4 ["book","name"] (vZ K Tn Tr)):lu P w K mg base "loose_done" 5 ["book","deed"] (Fd (c5 Tn Tp Tt Tq Tr) 8):=by
 refine h.mk1 vQ (fun vs H Q E hs=>?_) (fun f cdv A outer s H vs Q E hr hs=>?_)
 ·obtain⟨v,pd,t,d,L,R,ks,al,rfl,_⟩:=hs
  rfl
 obtain⟨v,pd,t,d,L,R,ks,al,rfl,hv,hd,hw,hf,hsm,k,thr⟩:=hs;obtain⟨x,rfl⟩:∃ x,d=.loose x:=by cases d <;> first | exact⟨_,rfl⟩ | cases hw
 refine⟨_,(aB (aW (aM T5 hr (by decide) rfl (aj (pv 0) (aj (gV T6 hr (by decide) rfl iB (aj (pv 0) (aj (bx bJ (pv 1) aA (fun _ _=>rfl)) aq))) (aj cU aq)))))),?_⟩;have at_:∀ {j:Nat}{yy:V},[V.str (Str.ofString "loose"),.int t,mkT x][j]?=some yy->atI [V.str (Str.ofString "loose"),.int t,mkT x] (j:Nat)=some yy:=fun h=>aZ h
 refine⟨_,rfl,_,rfl,_,rfl,pd,_,_,_,rfl,rfl,SqT.of hd,at_ (j:=2) rfl,v,L,R,ks,al,x,rfl,oN.of hv,hf.sm,W7 hsm (by decide),fun hp l hl u H1 s1 d1=>?_,fun hp hn=>(thr 4 (by simp only[dE,hp,hn];rfl)).out,fun z=>(thr 0 (by simp only[dE,z];rfl)).out⟩;have hE:dE L R ks al (.loose x)=none:=by simp only[dE,hp,hl];rfl
 refine⟨v,u,.non,L,R,ks,al,some l,none,rfl,hv.same s1,d1,rfl,hf.lk,(fun k hk=>by cases hk;exact hf.lk _ (jo hl)),(fun k hk=>by cases hk),hf.kl,(fun j hj=>by cases hj),fun u' ks' H2 s2 d2 hR=>?_⟩;exact k hE u' L R ks' al H2 (s1.trans s2) d2 ⟨rfl,rfl,rfl,fun l' hl'=>by rw[hl] at hl';cases hl';exact hR⟩
def pJ:aR ["book","deed","link"] ["book","deed"] (aC ju):=⟨rfl,rfl,rfl,by decide +kernel,rfl,by decide +kernel,by decide +kernel⟩
def vM(h:Has K mg "step_done" ju ["book","deed"])(T6:lu P w K mg base "needed_link" 4 ["book","name"] (vZ K Tn Tr))(T5:Cal P w K mg base "relinked" 2 ["book","old","new"] iJ):lu P w K mg base "step_done" 5 ["book","deed"] (Fd (c5 Tn Tp Tt Tq Tr) 9):=by
 refine h.mk1 pJ (fun vs H Q E hs=>?_) (fun f cdv A outer s H vs Q E hr hs=>?_)
 ·obtain⟨v,pd,t,d,L,R,ks,al,rfl,_⟩:=hs
  rfl
 obtain⟨v,pd,t,d,L,R,ks,al,rfl,hv,hd,hw,hf,hsm,k,thr⟩:=hs;obtain⟨x,rfl⟩:∃ x,d=.step x:=by cases d <;> first | exact⟨_,rfl⟩ | cases hw
 refine⟨_,(au (aL (i:=2) pJ.nd rfl (Or.inl rfl) (gV T6 hr (by decide) rfl iB (aj (pv 0) (aj (bx bJ (pv 1) aA (fun _ _=>rfl)) aq))))
  (aB (aW (aM T5 hr (by decide) rfl (aj (pv 0) (aj (pv 2) (aj (cu (aj (bx bJ (pv 2) aA (fun _ _=>rfl)) (aj (bx bJ (pv 2) aA (fun _ _=>rfl)) (aj (bx bJ (pv 1) aA (fun _ _=>rfl)) (aj (cu (aj (cu aq) (aj (cu aq) aq))) aq))))) aq))))))),?_⟩
 have at_:∀ {j:Nat}{yy:V},[V.str (Str.ofString "step"),.int t,mkT x][j]?=some yy->atI [V.str (Str.ofString "step"),.int t,mkT x] (j:Nat)=some yy:=fun h=>aZ h
 refine⟨_,rfl,_,rfl,pd,_,_,_,rfl,rfl,SqT.of hd,at_ (j:=2) rfl,v,L,R,ks,al,x,rfl,oN.of hv,hf.sm,W7 hsm (by decide),fun hp l hl u H1 s1 d1=>?_,fun hp hn=>(thr 4 (by simp only[dE,hp,hn];rfl)).out,fun z=>(thr 0 (by simp only[dE,z];rfl)).out⟩;have hE:dE L R ks al (.step x)=none:=by simp only[dE,hp,hl];rfl
 have hlm:=jo hl;obtain⟨a,a0,a1,a3,a4,a5,us0,us1,rfl,ha,ha0,da0,ha1,da1,ha3,ha4,ha5⟩:=lF d1;have ix:∀ {j:Nat}{yy:V},[V.ref a0,.ref a1,.int l.2.2.1,.ref a3][j]?=some yy->atI [V.ref a0,.ref a1,.int l.2.2.1,.ref a3] (j:Nat)=some yy:=fun h=>aZ h
 refine⟨_,rfl,_,rfl,_,rfl,a,_,_,_,rfl,rfl,SqT.of ha,ix (j:=0) rfl,_,rfl,a,_,_,_,rfl,rfl,SqT.of ha,ix (j:=1) rfl,_,rfl,pd,_,_,_,rfl,rfl,SqT.of (s1 _ _ hd),at_ (j:=1) rfl,?_⟩;refine⟨smn 0,fun p1 h1=>⟨smn 0,fun p2 h2=>⟨smn 2,fun p3 h3=>⟨smn 4,fun p4 h4=>?_⟩⟩⟩⟩;obtain⟨s2,d2⟩:=Hj (t:=t) h1 h2 h3 h4 ha0 da0 ha1 da1;generalize upd (upd (upd (upd H1 p1 (.tup [])) p2 (.tup [])) p3 (.tup [.ref p1,.ref p2])) p4 (.tup [.ref a0,.ref a1,.int t,.ref p3])=H2 at s2 d2 ⊢;refine⟨v,.ref a,.ref p4,L,R,ks,al,some l,some (l.1,l.2.1,t,[],[]),rfl,hv.same (s1.trans s2),d1.same s2,d2,hf.lk,(fun k hk=>by cases hk;exact hf.lk _ hlm),(fun k hk=>by cases hk;exact⟨(hf.lk _ hlm).1,(hf.lk _ hlm).2.1,Nat.zero_le _,Nat.zero_le _⟩),hf.kl,(fun j hj=>?_),fun u' ks' H3 s3 d3 hR=>?_⟩
 ·cases hj;exact sy (fun k hk=>hf.ne k (qF hk)) (hf.pw.sublist filter_sublist) (fun k hk=>hf.apart (l:=l) hk hlm fun y hy=>hy)
 exact k hE u' L R ks' al H3 ((s1.trans s2).trans s3) d3 ⟨rfl,rfl,rfl,fun l' hl'=>by rw[hl] at hl';cases hl';exact hR⟩
def eX:aR ["book","deed","name","side","link","left_over"] ["book","deed"] (aC jw):=⟨rfl,rfl,rfl,by decide +kernel,rfl,by decide +kernel,by decide +kernel⟩
def wz(h:Has K mg "take_done" jw ["book","deed"])(Uc:lu P w K mg base "side_of" 2 ["book","name"] (rN K Tn))(Ud:lu P w K mg base "link_of" 3 ["book","name"] (pY K Tn))(T3:Cal P w K mg base "replaced" 1 ["row","place","thing"] fW)(Ub:Cal P w K mg base "parts_without" 1 ["parts","name"] uM)(T7:Cal P w K mg base "without" 1 ["row","thing"] yh)(T5:Cal P w K mg base "relinked" 2 ["book","old","new"] iJ)(T8:Cal P w K mg base "link_behind_loss" 2 ["link","side","name","t"] Il):lu P w K mg base "take_done" 4 ["book","deed"] (Fd (c5 Tn Tp Tt Tq Tr) 1):=by
 refine h.mk1 eX (fun vs H Q E hs=>?_) (fun f cdv A outer s H vs Q E hr hs=>?_)
 ·obtain⟨v,pd,t,d,L,R,ks,al,rfl,_⟩:=hs
  rfl
 obtain⟨v,pd,t,d,L,R,ks,al,rfl,hv,hd,hw,hf,hsm,k,thr⟩:=hs;obtain⟨x,rfl⟩:∃ x,d=.take x:=by cases d <;> first | exact⟨_,rfl⟩ | cases hw
 refine⟨_,(au (aL (i:=2) eX.nd rfl (Or.inl rfl) (bx bJ (pv 1) aA (fun _ _=>rfl)))
  (au (aL (i:=3) eX.nd rfl (Or.inl rfl) (gV Uc hr (by decide) rfl iB (aj (pv 0) (aj (pv 2) aq))))
  (au (aL (i:=4) eX.nd rfl (Or.inl rfl) (gV Ud hr (by decide) rfl iB (aj (pv 0) (aj (pv 2) aq))))
  (au (aL (i:=5) eX.nd rfl (Or.inl rfl) (aM T3 hr (by decide) rfl (aj (pv 0) (aj (pv 3) (aj (aM Ub hr (by decide) rfl (aj (bx bJ (pv 0) (pv 3) (fun _ _=>rfl)) (aj (pv 2) aq))) aq)))))
  (au (aL (i:=5) eX.nd rfl (Or.inl rfl) (aM T3 hr (by decide) rfl (aj (pv 5) (aj aA (aj (aM T7 hr (by decide) rfl (aj (bx bJ (pv 0) aA (fun _ _=>rfl)) (aj (pv 2) aq))) aq)))))
  (au (cF (aO nZ (pv 4) cU (bA _))
   (aB (aW (pv 5)))
   bB)
  (aB (aW (aM T5 hr (by decide) rfl (aj (pv 5) (aj (pv 4) (aj (aM T8 hr (by decide) rfl (aj (pv 4) (aj (pv 3) (aj (pv 2) (aj (bx bJ (pv 1) aA (fun _ _=>rfl)) aq))))) aq)))))))))))),?_⟩
 have at_:∀ {j:Nat}{yy:V},[V.str (Str.ofString "take"),.int t,mkT x][j]?=some yy->atI [V.str (Str.ofString "take"),.int t,mkT x] (j:Nat)=some yy:=fun h=>aZ h
 have hx:x.length<=1000:=W7 hsm (by decide);obtain⟨h1,h2,hmo⟩:=hf.sm;refine⟨_,rfl,pd,_,_,_,rfl,rfl,SqT.of hd,at_ (j:=2) rfl,?_⟩;refine⟨_,rfl,_,rfl,v,L,R,ks,al,x,rfl,oN.of hv,h1,h2,hx,hmo,fun p0 hp0 H1 s1=>?_,fun z=>(thr 0 (by simp only[dE,Jp z];rfl)).out⟩;have hp:=Ca hp0;have hE:dE L R ks al (.take x)=none:=by simp only[dE,hp];rfl
 have hsi:((if (cJ L x).isSome=true then (0:Int) else 1))=((bf L x:Nat):Int):=by unfold bf;split <;> rfl
 rw[hsi];have hn:=lJ L x;obtain⟨o1,o2⟩:=GF (x:=x) hf.nd;have hv1:=hv.same s1;refine⟨_,rfl,_,rfl,v,L,R,ks,al,x,rfl,oN.of hv1,h1,h2,hx,hmo,fun p' _=>J1 fun u1 H2 s2 d2=>?_,fun z=>absurd hp0 (by rw[z];simp)⟩;have s12:=s1.trans s2;obtain⟨p,pl,pr,pk,pa,ls,rs,us,rfl,a1,a2,a3,a4,a5,a6,a7,a8⟩:=lZ (hv.same s12);obtain⟨pp,us',hat,hpp,dpp⟩:=Gk (pk:=pk) (pa:=pa) hn a2 a3 a4 a5;have at3:=aZ (xs:=[V.ref pl,V.ref pr,V.ref pk,V.ref pa]) (j:=3) rfl;have hls:(sdP (bf L x) L R).length<=900:=by unfold sdP;split <;> lia
 refine⟨_,rfl,_,rfl,_,rfl,_,rfl,p,_,_,_,rfl,rfl,SqT.of a1,hat,_,rfl,pp,us',sdP (bf L x) L R,x,rfl,hpp,dpp,hls,fun q3 ws3 H3 s3 e3 d3=>?_⟩;refine⟨p,_,bf L x,.ref q3,rfl,s3 _ _ a1,by show _<4;lia,by show 4<=900;lia,fun q4 H4 s4 e4=>?_⟩;have s34:=s3.trans s4;refine⟨_,rfl,_,rfl,p,_,_,_,rfl,rfl,SqT.of (s34 _ _ a1),at3,_,rfl,.inl ⟨pa,al,x,rfl,s34 _ _ a8,by have:=hf.sl;lia,fun q5 H5 s5 e5=>?_⟩⟩;refine⟨q4,_,3,.ref q5,rfl,s5 _ _ e4,by rw[length_set];show 3<4;lia,by rw[length_set];show 4<=900;lia,fun q6 H6 s6 e6=>?_⟩;have s46:=s5.trans s6;have s36:=s34.trans s46;have s36':=s4.trans s46;have d6:=Ei (M:=fZ (sdP (bf L x) L R) x) hn e6 (s36' _ _ e3) (d3.same s36') (s36 _ _ a2) (a3.same s36) (s36 _ _ a4) (a5.same s36) (s36 _ _ a6) (a7.same s36) (s6 _ _ e5);rw[o1,o2] at d6;have s06:=s12.trans s36;have hd6:=s06 _ _ hd;have d26:=d2.same s36;clear d2 d3 a1 a2 a3 a4 a5 a6 a7 a8 hpp dpp;refine⟨_,rfl,rfl,_,rfl,?_⟩;cases hl:cH L ks x with
 | none =>
  rw[hl] at d26;have eu:u1=.non:=d26;subst eu;refine eU (fun _=>⟨_,rfl,?_⟩) (fun z=>absurd (W9 rfl) z);exact k hE (.ref q6) _ _ ks _ H6 s06 d6 ⟨rfl,rfl,rfl,fun _=>rfl,fun l h=>by rw[hl] at h;cases h⟩
 | some l =>
  rw[hl] at d26;have d26:Den H6 u1 (aV l):=d26;have hlm:=jo hl;obtain⟨l1,l2,l3⟩:=hf.lo l hlm (bf L x);obtain⟨a,vs,eu,_⟩:=aN d26;subst eu;refine eU (fun z=>by have:=W3 z;cases this) (fun _=>?_);refine⟨_,rfl,_,rfl,_,rfl,_,rfl,_,rfl,_,rfl,pd,_,_,_,rfl,rfl,SqT.of hd6,at_ (j:=1) rfl,.ref a,bf L x,x,t,l,rfl,d26,hn,hf.lk l hlm,l1,l2,l3,fun he H7 s7=>?_,fun he u7 rs H7 s7 hrs hmem d7=>?_⟩
  ·obtain⟨rs,r1,r2⟩:∃ rs:List Int,rs.Pairwise (· < ·)/\∀ k,k∈rs↔k∈cj (bf L x) l\/k=t:=Ja l1 t;refine⟨.ref q6,.ref a,.non,fZ L x,fZ R x,ks,_,some l,none,rfl,d6.same s7,d26.same s7,rfl,hf.lk,(fun k hk=>by cases hk;exact hf.lk _ hlm),(fun k hk=>by cases hk),hf.kl,(fun j hj=>by cases hj),fun u' ks' H8 s8 d8 hR=>?_⟩;exact k hE u' _ _ ks' _ H8 ((s06.trans s7).trans s8) d8 ⟨rfl,rfl,rfl,(fun z=>by rw[hl] at z;cases z),fun l' h=>by rw[hl] at h;cases h;exact⟨rs,r1,r2,by unfold yP;rw[if_pos he];exact hR⟩⟩
  ·have hls':∀ y∈(fX l (bf L x) x rs).1,y∈l.1:=fun y hy=>by
    unfold fX at hy;split at hy
    ·exact(mem_filter.mp hy).1
    ·exact hy
   have hlS:LkS (fX l (bf L x) x rs):=by
    obtain⟨z1,z2,z3,z4⟩:=hf.lk l hlm;have hrl:rs.length<=1000:=by
     have:=Kq hrs fun k hk=>(hmem k).mp hk
     lia
    unfold fX;split
    ·exact⟨W7 (length_filter_le _ _) z1,z2,hrl,z4⟩
    ·exact⟨z1,W7 (length_filter_le _ _) z2,z3,hrl⟩
   refine⟨.ref q6,.ref a,u7,fZ L x,fZ R x,ks,_,some l,some (fX l (bf L x) x rs),rfl,d6.same s7,d26.same s7,d7,hf.lk,(fun k hk=>by cases hk;exact hf.lk _ hlm),(fun k hk=>by cases hk;exact hlS),hf.kl,(fun j hj=>?_),fun u' ks' H8 s8 d8 hR=>?_⟩
   ·cases hj;exact sy (fun k hk=>hf.ne k (qF hk)) (hf.pw.sublist filter_sublist) (fun k hk=>hf.apart (l:=l) hk hlm hls')
   exact k hE u' _ _ ks' _ H8 ((s06.trans s7).trans s8) d8 ⟨rfl,rfl,rfl,(fun z=>by rw[hl] at z;cases z),fun l' h=>by rw[hl] at h;cases h;exact⟨rs,hrs,hmem,by unfold yP;rw[if_neg he];exact hR⟩⟩
end
def iy:List (Str × Str):=[(Str.ofString "put",Str.ofString "put_done"),(Str.ofString "take",Str.ofString "take_done"),(Str.ofString "part",Str.ofString "part_done"),(Str.ofString "join",Str.ofString "join_done"),(Str.ofString "move",Str.ofString "move_done"),(Str.ofString "change",Str.ofString "change_done"),(Str.ofString "word",Str.ofString "word_done"),(Str.ofString "link",Str.ofString "link_done"),(Str.ofString "loose",Str.ofString "loose_done"),(Str.ofString "step",Str.ofString "step_done"),(Str.ofString "alone",Str.ofString "alone_done"),(Str.ofString "lack",Str.ofString "lack_done")]
def nmD:Nat->Str
 | 1=>Str.ofString "take_done"
 | 8=>Str.ofString "loose_done"
 | _=>Str.ofString "step_done"
def uG(C:Nat->Addr):Sp:=fun vs H Q E=>∃ n,Fd C n vs H Q E
def Cm{C:Nat->Addr}(h:Fd C n vs H Q E):Fd C n vs H Q (Pz E):=by
 obtain⟨v,pd,t,d,L,R,ks,al,e,hv,hd,hw,h1,h2,k,thr⟩:=h;exact⟨v,pd,t,d,L,R,ks,al,e,hv,hd,hw,h1,h2,k,fun e z=>(thr e z).out⟩
def JG(h:jt H pd t d):∃(k:Str)(ys:List V),H pd=some (.tup (.str k::ys))/\KTD.datumAt k iy=some (nmD d.ix):=by
 cases d with
 | take=>exact⟨_,_,h,by show _=some (Str.ofString "take_done");decide +kernel⟩
 | loose=>exact⟨_,_,h,by show _=some (Str.ofString "loose_done");decide +kernel⟩
 | step=>exact⟨_,_,h,by show _=some (Str.ofString "step_done");decide +kernel⟩
def Bx{C:Nat->Addr}(h:uG C vs H Q E):∃(v:V)(pd:Addr)(k nm:Str)(ys:List V),vs=[v,.ref pd]/\H pd=some (.tup (.str k::ys))/\KTD.datumAt k iy=some nm/\∃ d:Dd,nm=nmD d.ix/\Fd C d.ix vs H Q E:=by
 obtain⟨n,h⟩:=h;have h0:=h;obtain⟨v,pd,t,d,L,R,ks,al,e,hv,hd,hw,_⟩:=h;obtain⟨k,ys,e1,e2⟩:=JG hd;exact⟨v,pd,k,_,ys,e,e1,e2,d,rfl,by rw[hw];exact h0⟩
section
variable {P:Program}{w:World}{K:W.Frag}{mg:Str->Option Value}{base:Heap}{Tn Tp Tt Tq Tr:Addr}
def HX:aR ["book","deed","doer"] ["book","deed"] (aC FT):=⟨rfl,rfl,rfl,by decide +kernel,rfl,by decide +kernel,by decide +kernel⟩
def Ms(h:Has K mg "done" FT ["book","deed"])(U9:mg "DOERS" = some (.ref Us))(Ul:KFT K Us iy)(hMK:MgK K mg)(Um:lu P w K mg base "take_done" 4 ["book","deed"] (Fd (c5 Tn Tp Tt Tq Tr) 1))(Ug:lu P w K mg base "loose_done" 5 ["book","deed"] (Fd (c5 Tn Tp Tt Tq Tr) 8))(Uo:lu P w K mg base "step_done" 5 ["book","deed"] (Fd (c5 Tn Tp Tt Tq Tr) 9)):lu P w K mg base "done" 7 ["book","deed"] (uG (c5 Tn Tp Tt Tq Tr)):=by
 refine h.mk1 HX (fun vs H Q E hs=>?_) (fun f cdv A outer s H vs Q E hr hs=>?_)
 ·obtain⟨v,pd,k,nm,ys,rfl,_⟩:=Bx hs
  rfl
 obtain⟨v,pd,kw,nm,ys,rfl,hd,hk,d,rfl,hc⟩:=Bx hs;refine⟨_,(au (aL (i:=2) HX.nd rfl (Or.inl rfl) (K3 (fj (v:=.ref Us) rfl U9 rfl) (bx bJ (pv 1) aA (fun _ _=>rfl)) (fun _ _=>rfl)))
  (aB (aW (Dl hr (pv 2) iB (aj (pv 0) (aj (pv 1) aq)))))),?_⟩
 refine⟨_,rfl,pd,_,_,_,rfl,rfl,SqT.of hd,bC _ _,Us,iy,kw,nmD d.ix,rfl,rfl,Ul,hk,fun f' hf=>?_⟩;have hm:=hMK _ _ hf;cases d with
 | take =>
  obtain⟨f1,q1,F1⟩:=Um.fn;rw[show mg (Str.ofString "take_done")=_ from hm] at q1;cases q1;exact⟨f',_,_,_,rfl,F1,by decide,_,rfl,_,rfl,Cm hc⟩
 | loose =>
  obtain⟨f1,q1,F1⟩:=Ug.fn;rw[show mg (Str.ofString "loose_done")=_ from hm] at q1;cases q1;exact⟨f',_,_,_,rfl,F1,by decide,_,rfl,_,rfl,Cm hc⟩
 | step =>
  obtain⟨f1,q1,F1⟩:=Uo.fn;rw[show mg (Str.ofString "step_done")=_ from hm] at q1;cases q1;exact⟨f',_,_,_,rfl,F1,by decide,_,rfl,_,rfl,Cm hc⟩
end
def gj(lo:Addr)(l s m:Int):List (Key × V):=[(Sum.inr "own",.ref lo),(Sum.inr "left",.int l),(Sum.inr "seed",.int s),(Sum.inr "many",.int m)]
def kn1:¬ ((Sum.inr (Str.ofString "own"):Key)=Sum.inr (Str.ofString "left")):=by decide +kernel
def kn2:¬ ((Sum.inr (Str.ofString "own"):Key)=Sum.inr (Str.ofString "seed")):=by decide +kernel
def kn3:¬ ((Sum.inr (Str.ofString "own"):Key)=Sum.inr (Str.ofString "many")):=by decide +kernel
def kn4:¬ ((Sum.inr (Str.ofString "left"):Key)=Sum.inr (Str.ofString "seed")):=by decide +kernel
def kn5:¬ ((Sum.inr (Str.ofString "left"):Key)=Sum.inr (Str.ofString "many")):=by decide +kernel
def kn6:¬ ((Sum.inr (Str.ofString "seed"):Key)=Sum.inr (Str.ofString "many")):=by decide +kernel
def sn1:¬ (Str.ofString "own" = Str.ofString "left"):=by decide +kernel
def sn2:¬ (Str.ofString "own" = Str.ofString "seed"):=by decide +kernel
def sn3:¬ (Str.ofString "own" = Str.ofString "many"):=by decide +kernel
def sn4:¬ (Str.ofString "left" = Str.ofString "seed"):=by decide +kernel
def sm4:¬ (Str.ofString "seed" = Str.ofString "left"):=by decide +kernel
def sn5:¬ (Str.ofString "left" = Str.ofString "many"):=by decide +kernel
def sm5:¬ (Str.ofString "many" = Str.ofString "left"):=by decide +kernel
def sn6:¬ (Str.ofString "seed" = Str.ofString "many"):=by decide +kernel
def sm6:¬ (Str.ofString "many" = Str.ofString "seed"):=by decide +kernel
def Qe(lo:Addr)(l s m:Int):gk (gj lo l s m) (Sum.inr "own" : Key)=some (.ref lo):=bD rfl
def v_left(lo:Addr)(l s m:Int):gk (gj lo l s m) (Sum.inr "left" : Key)=some (.int l):=(aX kn1).trans (bD rfl)
def Oh(lo:Addr)(l s m:Int):gk (gj lo l s m) (Sum.inr "seed" : Key)=some (.int s):=(aX kn2).trans ((aX kn4).trans (bD rfl))
theorem Pr(lo:Addr)(l s m:Int):gk (gj lo l s m) (Sum.inr "many" : Key)=some (.int m):=(aX kn3).trans ((aX kn5).trans ((aX kn6).trans (bD rfl)))
theorem sm1:¬ (Str.ofString "left" = Str.ofString "own"):=by decide +kernel
theorem sm2:¬ (Str.ofString "seed" = Str.ofString "own"):=by decide +kernel
theorem sm3:¬ (Str.ofString "many" = Str.ofString "own"):=by decide +kernel
def MN(lo:Addr)(l s m i:Int):putK (gj lo l s m) (Sum.inr "left" : Key) (.int i)=gj lo i s m:=by
 unfold putK gj;simp[sn1,sm1,sn2,sm2,sn3,sm3,sn4,sm4,sn5,sm5,sn6,sm6]
def MJ(lo:Addr)(l s m i:Int):putK (gj lo l s m) (Sum.inr "seed" : Key) (.int i)=gj lo l i m:=by
 unfold putK gj;simp[sn1,sm1,sn2,sm2,sn3,sm3,sn4,sm4,sn5,sm5,sn6,sm6]
def Mq(lo:Addr)(l s m i:Int):putK (gj lo l s m) (Sum.inr "many" : Key) (.int i)=gj lo l s i:=by
 unfold putK gj;simp[sn1,sm1,sn2,sm2,sn3,sm3,sn4,sm4,sn5,sm5,sn6,sm6]
def Dy(lo:Addr)(l s m:Int):gP [] (gj lo l s m)=gj lo l s m:=by
 unfold gj;simp[gP,putK,sn1,sm1,sn2,sm2,sn3,sm3,sn4,sm4,sn5,sm5,sn6,sm6]
def bG(d lo:Addr)(H:Hp):Prop:=∃(cs:List Int)(l s m:Int),H d=some (.dK (gj lo l s m))/\H lo=some (.lst (cs.map V.int))/\0<=l/\∀ c∈cs,0<=c
def Old(d lo:Addr)(H H':Hp):Prop:=∀ c o,H c=some o->c≠d->c≠lo->H' c=some o
def NQ(K:W.Frag):Sp:=fun vs H Q _=>∃(a:Addr)(ns:List Int),vs=[.ref a]/\SqL K H a (ns.map V.int)/\ns.length<=63/\∀(d lo:Addr)(H':Hp),Same H H'->bG d lo H'->Q (.ref d) H'
def iR:Sp:=fun vs H Q _=>∃ d lo m,vs=[.ref d,.int m]/\bG d lo H/\0<m/\m<2^63/\∀(r:Int)(H':Hp),0<=r->r<m->bG d lo H'->Old d lo H H'->Q (.int r) H'
def Nz{H:Hp}{d lo:Addr}{l s m:Int}(h:H d=some (.dK (gj lo l s m))):iG H d (.str "own") (some (.ref lo)):=by
 have:=iG.k (k:=(Sum.inr "own" : Key)) h
 rwa [Qe] at this
def iU{H:Hp}{d lo:Addr}{l s m:Int}(h:H d=some (.dK (gj lo l s m))):iG H d (.str "left") (some (.int l)):=by
 have:=iG.k (k:=(Sum.inr "left" : Key)) h
 rwa [v_left] at this
def oW{H:Hp}{d lo:Addr}{l s m:Int}(h:H d=some (.dK (gj lo l s m))):iG H d (.str "seed") (some (.int s)):=by
 have:=iG.k (k:=(Sum.inr "seed" : Key)) h
 rwa [Oh] at this
def pB{H:Hp}{d lo:Addr}{l s m:Int}(h:H d=some (.dK (gj lo l s m))):iG H d (.str "many") (some (.int m)):=by
 have:=iG.k (k:=(Sum.inr "many" : Key)) h
 rwa [Pr] at this
def xJ{H:Hp}{d lo:Addr}{l s m:Int}(i:Int)(h:H d=some (.dK (gj lo l s m))):rW H d (.str "left") (.int i) (upd H d (.dK (gj lo i s m))):=by
 have:=rW.k (k:=(Sum.inr "left" : Key)) (v:=.int i) h (aH (by show 4<=1000;decide))
 rwa [MN] at this
def Ad{H:Hp}{d lo:Addr}{l s m:Int}(i:Int)(h:H d=some (.dK (gj lo l s m))):rW H d (.str "seed") (.int i) (upd H d (.dK (gj lo l i m))):=by
 have:=rW.k (k:=(Sum.inr "seed" : Key)) (v:=.int i) h (aH (by show 4<=1000;decide))
 rwa [MJ] at this
def Cw{H:Hp}{d lo:Addr}{l s m:Int}(i:Int)(h:H d=some (.dK (gj lo l s m))):rW H d (.str "many") (.int i) (upd H d (.dK (gj lo l s i))):=by
 have:=rW.k (k:=(Sum.inr "many" : Key)) (v:=.int i) h (aH (by show 4<=1000;decide))
 rwa [Mq] at this
def Old.upd_d{d lo:Addr}{H H':Hp}{o:HO}(h:Old d lo H H'):Old d lo H (upd H' d o):=fun c o' e h1 h2=>by
 rw[aF h1];exact h c o' e h1 h2
def Old.upd_lo{d lo:Addr}{H H':Hp}{o:HO}(h:Old d lo H H'):Old d lo H (upd H' lo o):=fun c o' e h1 h2=>by
 rw[aF h2];exact h c o' e h1 h2
def Old.new{d lo b:Addr}{H H':Hp}{o:HO}(h:Old d lo H H')(hb:H' b=none):Old d lo H (upd H' b o):=fun c o' e h1 h2=>ao hb o _ _ (h c o' e h1 h2)
section
variable {P:Program}{w:World}{K:W.Frag}{mg:Str->Option Value}{base:Heap}
def Bs:aR ["_law_script","_law_seed","_law_own","_law_cell"] ["_law_script"] (aC PK):=⟨rfl,rfl,rfl,by decide +kernel,rfl,by decide +kernel,by decide +kernel⟩
theorem PX(h:Has K mg "_law_pot" PK ["_law_script"])  : Cal P w K mg base "_law_pot" 1 ["_law_script"] (NQ K):=by
 refine h.mk' Bs (fun vs H Q E hs=>?_) (fun f cdv A outer s H vs Q E hr hs=>?_)
 ·obtain⟨a,ns,rfl,_⟩:=hs
  rfl
 obtain⟨a,ns,rfl,hS,h63,k⟩:=hs;refine⟨_,(au (aL (i:=1) Bs.nd rfl (Or.inl rfl) aA)
  (au (aL (i:=2) Bs.nd rfl (Or.inl rfl) (bR aq))
  (au (dU PassesOwn.never rfl (fB (pv 0)) (aP (i:=3) Bs.nd rfl (Or.inl rfl))
   (au (aL (i:=1) Bs.nd rfl (Or.inl rfl) (bF iu (bF fV (bF fV (bF xG (pv 1) aA) (bF iu (pv 3) aA)) aA) aA))
  (aB (cF (aO QC (pv 3) (bF Jm aA aA) (bA _))
   (aB (cQ (gC PySem.F.plainAttrs_list PySem.F.slot_list_append PySem.F.type_list_append bY (pv 2) (aj (pv 3) aq))))
   bB))))
  (aB (aW (uU (fM aG (pv 2) (fM aG aA (fM aG (pv 1) (fM aG aA vR)))) rfl rfl (by simp) (by decide +kernel))))))),?_⟩
 refine⟨smn 0,fun lo hlo=>?_⟩;have hloN:H lo=none:=hlo;refine⟨_,rfl,a,rfl,⟨_,(ao hlo (.lst [])).seq hS⟩,?_⟩;refine iM (K:=K) (a:=a) (xs:=ns.map V.int) (fun i σ H2=>∃ s cs v3,σ=[some (.ref a),some (.int s),some (.ref lo),v3]/\H2=upd H lo (.lst (cs.map V.int))/\(∀ c∈cs,0<=c)/\cs.length<=i) ⟨11,[],none,rfl,rfl,(fun c h=>by cases h),Wu _⟩ ?_ ?_ ?_
 ·rintro i σ H2 _ ⟨s,cs,v3,rfl,rfl,_,_⟩;exact(ao hlo _).seq hS
 ·rintro i y σ H2 hi ⟨s,cs,v3,rfl,rfl,hc,hl⟩;obtain⟨c,rfl⟩:=zy hi;have hi63:i<63:=by
   have:=(Wt.mp hi).1;rw[Xa] at this;lia
  refine⟨_,rfl,_,_,rfl,rfl,.inr ⟨by decide,by decide⟩,_,rfl,_,_,rfl,rfl,(by show(0:Int)<2147483629;decide),_,_,rfl,rfl,_,_,rfl,rfl,_,_,rfl,rfl,(by show(0:Int)<2305843009213693951;decide),?_⟩;refine⟨_,rfl,_,_,rfl,rfl,⟨by decide,by decide,by decide⟩,_,_,rfl,rfl,_,rfl,?_⟩;refine eU (fun z=>?_) (fun z=>?_)
  ·have hc0:0<=c:=by
    have:=W3 z;have e:(10:Int)^(18:Int).toNat=1000000000000000000:=by decide
    rw[e] at this;lia
   refine⟨_,rfl,.inl ⟨rfl,_,SqL.of ak⟩,_,rfl,lo,_,_,rfl,rfl,ak,by rw[Xa];exact aH (by lia),_,cs++[c],_,rfl,?_,?_,?_⟩
   ·rw[jU,map_append]
    rfl
   ·intro c' h';rcases mem_append.mp h' with z | z
    ·exact hc c' z
    ·rw[mem_singleton.mp z];exact hc0
   ·rw[W0,length_singleton];lia
  ·exact⟨_,cs,_,rfl,rfl,hc,by lia⟩
 ·rintro σ H2 ⟨s,cs,v3,rfl,rfl,hc,hl⟩;refine fun d hd=>⟨_,rfl,_,rfl,ak,gj lo 0 s 0,rfl,(by show 4<=15;decide),?_⟩
  have ndl:lo≠d:=aD ak hd;rw[Dy,jU];exact k d lo _ ((ao hlo _).trans (ao hd _)) ⟨cs,0,s,0,ak,(aF ndl).trans ak,Int.le_refl _,hc⟩
def Cy:aR ["_law_pot_here","_law_many","_law_drawn","_law_mixed"] ["_law_pot_here","_law_many"] (aC Fx):=⟨rfl,rfl,rfl,by decide +kernel,rfl,by decide +kernel,by decide +kernel⟩
def Mu(h:Has K mg "_law_next" Fx ["_law_pot_here","_law_many"])  : Cal P w K mg base "_law_next" 1 ["_law_pot_here","_law_many"] iR:=by
 refine h.mk' Cy (fun vs H Q E hs=>?_) (fun f cdv A outer s H vs Q E hr hs=>?_)
 ·obtain⟨d,lo,m,rfl,_⟩:=hs
  rfl
 obtain⟨d,lo,m,rfl,⟨cs,l,sd,mn,ed,elo,hl,hcs⟩,m0,m1,k⟩:=hs;refine⟨_,(au (cF (PW.pt (uo (aO iZ (bw (bU hr) (pv 0) aG (fun _ _=>rfl)) aA (bA _)) (mO (aO (wC hr.units0) (bw (bU hr) (pv 0) aG (fun _ _=>rfl)) (bR aq) (bA _)))))
   (aB (dY (bU hr) (pv 0) aG (gC PySem.F.plainAttrs_list PySem.F.slot_list_pop PySem.F.type_list_pop wG (bw (bU hr) (pv 0) aG (fun _ _=>rfl)) (aj aA aq)) rfl))
   bB)
  (au (cF (aO Kp (bw (bU hr) (pv 0) aG (fun _ _=>rfl)) aA (bA _))
   (au (aL (i:=2) Cy.nd rfl (Or.inl rfl) (bF iu (bw (bU hr) (pv 0) aG (fun _ _=>rfl)) (pv 1)))
  (au (dY (bU hr) (pv 0) aG (bF jl (bw (bU hr) (pv 0) aG (fun _ _=>rfl)) (pv 1)) rfl)
  (aB (aW (pv 2)))))
   bB)
  (au (dY (bU hr) (pv 0) aG (bF fV (bw (bU hr) (pv 0) aG (fun _ _=>rfl)) aA) rfl)
  (au (aL (i:=3) Cy.nd rfl (Or.inl rfl) (bF iu (bF xG (bF fV (bw (bU hr) (pv 0) aG (fun _ _=>rfl)) (bF xG (bw (bU hr) (pv 0) aG (fun _ _=>rfl)) aA)) aA) aA))
  (au (dY (bU hr) (pv 0) aG (bF iu (bF xG (pv 3) (bF fV (bF iu (pv 3) aA) aA)) aA) rfl)
  (aB (aW (bF iu (bF jl (bw (bU hr) (pv 0) aG (fun _ _=>rfl)) aA) (pv 1))))))))),?_⟩
 have ndl:d≠lo:=lA ed elo (by intro z;cases z);have old0:Old d lo H H:=fun c o e _ _=>e
 refine⟨_,rfl,d,_,rfl,iU ed,rfl,_,rfl,?_⟩;refine eU (fun z0=>?_) (fun z0=>?_)
 ·have hl0:l=0:=by
   have:=W3 z0;injection this
  subst hl0;refine⟨_,rfl,d,_,rfl,Nz ed,smn 0,fun b hb=>?_⟩;have nbd:d≠b:=aD ed hb;have nbl:lo≠b:=aD elo hb;have s2:=ao hb (.lst []);refine⟨lo,b,_,rfl,rfl,s2 _ _ elo,ak,_,rfl,?_⟩;have ed2:=s2 _ _ ed;have elo2:=s2 _ _ elo;have old2:Old d lo H (upd H b (.lst [])):=Old.new old0 hb;generalize upd H b (.lst [])=H2 at ed2 elo2 old2;cases cs with
  | nil =>
   refine Fb ?_;refine⟨_,rfl,d,_,rfl,iU ed2,_,_,rfl,rfl,_,rfl,?_⟩;refine eU (fun z=>?_) (fun z=>?_)
   ·refine⟨_,rfl,d,_,rfl,iU ed2,_,rfl,_,_,rfl,rfl,m0,?_⟩;refine⟨_,rfl,d,_,rfl,iU ed2,_,rfl,_,_,rfl,rfl,⟨m0,by lia⟩,_,rfl,d,_,rfl,xJ _ ed2,?_⟩;refine⟨_,rfl,k _ _ (Int.emod_nonneg _ (by lia)) (Int.emod_lt_of_pos _ m0) ⟨[],_,sd,mn,ak,(aF ndl.symm).trans elo2,Int.ediv_nonneg (Int.le_refl 0) (by lia),hcs⟩ (Old.upd_d old2)⟩
   ·refine⟨_,rfl,d,_,rfl,pB ed2,_,_,rfl,rfl,_,rfl,d,_,rfl,Cw _ ed2,?_⟩;have ed2:(upd H2 d (.dK (gj lo 0 sd (mn+1)))) d=some (.dK (gj lo 0 sd (mn+1))):=ak;refine⟨_,rfl,d,_,rfl,oW ed2,_,rfl,d,_,rfl,pB ed2,_,_,rfl,rfl,.inr ⟨by decide,by decide⟩,_,_,rfl,rfl,_,_,rfl,rfl,.inr ⟨by decide,by decide⟩,_,_,rfl,rfl,(by show(0:Int)<2305843009213693951;decide),?_⟩;have q0:0<=(sd+(mn+1)*7919)*48271%2305843009213693951:=Int.emod_nonneg _ (by decide);have q1:(sd+(mn+1)*7919)*48271%2305843009213693951<2305843009213693951:=Int.emod_lt_of_pos _ (by decide);refine⟨_,rfl,_,rfl,_,_,rfl,rfl,(by show(0:Int)<1009;decide),_,_,rfl,rfl,_,_,rfl,rfl,.inl ⟨by lia,by lia⟩,_,_,rfl,rfl,(by show(0:Int)<2305843009213693951;decide),_,rfl,d,_,rfl,Ad _ ed2,?_⟩;refine⟨_,rfl,d,_,rfl,oW ak,_,_,rfl,rfl,⟨by decide,by decide⟩,_,rfl,_,_,rfl,rfl,m0,?_⟩;exact k _ _ (Int.emod_nonneg _ (by lia)) (Int.emod_lt_of_pos _ m0) ⟨[],0,_,_,ak,(aF ndl.symm).trans ((aF ndl.symm).trans elo2),(Int.le_refl 0),hcs⟩ (Old.upd_d (Old.upd_d old2))
  | cons c cs =>
   refine rY ?_;refine⟨_,rfl,d,_,rfl,Nz ed2,.inl ⟨rfl,_,SqL.of elo2⟩,lo,_,0,0,.int c,rfl,rfl,elo2,by decide,by decide,by simp[seqIndex?],rfl,?_⟩;have eloP:(upd H2 lo (.lst (((c::cs).map V.int).eraseIdx 0))) lo=some (.lst (cs.map V.int)):=ak;have edP:(upd H2 lo (.lst (((c::cs).map V.int).eraseIdx 0))) d=some (.dK (gj lo 0 sd mn)):=(aF ndl).trans ed2;have oldP:Old d lo H (upd H2 lo (.lst (((c::cs).map V.int).eraseIdx 0))):=Old.upd_lo old2;have hc0:0<=c:=hcs c WQ;have hcs':∀ x∈cs,0<=x:=fun x hx=>hcs x (WR _ hx)
   refine⟨_,rfl,d,_,rfl,xJ c edP,?_⟩;have ed3:(upd (upd H2 lo (.lst (((c::cs).map V.int).eraseIdx 0))) d (.dK (gj lo c sd mn))) d=some (.dK (gj lo c sd mn)):=ak;have elo3:=(aF (o:=HO.dK (gj lo c sd mn)) ndl.symm).trans eloP;have old3:=Old.upd_d (o:=HO.dK (gj lo c sd mn)) oldP;generalize upd (upd H2 lo (.lst (((c::cs).map V.int).eraseIdx 0))) d (.dK (gj lo c sd mn))=H3 at ed3 elo3 old3;refine⟨_,rfl,d,_,rfl,iU ed3,_,_,rfl,rfl,_,rfl,?_⟩;refine eU (fun z=>?_) (fun z=>?_)
   ·refine⟨_,rfl,d,_,rfl,iU ed3,_,rfl,_,_,rfl,rfl,m0,?_⟩;refine⟨_,rfl,d,_,rfl,iU ed3,_,rfl,_,_,rfl,rfl,⟨m0,by lia⟩,_,rfl,d,_,rfl,xJ _ ed3,?_⟩;refine⟨_,rfl,k _ _ (Int.emod_nonneg _ (by lia)) (Int.emod_lt_of_pos _ m0) ⟨cs,_,sd,mn,ak,(aF ndl.symm).trans elo3,Int.ediv_nonneg hc0 (by lia),hcs'⟩ (Old.upd_d old3)⟩
   ·refine⟨_,rfl,d,_,rfl,pB ed3,_,_,rfl,rfl,_,rfl,d,_,rfl,Cw _ ed3,?_⟩;have ed2:(upd H3 d (.dK (gj lo c sd (mn+1)))) d=some (.dK (gj lo c sd (mn+1))):=ak;refine⟨_,rfl,d,_,rfl,oW ed2,_,rfl,d,_,rfl,pB ed2,_,_,rfl,rfl,.inr ⟨by decide,by decide⟩,_,_,rfl,rfl,_,_,rfl,rfl,.inr ⟨by decide,by decide⟩,_,_,rfl,rfl,(by show(0:Int)<2305843009213693951;decide),?_⟩;have q0:0<=(sd+(mn+1)*7919)*48271%2305843009213693951:=Int.emod_nonneg _ (by decide);have q1:(sd+(mn+1)*7919)*48271%2305843009213693951<2305843009213693951:=Int.emod_lt_of_pos _ (by decide);refine⟨_,rfl,_,rfl,_,_,rfl,rfl,(by show(0:Int)<1009;decide),_,_,rfl,rfl,_,_,rfl,rfl,.inl ⟨by lia,by lia⟩,_,_,rfl,rfl,(by show(0:Int)<2305843009213693951;decide),_,rfl,d,_,rfl,Ad _ ed2,?_⟩;refine⟨_,rfl,d,_,rfl,oW ak,_,_,rfl,rfl,⟨by decide,by decide⟩,_,rfl,_,_,rfl,rfl,m0,?_⟩;exact k _ _ (Int.emod_nonneg _ (by lia)) (Int.emod_lt_of_pos _ m0) ⟨cs,c,_,_,ak,(aF ndl.symm).trans ((aF ndl.symm).trans elo3),hc0,hcs'⟩ (Old.upd_d (Old.upd_d old3))
 ·refine Fb ?_;refine⟨_,rfl,d,_,rfl,iU ed,_,_,rfl,rfl,_,rfl,?_⟩;refine eU (fun z=>?_) (fun z=>?_)
  ·refine⟨_,rfl,d,_,rfl,iU ed,_,rfl,_,_,rfl,rfl,m0,?_⟩;refine⟨_,rfl,d,_,rfl,iU ed,_,rfl,_,_,rfl,rfl,⟨m0,by lia⟩,_,rfl,d,_,rfl,xJ _ ed,?_⟩;refine⟨_,rfl,k _ _ (Int.emod_nonneg _ (by lia)) (Int.emod_lt_of_pos _ m0) ⟨cs,_,sd,mn,ak,(aF ndl.symm).trans elo,Int.ediv_nonneg hl (by lia),hcs⟩ (Old.upd_d old0)⟩
  ·refine⟨_,rfl,d,_,rfl,pB ed,_,_,rfl,rfl,_,rfl,d,_,rfl,Cw _ ed,?_⟩;have ed2:(upd H d (.dK (gj lo l sd (mn+1)))) d=some (.dK (gj lo l sd (mn+1))):=ak;refine⟨_,rfl,d,_,rfl,oW ed2,_,rfl,d,_,rfl,pB ed2,_,_,rfl,rfl,.inr ⟨by decide,by decide⟩,_,_,rfl,rfl,_,_,rfl,rfl,.inr ⟨by decide,by decide⟩,_,_,rfl,rfl,(by show(0:Int)<2305843009213693951;decide),?_⟩;have q0:0<=(sd+(mn+1)*7919)*48271%2305843009213693951:=Int.emod_nonneg _ (by decide);have q1:(sd+(mn+1)*7919)*48271%2305843009213693951<2305843009213693951:=Int.emod_lt_of_pos _ (by decide);refine⟨_,rfl,_,rfl,_,_,rfl,rfl,(by show(0:Int)<1009;decide),_,_,rfl,rfl,_,_,rfl,rfl,.inl ⟨by lia,by lia⟩,_,_,rfl,rfl,(by show(0:Int)<2305843009213693951;decide),_,rfl,d,_,rfl,Ad _ ed2,?_⟩;refine⟨_,rfl,d,_,rfl,oW ak,_,_,rfl,rfl,⟨by decide,by decide⟩,_,rfl,_,_,rfl,rfl,m0,?_⟩;exact k _ _ (Int.emod_nonneg _ (by lia)) (Int.emod_lt_of_pos _ m0) ⟨cs,l,_,_,ak,(aF ndl.symm).trans ((aF ndl.symm).trans elo),hl,hcs⟩ (Old.upd_d (Old.upd_d old0))
def qex{X:Cx}{st:List Stmt}{D:Ends}{σ:L2.St}{H:Hp}(h:∃ t,QSs X st t/\t D σ H):∃ t,PSs X st t/\t D σ H:=h.elim fun t h=>⟨t,h.1.h,h.2⟩
def bG.same{d lo:Addr}{H H':Hp}(h:bG d lo H)(s:Same H H'):bG d lo H':=by
 obtain⟨cs,l,sd,m,e1,e2,r⟩:=h;exact⟨cs,l,sd,m,s _ _ e1,s _ _ e2,r⟩
def bG.new{d lo b:Addr}{H:Hp}{o:HO}(h:bG d lo H)(hb:H b=none):bG d lo (upd H b o):=h.same (ao hb o)
def bG.ne{d lo b:Addr}{H:Hp}(h:bG d lo H)(hb:H b=none):b≠d/\b≠lo:=by
 obtain⟨cs,l,sd,m,e1,e2,r⟩:=h;exact⟨(aD e1 hb).symm,(aD e2 hb).symm⟩
def bG.upd{d lo b:Addr}{H:Hp}{o:HO}(h:bG d lo H)(h1:b≠d)(h2:b≠lo):bG d lo (upd H b o):=by
 obtain⟨cs,l,sd,m,e1,e2,r⟩:=h;exact⟨cs,l,sd,m,(aF h1.symm).trans e1,(aF h2.symm).trans e2,r⟩
def Old.trans{d lo:Addr}{H H1 H2:Hp}(a:Old d lo H H1)(b:Old d lo H1 H2):Old d lo H H2:=fun c o e h1 h2=>b c o (a c o e h1 h2) h1 h2
def Old.of{d lo:Addr}{H H1:Hp}(a:Same H H1):Old d lo H H1:=fun c o e _ _=>a c o e
def Old.free{d lo b:Addr}{H H1:Hp}{o:HO}(a:Old d lo H H1)(hb:H b=none):Old d lo H (L2.upd H1 b o):=fun c o' e h1 h2=>by
 rw[aF (aD e hb)];exact a c o' e h1 h2
def cX{d lo:Addr}{H H':Hp}(hp:bG d lo H)(o:Old d lo H H'):∀(b:Addr)(vs:List V),H b=some (.tup vs)->H' b=some (.tup vs):=fun b vs e=>by
 obtain⟨cs,l,sd,m,e1,e2,r⟩:=hp;exact o b _ e (lA e e1 (by intro z;cases z)) (lA e e2 (by intro z;cases z))
def lB{σ:L2.St}{H:Hp}{i:Nat}{d lo:Addr}{m:Int}{Q:VK}(hσ:σ[i]?=some (some (.ref d)))(hp:bG d lo H)(h0:0<m)(h1:m<2^63)(k:∀(r:Int)(H':Hp),0<=r->r<m->bG d lo H'->Old d lo H H'->Q (.int r) H') :
  JQ iR [] E0 (BL (Py i) (BL (tC (.int m)) Q8)) σ H Q:=⟨_,hσ,d,lo,m,rfl,hp,h0,h1,k⟩
def J5(h:k<n):seqIndex? ((k:Nat):Int) n=some k:=by
 unfold seqIndex?;simp;lia
theorem uN{α β:Type}(f:α->β):∀(xs:List α)(i:Nat),(xs.map f).eraseIdx i=(xs.eraseIdx i).map f
 | [],_=>rfl
 | _::_,0=>rfl
 | x::xs,i+1=>by
  show f x::(xs.map f).eraseIdx i=f x::(xs.eraseIdx i).map f;rw[uN f xs i]
theorem Pa(h:H l=some (.lst [.int a,.int b]))(k:∀ v:Int,v=a\/v=b->Q (.int v) H):Qy K (.ref l) (.int (if decide (V.int r=V.int 0)=true then 1 else 0)) H Q:=by
 by_cases hr:decide (V.int r=V.int 0)=true
 ·rw[if_pos hr];exact⟨l,_,_,.int b,rfl,rfl,SqL.of h,aZ (xs:=[V.int a,V.int b]) (j:=1) rfl,k b (.inr rfl)⟩
 ·rw[if_neg hr];exact⟨l,_,_,.int a,rfl,rfl,SqL.of h,bC _ _,k a (.inl rfl)⟩
def good_str{x y:Str}(hx:∀ c∈x.cps.toList,mD c)(hy:∀ c∈y.cps.toList,mD c):∀ c∈(x++y).cps.toList,mD c:=fun c hc=>by
 have e:(x++y).cps.toList=x.cps.toList++y.cps.toList:=by
  show(x.cps++y.cps).toList=_;simp
 rw[e] at hc;rcases mem_append.mp hc with z | z
 ·exact hx c z
 ·exact hy c z
instance (c:Nat):Decidable (mD c):=by unfold mD;infer_instance
end
def rz:Sp:=fun vs H Q _=>∃(d lo:Addr)(n:Int),vs=[.ref d,.int n]/\bG d lo H/\0<=n/\n<=12/\∀(r:Int)(H':Hp),0<=r->r<=12->bG d lo H'->Old d lo H H'->Q (.int r) H'
def jz:Sp:=fun vs H Q _=>∃(d lo:Addr)(n:Nat),vs=[.ref d,.int (n:Nat)]/\bG d lo H/\n<=13/\∀(q:Addr)(ms:List Int)(H':Hp),H' q=some (.tup (ms.map V.int))->Gp ms->ms.length=n->bG d lo H'->Old d lo H H'->Q (.ref q) H'
def jc(d lo l:Addr)(H H':Hp):Prop:=∀ c o,H c=some o->c≠d->c≠lo->c≠l->H' c=some o
def uR:Sp:=fun vs H Q _=>∃(d lo l:Addr)(xs:Nms),vs=[.ref d,.ref l]/\bG d lo H/\H l=some (.lst (xs.map mkT))/\l≠d/\l≠lo/\xs≠[]/\xs.length<=1000/\∀(i:Nat)(h:i<xs.length)(H':Hp),H' l=some (.lst ((xs.eraseIdx i).map mkT))->bG d lo H'->jc d lo l H H'->Q (mkT xs[i]) H'
section
variable {P:Program}{w:World}{K:W.Frag}{mg:Str->Option Value}{base:Heap}
def Le:aR ["_law_pot_here","_law_most"] ["_law_pot_here","_law_most"] (aC xg):=⟨rfl,rfl,rfl,by decide +kernel,rfl,by decide +kernel,by decide +kernel⟩
def JW(h:Has K mg "_law_count" xg ["_law_pot_here","_law_most"])(TV:Cal P w K mg base "_law_next" 1 ["_law_pot_here","_law_many"] iR)(Uq:mg "int" = none):Cal P w K mg base "_law_count" 2 ["_law_pot_here","_law_most"] rz:=by
 refine h.mk' Le (fun vs H Q E hs=>?_) (fun f cdv A outer s H vs Q E hr hs=>?_)
 ·obtain⟨d,lo,n,rfl,_⟩:=hs
  rfl
 obtain⟨d,lo,n,rfl,hp,h0,h1,k⟩:=hs;refine⟨_,(aB (aW (aM TV hr (by decide) rfl (aj (pv 0) (aj (bF fV (bx bI (bR (aj (pv 1) (aj aA aq))) (aQ nJ rfl Uq boot_int (aj (qp iZ (aM TV hr (by decide) rfl (aj (pv 0) (aj aA aq))) aA (bA _)) aq)) (fun _ _=>rfl)) aA) aq))))),?_⟩;refine⟨_,rfl,_,rfl,smn 2,fun l2 hl2=>?_⟩;have hp2:=hp.new (o:=HO.lst [.int n,.int 12]) hl2;obtain⟨n2d,n2l⟩:=hp.ne hl2;refine lB (σ:=[some (.ref d),some (.int n)]) (i:=0) (m:=8) rfl hp2 (by decide) (by decide) fun r H2 r0 r1 p2 o2=>?_
 refine⟨rfl,.inr ⟨_,rfl,Pa (o2 l2 _ ak n2d n2l) fun v hv=>?_⟩⟩;have hv5:0<=v/\v<=12:=by rcases hv with rfl | rfl <;> lia
 refine⟨_,_,rfl,rfl,d,lo,_,rfl,p2,(by show 0<v+1;lia),(by show v+1<_;lia),fun r3 H3 q0 q1 p3 o3=>?_⟩;exact k r3 H3 q0 (by lia) p3 (((Old.of (ao hl2 _)).trans o2).trans o3)
def JX:aR ["_law_pot_here","_law_names_here"] ["_law_pot_here","_law_names_here"] (aC yr):=⟨rfl,rfl,rfl,by decide +kernel,rfl,by decide +kernel,by decide +kernel⟩
def Ly(h:Has K mg "_law_taken" yr ["_law_pot_here","_law_names_here"])(TV:Cal P w K mg base "_law_next" 1 ["_law_pot_here","_law_many"] iR)(Ux:mg "len" = none):Cal P w K mg base "_law_taken" 2 ["_law_pot_here","_law_names_here"] uR:=by
 refine h.mk' JX (fun vs H Q E hs=>?_) (fun f cdv A outer s H vs Q E hr hs=>?_)
 ·obtain⟨d,lo,l,xs,rfl,_⟩:=hs
  rfl
 obtain⟨d,lo,l,xs,rfl,hp,hl,nd,nl,hne,hlen,k⟩:=hs;refine⟨_,(aB (aW (gC PySem.F.plainAttrs_list PySem.F.slot_list_pop PySem.F.type_list_pop wG (pv 1) (aj (aM TV hr (by decide) rfl (aj (pv 0) (aj (bh gK rfl Ux PySem.boot_len (aj (pv 1) aq)) aq))) aq)))),?_⟩;have hpos:0<xs.length:=List.length_pos_iff.mpr hne;refine⟨_,rfl,.inl ⟨rfl,_,SqL.of hl⟩,_,rfl,_,rfl,l,_,rfl,.inl (SqL.of hl),?_⟩;refine⟨d,lo,_,rfl,hp,(by rw[Xa];lia),(by rw[Xa];lia),fun r H2 r0 r1 p2 o2=>?_⟩;have hl2:H2 l=some (.lst (xs.map mkT)):=o2 l _ hl nd nl;obtain⟨i,rfl⟩:=Int.eq_ofNat_of_zero_le r0;have hi:i<xs.length:=by
  rw[Xa] at r1;lia
 refine⟨l,_,_,i,mkT xs[i],rfl,rfl,hl2,by lia,by lia,by rw[Xa];exact J5 hi,by rw[W8,Wr hi];rfl,?_⟩;rw[uN];exact k i hi _ ak (p2.upd nd nl) fun c o e h1 h2 h3=>(aF h3).trans (o2 c o e h1 h2)
def ig:aR ["_law_pot_here","_law_many","_law_made","_law_now","_law_k"] ["_law_pot_here","_law_many"] (aC lU):=⟨rfl,rfl,rfl,by decide +kernel,rfl,by decide +kernel,by decide +kernel⟩
def Eu(h:Has K mg "_law_moments" lU ["_law_pot_here","_law_many"])(TV:Cal P w K mg base "_law_next" 1 ["_law_pot_here","_law_many"] iR)(Uq:mg "int" = none)(TY:mg "range" = none)(Tw:mg "tuple" = none):Cal P w K mg base "_law_moments" 2 ["_law_pot_here","_law_many"] jz:=by
 refine h.mk' ig (fun vs H Q E hs=>?_) (fun f cdv A outer s H vs Q E hr hs=>?_)
 ·obtain⟨d,lo,n,rfl,_⟩:=hs
  rfl
 obtain⟨d,lo,n,rfl,hp,hn,k⟩:=hs;refine⟨_,(au (aL (i:=2) ig.nd rfl (Or.inl rfl) (bR aq))
  (au (aL (i:=3) ig.nd rfl (Or.inl rfl) (bx bI (bR (aj aA (aj (bF zQ (bF Jm aA aA) aA) aq))) (aQ nJ rfl Uq boot_int (aj (qp iZ (aM TV hr (by decide) rfl (aj (pv 0) (aj aA aq))) aA (bA _)) aq)) (fun _ _=>rfl)))
  (au (dU PassesOwn.never rfl (cW rfl TY (aj (pv 1) aq)) (aP (i:=4) ig.nd rfl (Or.inl rfl))
   (au (aL (i:=3) ig.nd rfl (Or.inl rfl) (bF fV (bF fV (pv 3) (aM TV hr (by decide) rfl (aj (pv 0) (aj aA aq)))) (aQ nJ rfl Uq boot_int (aj (qp Kp (pv 4) aA (bA _)) aq))))
  (aB (cQ (gC PySem.F.plainAttrs_list PySem.F.slot_list_append PySem.F.type_list_append bY (pv 2) (aj (pv 3) aq))))))
  (aB (aW (aQ aU rfl Tw boot_tuple (aj (pv 2) aq))))))),?_⟩
 refine⟨smn 0,fun lm hlm=>?_⟩;obtain⟨nmd,nml⟩:=hp.ne hlm;have hp1:=hp.new (o:=HO.lst []) hlm;refine⟨_,_,rfl,rfl,⟨by decide,by decide,by decide⟩,_,_,rfl,rfl,smn 2,fun l2 hl2=>?_⟩;obtain⟨n2d,n2l⟩:=hp1.ne hl2;refine lB (σ:=[some (.ref d),some (.int (n:Nat)),some (.ref lm),none,none]) (i:=0) (m:=12) rfl (hp1.new hl2) (by decide) (by decide) fun r H2 r0 r1 p2 o2=>?_
 have e2v:H2 lm=some (.lst []):=o2 lm _ (ao hl2 _ _ _ ak) nmd nml;have oA:Old d lo H H2:=((Old.of (ao hlm _)).trans (Old.of (ao hl2 _))).trans o2;refine⟨rfl,.inr ⟨_,rfl,Pa (o2 l2 _ ak n2d n2l) fun v hv=>?_⟩⟩;have e10:(10:Int)^(12:Int).toNat=1000000000000:=by decide
 have hv5:0<=v/\v<=999999999500:=by
  rcases hv with rfl | rfl
  ·decide
  ·rw[e10]
   decide
 refine⟨_,rfl,_,rfl,by lia,by lia,?_⟩;refine gW (lo:=0) (n:=n) (fun j σ H4=>∃(v4:Option V)(now:Int)(ms:List Int),σ=[some (.ref d),some (.int (n:Nat)),some (.ref lm),some (.int now),v4]/\bG d lo H4/\Old d lo H H4/\H4 lm=some (.lst (ms.map V.int))/\ms.length=j/\0<=now/\now<=999999999500+30*j/\(∀ m∈ms,0<=m/\m<=now)/\ms.Pairwise (· < ·))
  ⟨none,v,[],rfl,p2,oA,e2v,rfl,hv5.1,by lia,(fun m h=>by cases h),.nil⟩ ?_ ?_
 ·rintro j σ H4 hj ⟨v4,now,ms,rfl,p4,o4,e4,hl4,hn0,hn1,hms,hpw⟩;refine gN ⟨_,rfl,?_⟩;refine lB (σ:=[some (.ref d),some (.int (n:Nat)),some (.ref lm),some (.int now),some (.int (0+(j:Int)))]) (i:=0) (m:=30) rfl p4 (by decide) (by decide) fun r5 H5 q0 q1 p5 o5=>?_
  have e5:H5 lm=some (.lst (ms.map V.int)):=o5 lm _ e4 nmd nml;refine⟨_,_,rfl,rfl,_,rfl,_,_,rfl,rfl,.inr ⟨_,rfl,_,_,rfl,rfl,?_⟩⟩;generalize hb:(if decide ((0:Int)<0+(j:Int))=true then (1:Int) else 0)=b;have hb0:0<=b/\b<=1/\(0<j->b=1):=by
   subst hb;by_cases hj0:0<j
   ·rw[if_pos (W9 (by lia))];exact⟨by decide,by decide,fun _=>rfl⟩
   ·rw[if_neg (fun z=>by have:=W3 z;lia)];exact⟨by decide,by decide,fun z=>absurd z hj0⟩
  refine⟨_,rfl,.inl ⟨rfl,_,SqL.of e5⟩,_,rfl,lm,_,_,rfl,rfl,e5,?_,?_⟩
  ·rw[Xa];exact aH (by lia)
  ·refine⟨_,now+r5+b,ms++[now+r5+b],rfl,p5.upd nmd nml,(o4.trans o5).free hlm,?_,by rw[W0,hl4];rfl,by lia,by lia,fun m hm=>?_,?_⟩
   ·rw[ak,map_append]
    rfl
   ·rcases mem_append.mp hm with z | z
    ·have:=hms m z;lia
    ·rw[mem_singleton.mp z];lia
   ·rw[pairwise_append];refine⟨hpw,pairwise_singleton _ _,fun a ha c hc=>?_⟩;rw[mem_singleton.mp hc];have hj0:0<j:=by
     rw[← hl4];exact length_pos_of_mem ha
    have:=(hms a ha).2;have:=hb0.2.2 hj0;lia
 ·rintro σ H4 ⟨v4,now,ms,rfl,p4,o4,e4,hl4,hn0,hn1,hms,hpw⟩;refine⟨_,rfl,lm,_,rfl,.inl ⟨SqL.of e4,fun q hq=>?_⟩⟩;exact k q ms _ ak ⟨fun m hm=>⟨(hms m hm).1,by have:=(hms m hm).2;lia⟩,hpw,by lia⟩ hl4 (p4.new hq) (o4.trans (Old.of (ao hq _)))
end
def unD:D->List Nat
 | .str x=>x.cps.toList
 | _=>[]
def wF(x:List Nat):unD (sD x)=x:=by
 show(x.toArray).toList=x;simp
theorem qQ:∀(ts:Nms),(ts.map sD).map unD=ts
 | []=>rfl
 | t::ts=>by rw[map_cons,map_cons,wF,qQ ts]
def yw(h:ds.Perm (ts.map sD)):∃ ns:Nms,ds=ns.map sD/\ns.Perm ts:=by
 refine⟨ds.map unD,?_,?_⟩
 ·have all:∀ d∈ds,sD (unD d)=d:=fun d hd=>by
   obtain⟨x,_,rfl⟩:=mem_map.mp (h.mem_iff.mp hd);rw[wF]
  rw[map_map]
  conv=>lhs;rw[← List.map_id ds]
  exact List.map_congr_left fun d hd=>(all d hd).symm
 ·have:=h.map unD
  rwa [qQ] at this
def xr(h:sD a=sD b):a=b:=by
 have:=congrArg unD h
 rwa [wF,wF] at this
def tG{ns:Nms}(hu:UpD (ns.map sD))(hn:ns.Nodup):ns.Pairwise fun a b=>dlt (sD a) (sD b)=true:=by
 unfold UpD at hu;rw[pairwise_map] at hu;rw[nodup_iff_pairwise_ne] at hn;refine List.Pairwise.imp₂ (fun a b h1 h2=>?_) hu hn;cases h:dlt (sD a) (sD b) with
 | true=>rfl
 | false=>exact absurd (xr (jZ _ _ h h1)) h2
def iD(ts:Nms):Hom (ts.map sD):=by
 refine⟨fun a ha b hb=>?_,.inr (.inl fun d hd=>?_)⟩
 ·obtain⟨x,_,rfl⟩:=mem_map.mp ha;obtain⟨y,_,rfl⟩:=mem_map.mp hb;exact qe _ _
 ·obtain⟨x,_,rfl⟩:=mem_map.mp hd;exact⟨_,rfl⟩
theorem nW{α:Type}:∀ {xs:List α}{i:Nat} (h:i<xs.length),xs.Perm ([xs[i]]++xs.eraseIdx i)
 | x::xs,0,_=>List.Perm.refl _
 | x::xs,i+1,h=>by
  have h':i<xs.length:=by simpa using h
  have ih:=nW h';show(x::xs).Perm (xs[i]::x::xs.eraseIdx i);exact((ih.cons x).trans (List.Perm.swap _ _ _))
def HJ:Sp:=fun vs H Q _=>∃ d lo l xs n,vs=[.ref d,.ref l,.int n]/\bG d lo H/\H l=some (.lst (xs.map mkT))/\l≠d/\l≠lo/\xs≠[]/\xs.length<=1000/\xs.Nodup/\(∀ x∈xs,isNm ⟨x.toArray⟩=true)/\1<=n/\n<=12 /\
 ∀(q:Addr)(ns rest:Nms)(H':Hp),H' q=some (.tup (ns.map mkT))->Gu ns->ns≠[]->ns.length<=13->xs.Perm (ns++rest)->H' l=some (.lst (rest.map mkT))->bG d lo H'->jc d lo l H H'->Q (.ref q) H'
section
variable {P:Program}{w:World}{K:W.Frag}{mg:Str->Option Value}{base:Heap}
def Jf:aR ["_law_pot_here","_law_names_here","_law_most","_law_many"] ["_law_pot_here","_law_names_here","_law_most"] (aC Ac):=⟨rfl,rfl,rfl,by decide +kernel,rfl,by decide +kernel,by decide +kernel⟩
def Nt(h:Has K mg "_law_some" Ac ["_law_pot_here","_law_names_here","_law_most"])(Ua:Cal P w K mg base "_law_count" 2 ["_law_pot_here","_law_most"] rz)(Ut:Cal P w K mg base "_law_taken" 2 ["_law_pot_here","_law_names_here"] uR)(VF:mg "min" = none)(Ux:mg "len" = none)(Tw:mg "tuple" = none)(TX:mg "sorted" = none)(TY:mg "range" = none):Cal P w K mg base "_law_some" 3 ["_law_pot_here","_law_names_here","_law_most"] HJ:=by
 refine h.mk' Jf (fun vs H Q E hs=>?_) (fun f cdv A outer s H vs Q E hr hs=>?_)
 ·obtain⟨d,lo,l,xs,n,rfl,_⟩:=hs
  rfl
 obtain⟨d,lo,l,xs,n,rfl,hp,hl,nd,nl,hne,hlen,hnd,hnm,hn0,hn1,k⟩:=hs;refine⟨_,(au (aL (i:=3) Jf.nd rfl (Or.inl rfl) (bh (DQ rfl) rfl VF boot_min (aj (bF fV aA (aM Ua hr (by decide) rfl (aj (pv 0) (aj (bF zQ (pv 2) aA) aq)))) (aj (bh gK rfl Ux PySem.boot_len (aj (pv 1) aq)) aq))))
  (aB (aW (aQ aU rfl Tw boot_tuple (aj (bh (cG hr.units) rfl TX boot_sorted (aj (cD ["_law_pot_here","_law_names_here","_law_most","_law_many"] (aC Ac) ["_law_pot_here","_law_names_here","_law_k"] [some 0,some 1,none] rfl rfl rfl (cW rfl TY (aj (pv 3) aq)) rfl (by decide +kernel) (by decide +kernel) (by decide +kernel) (by decide +kernel) (hg:=fun cl C s H ex pn E=>(aP (i:=2) (by decide +kernel:(["_law_pot_here","_law_names_here","_law_k"]:List Str).Nodup) rfl (Or.inl rfl))) (ht:=fun cl C s H ex pn E=>dI) (he:=fun cl C s H ex pn E=>(aM Ut hr (by decide) rfl (aj (pv 0) (aj (pv 1) aq))))) aq)) aq))))),?_⟩
 have hpos:0<xs.length:=List.length_pos_iff.mpr hne;refine⟨_,rfl,_,rfl,_,_,rfl,rfl,d,lo,_,rfl,hp,by lia,by lia,fun r H2 r0 r1 p2 o2=>?_⟩;have hl2:H2 l=some (.lst (xs.map mkT)):=o2 l _ hl nd nl;refine⟨_,_,rfl,rfl,_,rfl,l,_,rfl,.inl (SqL.of hl2),_,_,rfl,?_⟩;rw[Xa];obtain⟨many,em,hm1,hm2,hm3⟩:∃ many:Nat,(if (xs.length:Int)<1+r then (xs.length:Int) else 1+r)=(many:Int)/\1<=many/\many<=13/\many<=xs.length:=by
  by_cases hc:(xs.length:Int)<1+r
  ·rw[if_pos hc];exact⟨xs.length,rfl,hpos,by lia,Wu _⟩
  ·rw[if_neg hc];exact⟨(1+r).toNat,by lia,by lia,by lia,by lia⟩
 rw[em];refine⟨_,rfl,_,rfl,by lia,by lia,fun lc hlc=>?_⟩;obtain⟨ncd,ncl⟩:=p2.ne hlc;have ncL:lc≠l:=(aD hl2 hlc).symm;refine iw (J:=Itr 0 many) (l:=lc) many (fun i σ' H'=>∃ v ts rest,σ'=[some (.ref d),some (.ref l),v]/\H' lc=some (.lst (ts.map mkT))/\H' l=some (.lst (rest.map mkT))/\ts.length=i/\xs.Perm (ts++rest)/\bG d lo H'/\jc d lo l H H')
  ⟨none,[],xs,rfl,ak,(aF ncL.symm).trans hl2,rfl,List.Perm.refl _,p2.new hlc,fun c o e h1 h2 h3=>ao hlc _ _ _ (o2 c o e h1 h2)⟩ ?_ ?_
 ·rintro σ' H' ⟨v,ts,rest,rfl,e1,e2,hlt,hpm,p3,o3⟩;refine⟨Wu _,lc,_,_,rfl,.inl (SqL.of e1),cC _ ts,iD ts,by rw[Xa];lia,fun x hx=>?_,fun l4 us ds' hl4 hpd hup hdn=>?_⟩
  ·obtain⟨y,_,rfl⟩:=mem_map.mp hx;exact show cN 50 _ from cV (n:=0) (eF _) 50
  obtain⟨ns,rfl,hns⟩:=yw hpd;have eu:=zF hdn;subst eu;have hpm2:xs.Perm (ns++rest):=hpm.trans (hns.symm.append_right rest);have hnd2:ns.Nodup:=(hpm2.nodup_iff.mp hnd).sublist (sublist_append_left _ _);have s4:=ao hl4 (.lst (ns.map mkT));refine⟨l4,_,rfl,.inl ⟨SqL.of ak,fun q hq=>?_⟩⟩;have s5:=s4.trans (ao hq (.tup (ns.map mkT)));refine k q ns rest _ ak ⟨fun x hx=>hnm x (hpm2.mem_iff.mpr (W5 _ hx)),tG hup hnd2,by rw[hns.length_eq];lia⟩ ?_ (by rw[hns.length_eq];lia) hpm2 (s5 _ _ e2) (p3.same s5) fun c o e h1 h2 h3=>s5 _ _ (o3 c o e h1 h2 h3)
  intro z;subst z;have:=hns.length_eq;simp at this;lia
 ·rintro i σ' H' hi ⟨v,ts,rest,rfl,e1,e2,hlt,hpm,p3,o3⟩;have hrl:ts.length+rest.length=xs.length:=by
   have:=hpm.length_eq;rw[W0] at this;lia
  refine⟨hi,?_⟩;rintro y H'' ⟨rfl,rfl⟩;refine gN (Fe (rY ?_));refine⟨_,rfl,_,rfl,d,lo,l,rest,rfl,p3,e2,nd,nl,(fun z=>by subst z;simp at hrl;lia),by lia,fun j hj H4 e4 p4 o4=>?_⟩;have e1':H4 lc=some (.lst (ts.map mkT)):=o4 lc _ e1 ncd ncl ncL;refine⟨_,e1',?_,_,ts++[rest[j]],rest.eraseIdx j,rfl,?_,(aF ncL.symm).trans e4,by rw[W0,hlt];rfl,?_,p4.upd ncd ncl,?_⟩
  ·rw[Xa];exact aH (by lia)
  ·rw[ak,map_append]
   rfl
  ·refine hpm.trans ?_;rw[append_assoc];exact(nW hj).append_left ts
  ·intro c o e h1 h2 h3;have hlcH:H lc=none:=by
    cases hc:H lc with
    | none=>rfl
    | some o' =>
     have:=o2 lc o' hc ncd ncl;rw[hlc] at this;cases this
   rw[aF (aD e hlcH)];exact o4 c o (o3 c o e h1 h2 h3) h1 h2 h3
end
def HY:Sp:=fun vs H Q _=>∃ d lo,vs=[.ref d]/\bG d lo H/\∀(t:List Nat)(H':Hp),t.length<=400->(∀ c∈t,mD c)->bG d lo H'->Old d lo H H'->Q (.str ⟨t.toArray⟩) H'
section
variable {P:Program}{w:World}{K:W.Frag}{mg:Str->Option Value}{base:Heap}
def len_rep{α:Type}(n:Nat)(t:List α):(List.replicate n t).flatten.length=n*t.length:=by
 induction n with
 | zero=>simp
 | succ n ih=>rw[replicate_succ,flatten_cons,W0,ih,Nat.succ_mul,Nat.add_comm]
def J0{α:Type}{t:List α}{c:α}(h:c∈(List.replicate n t).flatten):c∈t:=by
 obtain⟨l,hl,hc⟩:=List.mem_flatten.mp h;rw[(mem_replicate.mp hl).2] at hc;exact hc
def G8(x:Str):x=⟨x.cps.toList.toArray⟩:=by cases x;simp
def mC:aR ["_law_pot_here","_law_pieces","_law_text_here","_law_k"] ["_law_pot_here"] (aC FJ):=⟨rfl,rfl,rfl,by decide +kernel,rfl,by decide +kernel,by decide +kernel⟩
def Nj(h:Has K mg "_law_text" FJ ["_law_pot_here"])(TV:Cal P w K mg base "_law_next" 1 ["_law_pot_here","_law_many"] iR)(TY:mg "range" = none):Cal P w K mg base "_law_text" 2 ["_law_pot_here"] HY:=by
 refine h.mk' mC (fun vs H Q E hs=>?_) (fun f cdv A outer s H vs Q E hr hs=>?_)
 ·obtain⟨d,lo,rfl,_⟩:=hs
  rfl
 obtain⟨d,lo,rfl,hp,k⟩:=hs;refine qex ⟨_,(gF (Jd (i:=1) mC.nd rfl (Or.inl rfl) (Ng (Dn ⟨aG⟩ (Dn ⟨aG⟩ (Dn ⟨aG⟩ (Dn ⟨aG⟩ (Dn ⟨aG⟩ (Dn ⟨aG⟩ (Dn ⟨aG⟩ (Dn ⟨aG⟩ (Dn ⟨aG⟩ (Dn ⟨aG⟩ (Dn ⟨aG⟩ Pb)))))))))))))
  ⟨(au (aL (i:=1) mC.nd rfl (Or.inl rfl) (bF j7 (pv 1) (bR (aj aG (aj aG (aj aG aq))))))
  (au (aL (i:=2) mC.nd rfl (Or.inl rfl) aG)
  (au (dU PassesOwn.never rfl (cW rfl TY (aj (aM TV hr (by decide) rfl (aj (pv 0) (aj aA aq))) aq)) (aP (i:=3) mC.nd rfl (Or.inl rfl))
   (aB (aL (i:=2) mC.nd rfl (Or.inl rfl) (bF dD (pv 2) (bx bI (pv 1) (aM TV hr (by decide) rfl (aj (pv 0) (aj aA aq))) (fun _ _=>rfl))))))
  (au (cF (aO iZ (aM TV hr (by decide) rfl (aj (pv 0) (aj aA aq))) aA (bA _))
   (aB (aL (i:=2) mC.nd rfl (Or.inl rfl) (bF m8 (bF dD (pv 2) aG) aA)))
   bB)
  (aB (aW (gq El (pv 2) iW (gY aA))))))))⟩),?_⟩
 refine⟨smn 11,fun lm hlm=>?_⟩;have hp1:=hp.new (o:=HO.lst ((["One","two 3","a"," ","x-y","Zz9","~","Word word","4",", ","_b"]:List Str).map V.str)) hlm;have em:(upd H lm (.lst ((["One","two 3","a"," ","x-y","Zz9","~","Word word","4",", ","_b"]:List Str).map V.str))) lm=some (.lst ((["One","two 3","a"," ","x-y","Zz9","~","Word word","4",", ","_b"]:List Str).map V.str)):=ak;refine⟨_,rfl,smn 3,fun l2 hl2=>?_⟩;have e2:(upd (upd H lm (.lst ((["One","two 3","a"," ","x-y","Zz9","~","Word word","4",", ","_b"]:List Str).map V.str))) l2 (.lst ((["\n","\\","\""]:List Str).map V.str))) l2=some (.lst ((["\n","\\","\""]:List Str).map V.str)):=ak;have hp2:=hp1.new (o:=HO.lst ((["\n","\\","\""]:List Str).map V.str)) hl2;refine⟨lm,l2,_,_,rfl,rfl,ao hl2 _ _ _ em,e2,smn 14,fun l3 hl3=>?_⟩;have oA:Old d lo H _:=((Old.of (ao hlm _)).trans (Old.of (ao hl2 _))).trans (Old.of (ao hl3 (.lst ((["One","two 3","a"," ","x-y","Zz9","~","Word word","4",", ","_b","\n","\\","\""]:List Str).map V.str))));have hp3:=hp2.new (o:=HO.lst ((["One","two 3","a"," ","x-y","Zz9","~","Word word","4",", ","_b","\n","\\","\""]:List Str).map V.str)) hl3;obtain⟨nmd,nml⟩:=hp2.ne hl3;have gm:∀ x∈(["One","two 3","a"," ","x-y","Zz9","~","Word word","4",", ","_b","\n","\\","\""]:List Str),x.length<=9/\∀ c∈x.cps.toList,mD c:=by decide +kernel
 have hml:(["One","two 3","a"," ","x-y","Zz9","~","Word word","4",", ","_b","\n","\\","\""]:List Str).length=14:=rfl;refine lB (σ:=[some (.ref d),some (.ref l3),some (.str ""),none]) (i:=0) (m:=6) rfl hp3 (by decide) (by decide) fun r H2 r0 r1 p2 o2=>?_
 have e3m:H2 l3=some (.lst ((["One","two 3","a"," ","x-y","Zz9","~","Word word","4",", ","_b","\n","\\","\""]:List Str).map V.str)):=o2 l3 _ ak nmd nml;have oB:=oA.trans o2;refine⟨r,rfl,by lia,by lia,?_⟩;generalize (["One","two 3","a"," ","x-y","Zz9","~","Word word","4",", ","_b","\n","\\","\""]:List Str)=MENU at e3m gm hml;refine gW (lo:=0) (n:=r.toNat) (fun j σ H4=>∃ x v3,σ=[some (.ref d),some (.ref l3),some (.str x),v3]/\bG d lo H4/\Old d lo H H4/\H4 l3=some (.lst (MENU.map V.str))/\x.length<=9*j/\∀ c∈x.cps.toList,mD c)
  ⟨"",none,rfl,p2,oB,e3m,by decide +kernel,by decide +kernel⟩ ?_ ?_
 ·rintro j σ H4 hj ⟨x,v3,rfl,p4,o4,e4m,hx,gx⟩;have hj41:j<6:=by lia
  refine⟨_,rfl,_,rfl,?_⟩;refine lB (σ:=[some (.ref d),some (.ref l3),some (.str x),some (.int (0+(j:Int)))]) (i:=0) (m:=14) rfl p4 (by decide) (by decide) fun r5 H5 w0 w1 p5 o5=>?_
  obtain⟨y,hy,hm⟩:=Nu (xs:=MENU.map V.str) w0 (by rw[Xa,hml];exact w1);obtain⟨m,hmm,rfl⟩:=mem_map.mp hm;obtain⟨g1,g2⟩:=gm m hmm;refine⟨l3,_,r5,_,rfl,rfl,SqL.of (o5 l3 _ e4m nmd nml),hy,_,_,rfl,rfl,small (by lia),?_⟩;refine⟨x++m,_,rfl,p5,o4.trans o5,o5 l3 _ e4m nmd nml,?_,good_str gx g2⟩;have e:(x++m).length=x.length+m.length:=by
   show(x.cps++m.cps).size=_;rw[Array.size_append]
   rfl
  rw[e];lia
 ·rintro σ H4 ⟨x,v3,rfl,p4,o4,e4m,hx,gx⟩;refine lB (σ:=[some (.ref d),some (.ref l3),some (.str x),v3]) (i:=0) (m:=16) rfl p4 (by decide) (by decide) fun r5 H5 w0 w1 p5 o5=>?_
  refine⟨rfl,_,rfl,?_⟩;have fin:∀(z:Str),z.length<=20000->(∀ c∈z.cps.toList,mD c)->Q (.str (Txt.slice z none (some 400))) H5:=fun z hz gz=>by
   have es:Txt.slice z none (some 400)=⟨(z.cps.toList.take 400).toArray⟩:=SLi.upto z 400;rw[es];exact k _ H5 (by rw[length_take];lia) (fun c hc=>gz c (List.mem_of_mem_take hc)) p5 (o4.trans o5)
  refine eU (fun h1=>?_) (fun h1=>?_)
  ·have e:(x ++ "q ").length=x.length+2:=by
    show(x.cps++("q " : Str).cps).size=_;rw[Array.size_append]
    rfl
   have gy:∀ c∈(x ++ "q ").cps.toList,mD c:=good_str gx (by decide +kernel);refine⟨_,rfl,_,_,rfl,rfl,small (by rw[show(("q " : Str)).length=2 from rfl];lia),?_⟩;generalize x ++ "q " = y at e gy;have hyl:y.cps.toList.length<=60:=by
    have:y.cps.size=x.length+2:=e;rw[WK];lia
   rw[G8 y];refine⟨y.cps.toList,200,rfl,rfl,by decide,by lia,?_⟩;have hl:(List.replicate 200 y.cps.toList).flatten.length<=20000:=by
    rw[len_rep];lia
   refine⟨_,rfl,_,rfl,_,rfl,?_,fin _ ?_ ?_⟩
   ·show(List.replicate 200 y.cps.toList).flatten.toArray.size<=_;rw[Xd];exact W7 hl (W7 (by decide) gZ)
   ·show(List.replicate 200 y.cps.toList).flatten.toArray.size<=_;rw[Xd];exact hl
   ·intro c hc;have hc':c∈(List.replicate 200 y.cps.toList).flatten:=by
     have e:(List.replicate 200 y.cps.toList).flatten.toArray.toList=(List.replicate 200 y.cps.toList).flatten:=List.toList_toArray;rw[← e];exact hc
    exact gy c (J0 hc')
  ·refine⟨_,rfl,_,rfl,x,rfl,small (by lia),fin x (by lia) gx⟩
end
def Ej:Sp:=fun vs H Q _=>∃(d lo l:Addr)(xs:Nms),vs=[.ref d,.ref l]/\bG d lo H/\H l=some (.lst (xs.map mkT))/\l≠d/\l≠lo/\30<=xs.length/\xs.length<=1000/\(∀ x∈xs,isNm ⟨x.toArray⟩=true) /\
 ∀(q:Addr)(Ps:List (List Prt))(rest:Nms)(H':Hp),Den H' (.ref q) (.tup (Ps.map fun L=>.tup (L.map bH)))->Ps.length=2->(∀ L∈Ps,L.length<=12/\∀ p∈L,vW p)->xs.Perm (Ps.flatten.map (·.1)++rest)->H' l=some (.lst (rest.map mkT))->bG d lo H'->jc d lo l H H'->Q (.ref q) H'
section
variable {P:Program}{w:World}{K:W.Frag}{mg:Str->Option Value}{base:Heap}
def jc.of{d lo l:Addr}{H H':Hp}(s:Same H H'):jc d lo l H H':=fun c o e _ _ _=>s c o e
def jc.of2{d lo l:Addr}{H H':Hp}(s:Old d lo H H'):jc d lo l H H':=fun c o e h1 h2 _=>s c o e h1 h2
def jc.trans{d lo l:Addr}{H H1 H2:Hp}(a:jc d lo l H H1)(b:jc d lo l H1 H2):jc d lo l H H2:=fun c o e h1 h2 h3=>b c o (a c o e h1 h2 h3) h1 h2 h3
def jc.free{d lo l b:Addr}{H H1:Hp}{o:HO}(a:jc d lo l H H1)(hb:H b=none):jc d lo l H (L2.upd H1 b o):=fun c o' e h1 h2 h3=>by
 rw[aF (aD e hb)];exact a c o' e h1 h2 h3
def mV{d lo l:Addr}{H H':Hp}{ys:List V}(hp:bG d lo H)(hl:H l=some (.lst ys))(o:jc d lo l H H'):∀(b:Addr)(vs:List V),H b=some (.tup vs)->H' b=some (.tup vs):=fun b vs e=>by
 obtain⟨cs,k,sd,m,e1,e2,r⟩:=hp;exact o b _ e (lA e e1 (by intro z;cases z)) (lA e e2 (by intro z;cases z)) (lA e hl (by intro z;cases z))
def jF(hl:H l=some (.lst ys)):∀(b:Addr)(vs:List V),H b=some (.tup vs)->upd H l (.lst zs) b=some (.tup vs):=fun b vs e=>by
 rw[aF (lA e hl (by intro z;cases z))];exact e
def jT:aR ["_law_pot_here","_law_names_here","_law_sides_here","_law_side_here","_law_parts","_law_k","_law_moments_here"] ["_law_pot_here","_law_names_here"] (aC wI):=⟨rfl,rfl,rfl,by decide +kernel,rfl,by decide +kernel,by decide +kernel⟩
def K1(h:Has K mg "_law_sides" wI ["_law_pot_here","_law_names_here"])(Ua:Cal P w K mg base "_law_count" 2 ["_law_pot_here","_law_most"] rz)(T4:Cal P w K mg base "_law_moments" 2 ["_law_pot_here","_law_many"] jz)(Vm:Cal P w K mg base "_law_text" 2 ["_law_pot_here"] HY)(Ut:Cal P w K mg base "_law_taken" 2 ["_law_pot_here","_law_names_here"] uR)(TY:mg "range" = none)(Tw:mg "tuple" = none):Cal P w K mg base "_law_sides" 3 ["_law_pot_here","_law_names_here"] Ej:=by
 refine h.mk' jT (fun vs H Q E hs=>?_) (fun f cdv A outer s H vs Q E hr hs=>?_)
 ·obtain⟨d,lo,l,xs,rfl,_⟩:=hs
  rfl
 obtain⟨d,lo,l,xs,rfl,hp,hl,nd,nl,hx0,hx1,hnm,k⟩:=hs;refine⟨_,(au (aL (i:=2) jT.nd rfl (Or.inl rfl) (bR aq))
  (au (dU PassesOwn.never rfl (fY (cu (aj aA (aj aA aq)))) (aP (i:=3) jT.nd rfl (Or.inl rfl))
   (au (aL (i:=4) jT.nd rfl (Or.inl rfl) (bR aq))
  (au (dU PassesOwn.never rfl (cW rfl TY (aj (aM Ua hr (by decide) rfl (aj (pv 0) (aj aA aq))) aq)) (aP (i:=5) jT.nd rfl (Or.inl rfl))
   (au (aL (i:=6) jT.nd rfl (Or.inl rfl) (aM T4 hr (by decide) rfl (aj (pv 0) (aj (bF fV aA (aM Ua hr (by decide) rfl (aj (pv 0) (aj aA aq)))) aq))))
  (aB (cQ (gC PySem.F.plainAttrs_list PySem.F.slot_list_append PySem.F.type_list_append bY (pv 4) (aj (cu (aj (aM Ut hr (by decide) rfl (aj (pv 0) (aj (pv 1) aq))) (aj (aM Vm hr (by decide) rfl (aj (pv 0) aq)) (aj (pv 6) aq)))) aq))))))
  (aB (cQ (gC PySem.F.plainAttrs_list PySem.F.slot_list_append PySem.F.type_list_append bY (pv 2) (aj (aQ aU rfl Tw boot_tuple (aj (pv 4) aq)) aq)))))))
  (aB (aW (aQ aU rfl Tw boot_tuple (aj (pv 2) aq)))))),?_⟩
 refine⟨smn 0,fun ls hls=>?_⟩;obtain⟨nsd,nsl⟩:=hp.ne hls;have nsL:ls≠l:=(aD hl hls).symm;have s1:=ao hls (.lst []);refine⟨smn 2,fun tt htt=>?_⟩;have s2:=ao htt (.tup [.int 0,.int 1]);refine⟨tt,rfl,⟨_,SqT.of ak⟩,?_⟩;refine jK (K:=K) (a:=tt) (xs:=[.int 0,.int 1]) (fun i σ H4=>∃(v3 v4 v5 v6:Option V)(us:List V)(Ps:List (List Prt))(rest:Nms),σ=[some (.ref d),some (.ref l),some (.ref ls),v3,v4,v5,v6]/\bG d lo H4/\H4 l=some (.lst (rest.map mkT))/\H4 ls=some (.lst us)/\H4 tt=some (.tup [.int 0,.int 1]) /\
   bL H4 us (Ps.map fun L=>D.tup (L.map bH))/\Ps.length=i/\(∀ L∈Ps,L.length<=12/\∀ p∈L,vW p)/\xs.Perm (Ps.flatten.map (·.1)++rest)/\jc d lo l H H4)
  ⟨none,none,none,none,[],[],xs,rfl,(hp.same s1).same s2,s2 _ _ (s1 _ _ hl),s2 _ _ ak,ak,trivial,rfl,(fun L hL=>by cases hL),List.Perm.refl _,jc.of (s1.trans s2)⟩ ?_ ?_ ?_
 ·rintro i σ H4 _ ⟨v3,v4,v5,v6,us,Ps,rest,rfl,p4,e4l,e4s,e4t,r⟩;exact SqT.of e4t
 ·rintro i y σ H4 hi ⟨v3,v4,v5,v6,us,Ps,rest,rfl,p4,e4l,e4s,e4t,dn,hPl,hPg,hpm,o4⟩;refine gN ⟨smn 0,fun lp hlp=>?_⟩;obtain⟨npd,npl⟩:=p4.ne hlp;have npL:lp≠l:=(aD e4l hlp).symm;have nps:lp≠ls:=(aD e4s hlp).symm;have s5:=ao hlp (.lst []);refine⟨_,rfl,d,lo,5,rfl,p4.same s5,by decide,by decide,fun r H5 r0 r1 p5 o5=>?_⟩;refine⟨r,rfl,by lia,by lia,?_⟩;have k5:=cX (p4.same s5) o5;refine gW (lo:=0) (n:=r.toNat) (fun j σ H6=>∃(v5 v6:Option V)(ws:List V)(qs:List Prt)(rest':Nms),σ=[some (.ref d),some (.ref l),some (.ref ls),some y,some (.ref lp),v5,v6]/\bG d lo H6/\H6 l=some (.lst (rest'.map mkT))/\H6 ls=some (.lst us)/\H6 tt=some (.tup [.int 0,.int 1])/\H6 lp=some (.lst ws) /\
    bL H6 us (Ps.map fun L=>D.tup (L.map bH))/\bL H6 ws (qs.map bH)/\qs.length=j/\(∀ p∈qs,vW p)/\xs.Perm (Ps.flatten.map (·.1)++qs.map (·.1)++rest')/\jc d lo l H H6)
   ⟨_,_,[],[],rest,rfl,p5,o5 l _ (s5 _ _ e4l) nd nl,o5 ls _ (s5 _ _ e4s) nsd nsl,k5 tt _ (s5 _ _ e4t),o5 lp _ ak npd npl,(dn.same s5).keepT k5,trivial,rfl,(fun p hp=>by cases hp),by rw[map_nil,append_nil];exact hpm,(o4.trans (jc.of s5)).trans (jc.of2 o5)⟩ ?_ ?_
  ·rintro j σ H6 hj ⟨v5,v6,ws,qs,rest',rfl,p6,e6l,e6s,e6t,e6p,dn6,dw6,hql,hqg,hpm6,o6⟩;have hj12:j<12:=by lia
   have hrl:Ps.flatten.length+j+rest'.length=xs.length:=by
    have:=hpm6.length_eq;rw[W0,W0,Xa,Xa] at this;lia
   refine gN ⟨_,rfl,_,rfl,d,lo,2,rfl,p6,by decide,by decide,fun c H7 c0 c1 p7 o7=>?_⟩;obtain⟨cn,rfl⟩:=Int.eq_ofNat_of_zero_le c0;refine⟨_,_,rfl,rfl,d,lo,1+cn,by show[V.ref d,V.int (1+((cn:Nat):Int))]=_;rw[show(1:Int)+((cn:Nat):Int)=((1+cn:Nat):Int) by lia],p7,by lia,fun q8 ms H8 e8q gm hml p8 o8=>?_⟩;have k7:=cX p6 o7;have k8:=cX p7 o8;have e8l:H8 l=_:=o8 l _ (o7 l _ e6l nd nl) nd nl;have e8s:H8 ls=_:=o8 ls _ (o7 ls _ e6s nsd nsl) nsd nsl;have e8p:H8 lp=_:=o8 lp _ (o7 lp _ e6p npd npl) npd npl;have hrne:rest'≠[]:=fun z=>by
    subst z;have hP2:Ps.flatten.length<=12:=by
     have hi2:i<2:=(Wt.mp hi).1
     match Ps,hPl,hPg with
     | [],_,_=>simp
     | [L],_,hPg=>simpa using(hPg L (.head _)).1
     | _::_::_,hPl,_=>simp only[length_cons] at hPl;lia
    simp only[length_nil] at hrl;lia
   refine gN ⟨_,rfl,.inl ⟨rfl,_,SqL.of e8p⟩,_,rfl,_,rfl,d,lo,l,rest',rfl,p8,e8l,nd,nl,hrne,by lia,fun i9 hi9 H9 e9 p9 o9=>?_⟩;refine⟨_,rfl,d,lo,rfl,p9,fun tx H10 htx gtx p10 o10=>?_⟩;refine⟨_,rfl,smn 3,fun tp htp=>?_⟩;have k9:=mV p8 e8l o9;have k10:=cX p9 o10;have e10p:H10 lp=_:=o10 lp _ (o9 lp _ e8p npd npl npL) npd npl;have e10s:H10 ls=_:=o10 ls _ (o9 ls _ e8s nsd nsl nsL) nsd nsl;have e10l:H10 l=_:=o10 l _ e9 nd nl;have s11:=ao htp (.tup [mkT rest'[i9],.str ⟨tx.toArray⟩,.ref q8]);have kA:∀(b:Addr)(vs:List V),H6 b=some (.tup vs)->H10 b=some (.tup vs):=fun b vs e=>k10 b vs (k9 b vs (k8 b vs (k7 b vs e)))
   have kT:=jF (zs:=ws++[.ref tp]) (s11 _ _ e10p);refine⟨lp,ws,_,rfl,rfl,s11 _ _ e10p,?_,?_⟩
   ·have:=dw6.len;rw[Xa] at this;exact aH (by lia)
   ·refine⟨_,_,ws++[.ref tp],qs++[(rest'[i9],tx,ms)],rest'.eraseIdx i9,rfl,(p10.same s11).upd npd npl,(aF npL.symm).trans (s11 _ _ e10l),(aF nps.symm).trans (s11 _ _ e10s),kT _ _ (s11 _ _ (kA _ _ e6t)),ak,((dn6.keepT kA).same s11).keepT kT,?_,by rw[W0,hql];rfl,?_,?_,?_⟩
    ·rw[map_append];refine bL.snoc (Den.keepT kT (show Den (upd H10 tp (.tup [mkT rest'[i9],.str ⟨tx.toArray⟩,.ref q8])) (.ref tp) (bH (rest'[i9],tx,ms)) from⟨tp,_,rfl,ak,rfl,rfl,⟨q8,_,rfl,s11 _ _ (k10 _ _ (k9 _ _ e8q)),eZ _ ms⟩,trivial⟩)) (((dw6.keepT kA).same s11).keepT kT)
    ·intro p hp';rcases mem_append.mp hp' with z | z
     ·exact hqg p z
     ·rw[mem_singleton.mp z];refine⟨hnm _ (hpm6.mem_iff.mpr (W4 _ (getElem_mem hi9))),by show tx.length<=_;lia,gtx,gm,fun z=>?_⟩;have:ms=[]:=z;rw[this] at hml;simp at hml;lia
    ·refine hpm6.trans ?_;rw[map_append,append_assoc,append_assoc,append_assoc];exact((nW hi9).append_left _).append_left _
    ·refine jc.free ?_ ?_
     ·exact(((((o6.trans (jc.of2 o7)).trans (jc.of2 o8)).trans o9).trans (jc.of2 o10)).trans (jc.of s11))
     ·cases hc:H lp with
      | none=>rfl
      | some o' =>
       have:=o4 lp o' hc npd npl npL;rw[hlp] at this;cases this
  ·rintro σ H6 ⟨v5,v6,ws,qs,rest',rfl,p6,e6l,e6s,e6t,e6p,dn6,dw6,hql,hqg,hpm6,o6⟩;refine⟨_,rfl,.inl ⟨rfl,_,SqL.of e6s⟩,_,rfl,lp,_,rfl,.inl ⟨SqL.of e6p,fun q hq=>?_⟩⟩;have s7:=ao hq (.tup ws);refine⟨ls,us,_,rfl,rfl,s7 _ _ e6s,?_,?_⟩
   ·have:=dn6.len;rw[Xa] at this;have hi2:i<2:=(Wt.mp hi).1;exact aH (by lia)
   ·have kT:=jF (zs:=us++[.ref q]) (s7 _ _ e6s);refine⟨_,_,_,_,us++[.ref q],Ps++[qs],rest',rfl,(p6.same s7).upd nsd nsl,(aF nsL.symm).trans (s7 _ _ e6l),ak,kT _ _ (s7 _ _ e6t),?_,by rw[W0,hPl];rfl,fun L hL=>?_,?_,(o6.trans (jc.of s7)).free hls⟩
    ·rw[map_append];exact bL.snoc (Den.keepT kT (show Den (upd H6 q (.tup ws)) (.ref q) (.tup (qs.map bH)) from⟨q,ws,rfl,ak,dw6.same s7⟩)) ((dn6.same s7).keepT kT)
    ·rcases mem_append.mp hL with z | z
     ·exact hPg L z
     ·rw[mem_singleton.mp z];exact⟨by lia,hqg⟩
    ·rw[List.flatten_append,map_append]
     simpa using hpm6
 ·rintro σ H4 ⟨v3,v4,v5,v6,us,Ps,rest,rfl,p4,e4l,e4s,e4t,dn,hPl,hPg,hpm,o4⟩;refine⟨_,rfl,ls,_,rfl,.inl ⟨SqL.of e4s,fun q hq=>?_⟩⟩;have s5:=ao hq (.tup us);exact k q Ps rest _ ⟨q,us,rfl,ak,dn.same s5⟩ hPl hPg hpm (s5 _ _ e4l) (p4.same s5) (o4.trans (jc.of s5))
end
def Aa:Sp:=fun vs H Q _=>∃ d lo,vs=[.ref d]/\bG d lo H/\∀(l:Addr)(xs:Nms)(H':Hp),H l=none->H' l=some (.lst (xs.map mkT))->zp xs->bG d lo H'->Old d lo H H'->Q (.ref l) H'
def Fy(t:Nat):Str:=⟨((List.range 26).map (ltr t)).toArray⟩
def Hv:LET.cps.toList=(List.range 26).map (97 + ·):=by decide +kernel
def yU{t:Nat}(h:t<26):Txt.slice LET (some (t:Int)) none++Txt.slice LET none (some (t:Int))=Fy t:=by
 rw[SLi.from_,SLi.upto,Hv];show(⟨_++_⟩:Str)=_;rw[List.append_toArray,Cq h (i:=0) (by decide)]
 rfl
def Gy(t:Nat):(Fy t).length=26:=by
 show((List.range 26).map (ltr t)).toArray.size=26;simp
def jd{t i:Nat}(hi:i<26){x:Int}(hx:x=(i:Nat)):atI (Fy t).cps.toList x=some (ltr t i):=by
 subst hx;refine aZ ?_;show(((List.range 26).map (ltr t)).toArray).toList[i]?=_;simp[List.getElem?_range hi]
def rep1(n c:Nat):(List.replicate n [c]).flatten=List.replicate n c:=by
 induction n with
 | zero=>rfl
 | succ n ih=>rw[replicate_succ,flatten_cons,ih];rfl
def qW(a b:List Nat):(⟨a.toArray⟩:Str)++(⟨b.toArray⟩:Str)=⟨(a++b).toArray⟩:=by
 show(⟨_++_⟩:Str)=_;rw[List.append_toArray]
def kO(a:List Nat):(⟨a.toArray⟩:Str).length=a.length:=by show a.toArray.size=_;simp
def jO(f:Nat->List Nat)(i:Nat):((List.range i).map f).map mkT++[mkT (f i)]=((List.range (i+1)).map f).map mkT:=by
 rw[List.range_succ,map_append,map_append]
 rfl
def Old.none{d lo b:Addr}{H H':Hp}(o:Old d lo H H')(hp:bG d lo H)(hp':bG d lo H')(hb:H' b=none):H b=none:=by
 obtain⟨h1,h2⟩:=hp'.ne hb;cases e:H b with
 | none=>rfl
 | some u =>
  have:=o b u e h1 h2;rw[hb] at this;cases this
section
variable {P:Program}{w:World}{K:W.Frag}{mg:Str->Option Value}{base:Heap}
def gM:aR ["_law_pot_here","_law_letters","_law_turn","_law_way","_law_at","_law_ahead","_law_behind"] ["_law_pot_here"] (aC mZ):=⟨rfl,rfl,rfl,by decide +kernel,rfl,by decide +kernel,by decide +kernel⟩
def JV(h:Has K mg "_law_names" mZ ["_law_pot_here"])(TV:Cal P w K mg base "_law_next" 1 ["_law_pot_here","_law_many"] iR)(TY:mg "range" = none):Cal P w K mg base "_law_names" 2 ["_law_pot_here"] Aa:=by
 refine h.mk' gM (fun vs H Q E hs=>?_) (fun f cdv A outer s H vs Q E hr hs=>?_)
 ·obtain⟨d,lo,rfl,_⟩:=hs
  rfl
 obtain⟨d,lo,rfl,hp,k⟩:=hs;refine⟨_,(au (aL (i:=1) gM.nd rfl (Or.inr rfl) aG)
  (au (aL (i:=2) gM.nd rfl (Or.inl rfl) (aM TV hr (by decide) rfl (aj (pv 0) (aj aA aq))))
  (au (aL (i:=1) gM.nd rfl (Or.inr rfl) (bF dD (gq El (pv 1) (gY (pv 2)) iW) (gq El (pv 1) iW (gY (pv 2)))))
  (au (aL (i:=3) gM.nd rfl (Or.inl rfl) (aM TV hr (by decide) rfl (aj (pv 0) (aj aA aq))))
  (au (cF (aO iZ (pv 3) aA (bA _))
   (aB (aW (cD ["_law_pot_here","_law_letters","_law_turn","_law_way","_law_at","_law_ahead","_law_behind"] (aC mZ) ["_law_letters","_law_k"] [some 1,none] rfl rfl rfl (cW rfl TY (aj aA aq)) rfl (by decide +kernel) (by decide +kernel) (by decide +kernel) (by decide +kernel) (hg:=fun cl C s H ex pn E=>(aP (i:=1) (by decide +kernel:(["_law_letters","_law_k"]:List Str).Nodup) rfl (Or.inl rfl))) (ht:=fun cl C s H ex pn E=>dI) (he:=fun cl C s H ex pn E=>(bF dD (bx mF (pv 0) (bF iu (pv 1) aA) (fun _ _=>rfl)) (bF m8 (bx mF (pv 0) (bF jl (pv 1) aA) (fun _ _=>rfl)) (bF iu (pv 1) aA)))))))
   bB)
  (au (cF (aO iZ (pv 3) aA (bA _))
   (aB (aW (cD ["_law_pot_here","_law_letters","_law_turn","_law_way","_law_at","_law_ahead","_law_behind"] (aC mZ) ["_law_letters","_law_k"] [some 1,none] rfl rfl rfl (cW rfl TY (aj aA aq)) rfl (by decide +kernel) (by decide +kernel) (by decide +kernel) (by decide +kernel) (hg:=fun cl C s H ex pn E=>(aP (i:=1) (by decide +kernel:(["_law_letters","_law_k"]:List Str).Nodup) rfl (Or.inl rfl))) (ht:=fun cl C s H ex pn E=>dI) (he:=fun cl C s H ex pn E=>(bF m8 (bx mF (pv 0) (bF jl (pv 1) aA) (fun _ _=>rfl)) (bF fV aA (bF iu (pv 1) aA)))))))
   bB)
  (au (aL (i:=4) gM.nd rfl (Or.inl rfl) (aM TV hr (by decide) rfl (aj (pv 0) (aj aA aq))))
  (au (ud (cu (aj (bF m8 (bx mF (pv 1) aA (fun _ _=>rfl)) (pv 4)) (aj (bF m8 (bx mF (pv 1) aA (fun _ _=>rfl)) (bF zQ aA (pv 4))) aq))) (tX (n:=2) rfl (bN (aP (i:=5) gM.nd rfl (Or.inr rfl)) (bN (aP (i:=6) gM.nd rfl (Or.inr rfl)) jR))))
  (aB (aW (cD ["_law_pot_here","_law_letters","_law_turn","_law_way","_law_at","_law_ahead","_law_behind"] (aC mZ) ["_law_letters","_law_ahead","_law_behind","_law_k"] [some 1,some 5,some 6,none] rfl rfl rfl (cW rfl TY (aj aA aq)) rfl (by decide +kernel) (by decide +kernel) (by decide +kernel) (by decide +kernel) (hg:=fun cl C s H ex pn E=>(aP (i:=3) (by decide +kernel:(["_law_letters","_law_ahead","_law_behind","_law_k"]:List Str).Nodup) rfl (Or.inl rfl))) (ht:=fun cl C s H ex pn E=>dI) (he:=fun cl C s H ex pn E=>(bF dD (bF dD (bF dD (pv 1) (bx mF (pv 0) (bF iu (pv 3) aA) (fun _ _=>rfl))) (bx mF (pv 0) (bF jl (pv 3) aA) (fun _ _=>rfl))) (pv 2)))))))))))))),?_⟩
 refine lB (σ:=[some (.ref d),some (.str LET),none,none,none,none,none]) (i:=0) (m:=26) rfl hp (by decide) (by decide) fun r H1 r0 r1 p1 o1=>?_
 obtain⟨t,rfl⟩:=Int.eq_ofNat_of_zero_le r0;have ht:t<26:=by lia
 refine⟨_,rfl,_,rfl,_,rfl,LET,rfl,small (by rw[uY];decide),_,rfl,_,rfl,_,rfl,LET,rfl,small (by rw[uY];decide),_,_,rfl,rfl,?_,?_⟩
 ·exact small (W7 (Nat.add_le_add (Txt.slice_le _ _ _) (Txt.slice_le _ _ _)) (by rw[uY];decide))
 rw[yU ht];have hL:(Fy t).length<=sizeLine:=small (by rw[Gy];decide);refine lB (σ:=[some (.ref d),some (.str (Fy t)),some (.int (t:Nat)),none,none,none,none]) (i:=0) (m:=3) rfl p1 (by decide) (by decide) fun r2 H2 q0 q1 p2 o2=>?_
 have o12:=o1.trans o2;refine⟨_,rfl,rfl,_,rfl,?_⟩;refine eU (fun z=>?_) (fun z=>?_)
 ·refine⟨70,rfl,by lia,by lia,fun lc hlc=>?_⟩;have hcH:H lc=none:=o12.none hp p2 hlc;refine iw (J:=Itr 0 70) (l:=lc) 70 (fun i σ' H'=>∃ v,σ'=[some (.str (Fy t)),v]/\H'=upd H2 lc (.lst (((List.range i).map (nm0 t)).map mkT))) ⟨none,rfl,rfl⟩ ?_ ?_
  ·rintro σ' H' ⟨v,rfl,rfl⟩;exact⟨Wu _,k lc _ _ hcH ak (R6 t) (p2.new hlc) (o12.new hlc)⟩
  ·rintro i σ' H' hi ⟨v,rfl,rfl⟩;refine⟨hi,?_⟩;rintro y H'' ⟨rfl,rfl⟩;refine gN (Fe (rY ?_));refine⟨_,rfl,_,rfl,_,_,rfl,rfl,by show(0:Int)<26;decide,_,_,_,rfl,rfl,hL,jd (i:=i%26) (by lia) (by lia),?_⟩;refine⟨_,rfl,_,rfl,_,_,rfl,rfl,by show(0:Int)<26/\_;decide,_,_,_,rfl,rfl,hL,jd (i:=i / 26) (by lia) (by lia),?_⟩;refine⟨_,rfl,_,_,rfl,rfl,by show(0:Int)<7;decide,[ltr t (i / 26)],i%7,rfl,congrArg V.int (by lia),by lia,by simp;lia,?_⟩;rw[rep1];refine⟨⟨[ltr t (i%26)].toArray⟩,_,rfl,rfl,small (by rw[kO,kO,length_replicate];simp;lia),?_⟩;rw[qW];refine⟨_,ak,by rw[Xa,Xa,length_range];exact aH (by lia),_,rfl,?_⟩;rw[jU,← jO]
   rfl
 refine⟨_,rfl,rfl,_,rfl,?_⟩;refine eU (fun z1=>?_) (fun z1=>?_)
 ·refine⟨70,rfl,by lia,by lia,fun lc hlc=>?_⟩;have hcH:H lc=none:=o12.none hp p2 hlc;refine iw (J:=Itr 0 70) (l:=lc) 70 (fun i σ' H'=>∃ v,σ'=[some (.str (Fy t)),v]/\H'=upd H2 lc (.lst (((List.range i).map (nm1 t)).map mkT))) ⟨none,rfl,rfl⟩ ?_ ?_
  ·rintro σ' H' ⟨v,rfl,rfl⟩;exact⟨Wu _,k lc _ _ hcH ak (RL t) (p2.new hlc) (o12.new hlc)⟩
  ·rintro i σ' H' hi ⟨v,rfl,rfl⟩;refine⟨hi,?_⟩;rintro y H'' ⟨rfl,rfl⟩;refine gN (Fe (rY ?_));refine⟨_,rfl,_,rfl,_,_,rfl,rfl,by show(0:Int)<8/\_;decide,_,_,_,rfl,rfl,hL,jd (i:=i / 8) (by lia) (by lia),?_⟩;refine⟨_,rfl,_,_,rfl,rfl,by show(0:Int)<8;decide,_,_,rfl,rfl,[ltr t (i / 8)],1+i%8,rfl,congrArg V.int (by lia),by lia,by simp;lia,?_⟩;rw[rep1];refine⟨_,ak,by rw[Xa,Xa,length_range];exact aH (by lia),_,rfl,?_⟩;rw[jU,← jO]
   rfl
 refine lB (σ:=[some (.ref d),some (.str (Fy t)),some (.int (t:Nat)),some (.int r2),none,none,none]) (i:=0) (m:=7) rfl p2 (by decide) (by decide) fun r3 H3 u0 u1 p3 o3=>?_
 obtain⟨a,rfl⟩:=Int.eq_ofNat_of_zero_le u0;have ha:a<=6:=by lia
 have o13:=o12.trans o3;refine⟨_,rfl,_,_,_,rfl,rfl,hL,jd (i:=25) (by lia) (by lia),_,rfl,[ltr t 25],a,rfl,rfl,by lia,by simp;lia,?_⟩;rw[rep1];refine⟨_,rfl,_,_,_,rfl,rfl,hL,jd (i:=25) (by lia) (by lia),_,rfl,_,_,rfl,rfl,[ltr t 25],6 - a,rfl,congrArg V.int (by lia),by lia,by simp;lia,?_⟩;rw[rep1];refine⟨smn 2,fun tp htp=>?_⟩;have p4:=p3.new (o:=HO.tup [mkT (List.replicate a (ltr t 25)),mkT (List.replicate (6 - a) (ltr t 25))]) htp;have o14:=o13.new (o:=HO.tup [mkT (List.replicate a (ltr t 25)),mkT (List.replicate (6 - a) (ltr t 25))]) htp;refine⟨tp,_,rfl,SqT.of ak,rfl,_,_,rfl,_,_,rfl,rfl,?_⟩;refine⟨70,rfl,by lia,by lia,fun lc hlc=>?_⟩;have hcH:H lc=none:=o14.none hp p4 hlc;generalize upd H3 tp (.tup [mkT (List.replicate a (ltr t 25)),mkT (List.replicate (6 - a) (ltr t 25))])=H4 at p4 o14 hlc;refine iw (J:=Itr 0 70) (l:=lc) 70 (fun i σ' H'=>∃ v,σ'=[some (.str (Fy t)),some (mkT (List.replicate a (ltr t 25))),some (mkT (List.replicate (6 - a) (ltr t 25))),v]/\H'=upd H4 lc (.lst (((List.range i).map (nm2 t a)).map mkT))) ⟨none,rfl,rfl⟩ ?_ ?_
 ·rintro σ' H' ⟨v,rfl,rfl⟩;exact⟨Wu _,k lc _ _ hcH ak (row2 ha) (p4.new hlc) (o14.new hlc)⟩
 ·rintro i σ' H' hi ⟨v,rfl,rfl⟩;refine⟨hi,?_⟩;rintro y H'' ⟨rfl,rfl⟩;refine gN (Fe (rY ?_));refine⟨_,rfl,_,rfl,_,rfl,_,_,rfl,rfl,by show(0:Int)<20;decide,_,_,_,rfl,rfl,hL,jd (i:=i%20) (by lia) (by lia),?_⟩;refine⟨_,⟨[ltr t (i%20)].toArray⟩,rfl,rfl,small (by rw[kO,kO,length_replicate];simp;lia),?_⟩;rw[qW];refine⟨_,rfl,_,rfl,_,_,rfl,rfl,by show(0:Int)<20/\_;decide,_,_,_,rfl,rfl,hL,jd (i:=i / 20) (by lia) (by lia),?_⟩;refine⟨_,⟨[ltr t (i / 20)].toArray⟩,rfl,rfl,small (by rw[kO,kO,W0,length_replicate];simp;lia),?_⟩;rw[qW];refine⟨_,rfl,_,_,rfl,rfl,small (by rw[kO,kO,W0,W0,length_replicate,length_replicate];simp;lia),?_⟩;rw[qW];refine⟨_,ak,by rw[Xa,Xa,length_range];exact aH (by lia),_,rfl,?_⟩;rw[jU,← jO];simp only[nm2,append_assoc]
  rfl
end
def kj{α β:Type}{f:α->β}{ds es:List β}(h:ds.Perm es):∀ {ks:List α},es=ks.map f->∃ ks':List α,ks'.Perm ks/\ds=ks'.map f:=by
 induction h with
 | nil =>
  intro ks e;cases ks with
  | nil=>exact⟨[],.nil,rfl⟩
  | cons=>cases e
 | cons x p ih =>
  intro ks e;cases ks with
  | nil=>cases e
  | cons k ks =>
   injection e with e1 e2;obtain⟨ks',hp,rfl⟩:=ih e2;exact⟨k::ks',hp.cons k,by rw[e1];rfl⟩
 | swap x y l =>
  intro ks e
  match ks,e with
  | a::b::r,e =>
   injection e with e1 e2;injection e2 with e2 e3;exact⟨b::a::r,.swap _ _ _,by rw[e1,e2,e3];rfl⟩
 | trans p q ih1 ih2 =>
  intro ks e;obtain⟨ks1,hp1,rfl⟩:=ih2 e;obtain⟨ks2,hp2,rfl⟩:=ih1 rfl;exact⟨ks2,hp2.trans hp1,rfl⟩
def yZ(h:dZ a=dZ b):a=b:=by
 unfold dZ at h;injection h with h;have:=congrArg (List.map unD) h
 rwa [qQ,qQ] at this
def Ew(h:aV a=aV b):a.1=b.1:=by
 unfold aV at h;injection h with h;injection h with h _;exact yZ h
def KR(ks:List Lnk):aY 0 ks=ks.flatMap (·.1):=rfl
def uE(hu:UpD (ks.map aV))(hn:(aY 0 ks).Nodup)(hg:∀ k∈ks,qy k):ks.Pairwise fun a b=>dlt (aV a) (aV b)=true:=by
 unfold UpD at hu;rw[pairwise_map] at hu;rw[KR,nodup_iff_pairwise_ne,List.pairwise_flatMap] at hn;refine List.Pairwise.imp₂ (fun a b h1 h2=>?_) hu (hn.2.imp_of_mem (S:=fun a b=>aV a≠aV b) fun {a b} ha hb h e=>?_)
 ·cases h:dlt (aV a) (aV b) with
  | true=>rfl
  | false=>exact absurd (jZ _ _ h h1) h2
 ·have e1:=Ew e;have hne:=(hg a ha).2.2.1;cases hc:a.1 with
  | nil=>exact hne hc
  | cons x r=>exact h x (by rw[hc];exact .head _) x (by rw[← e1,hc];exact .head _) rfl
def mJ(n:Nat)(h:ks'.Perm ks):(aY n ks').Perm (aY n ks):=h.flatMap_right _
def nF(n:Nat)(ks:List Lnk)(k:Lnk):aY n (ks++[k])=aY n ks++aK n k:=by
 unfold aY;rw[List.flatMap_append];simp
def Fp(hL:L.length<=12)(hR:R.length<=12)(hg:∀ p∈L++R,vW p)(hnd:((L++R).map (·.1)).Nodup)(hk:∀ k∈ks,qy k)(hkl:ks.length<=12)(h0:(L.map (·.1)).Perm (aY 0 ks++r0))(h1:(R.map (·.1)).Perm (aY 1 ks++r1))(hp:ks'.Perm ks)(hu:UpD (ks'.map aV))(hal:al0.Sublist (r0++r1))(hpa:al.Perm al0)(hua:UpD (al.map sD)):Fj L R ks' al:=by
 have hsub:∀ x∈al,x∈r0++r1:=fun x hx=>hal.subset (hpa.mem_iff.mp hx)
 have q0:=mJ 0 hp;have q1:=mJ 1 hp;have hbig:((aY 0 ks'++aY 1 ks')++(r0++r1)).Nodup:=by
  have:((L++R).map (·.1)).Perm ((aY 0 ks'++aY 1 ks')++(r0++r1)):=by
   rw[map_append];refine(h0.append h1).trans ?_;rw[append_assoc,append_assoc];refine(q0.symm.append ?_);refine(List.perm_append_comm_assoc _ _ _).trans ?_;exact q1.symm.append (List.Perm.refl _)
  exact this.nodup_iff.mp hnd
 have hnd2:(aY 0 ks'++aY 1 ks'++al).Nodup:=by
  have s:((aY 0 ks'++aY 1 ks')++al0).Sublist ((aY 0 ks'++aY 1 ks')++(r0++r1)):=(List.Sublist.refl _).append hal;exact((hpa.append_left (aY 0 ks'++aY 1 ks')).nodup_iff).mpr (hbig.sublist s)
 have ndl:(aY 0 ks').Nodup:=(hnd2.sublist (sublist_append_left _ _)).sublist (sublist_append_left _ _);have nda:al.Nodup:=hnd2.sublist (sublist_append_right _ _);have hk':∀ k∈ks',qy k:=fun k hk'=>hk k (hp.mem_iff.mp hk')
 have inL:∀ x∈aY 0 ks',x∈L.map (·.1):=fun x hx=>h0.mem_iff.mpr (W5 _ (q0.mem_iff.mp hx))
 have inR:∀ x∈aY 1 ks',x∈R.map (·.1):=fun x hx=>h1.mem_iff.mpr (W5 _ (q1.mem_iff.mp hx))
 have inA:∀ x∈al,x∈(L++R).map (·.1):=fun x hx=>by
  rw[map_append];rcases mem_append.mp (hsub x hx) with z | z
  ·exact W5 _ (h0.mem_iff.mpr (W4 _ z))
  ·exact W4 _ (h1.mem_iff.mpr (W4 _ z))
 have len0:(L.map (·.1)).length=(aY 0 ks).length+r0.length:=by rw[h0.length_eq,W0]
 have len1:(R.map (·.1)).length=(aY 1 ks).length+r1.length:=by rw[h1.length_eq,W0]
 have lena:al.length<=r0.length+r1.length:=by
  rw[hpa.length_eq,← W0];exact hal.length_le
 rw[Xa] at len0 len1;refine⟨hg,hnd,by lia,by lia,hk',uE hu ndl hk',by rw[hp.length_eq];lia,⟨fun x hx=>?_,tG hua nda,by lia⟩,inL,inR,hnd2,?_,inA⟩
 ·obtain⟨p,hp',rfl⟩:=mem_map.mp (inA x hx);exact(hg p hp').1
 ·rw[W0,W0,q0.length_eq,q1.length_eq];lia
def Bd(ks:List Lnk):Hom (ks.map aV):=by
 refine⟨fun a ha b hb=>?_,.inr (.inr fun d hd=>?_)⟩
 ·obtain⟨x,_,rfl⟩:=mem_map.mp ha;obtain⟨y,_,rfl⟩:=mem_map.mp hb;exact lG _ _
 ·obtain⟨x,_,rfl⟩:=mem_map.mp hd;exact⟨_,_,rfl⟩
def Am:Sp:=fun vs H Q _=>∃ d lo v L R,vs=[.ref d,v]/\bG d lo H/\Den H v (.tup [.tup (L.map bH),.tup (R.map bH)])/\L.length<=12/\R.length<=12/\(∀ p∈L++R,vW p)/\((L++R).map (·.1)).Nodup /\
 ∀(q a b:Addr)(ks:List Lnk)(al:Nms)(H':Hp),H' q=some (.tup [.ref a,.ref b])->Den H' (.ref a) (.tup (ks.map aV))->Den H' (.ref b) (dZ al)->Fj L R ks al->bG d lo H'->Old d lo H H'->Q (.ref q) H'
def Jg{b:Bool}{p q:Prop}(h:b=true)(x:p):if b=true then p else q:=by
 rw[if_pos h];exact x
def same_none(s:Same H H')(h:H' b=none):H b=none:=by
 cases e:H b with
 | none=>rfl
 | some o =>
  have:=s b o e;rw[h] at this;cases this
def Cr(L:List Prt):bO L=(L.map (·.1)).map mkT:=by
 unfold bO;rw[map_map]
 rfl
section
variable {P:Program}{w:World}{K:W.Frag}{mg:Str->Option Value}{base:Heap}
def iC:aR ["_law_pot_here","_law_sides_here","_law_left","_law_links","_law_k","_law_ones","_law_others","_law_lost","_law_alone"] ["_law_pot_here","_law_sides_here"] (aC oY):=⟨rfl,rfl,rfl,by decide +kernel,rfl,by decide +kernel,by decide +kernel⟩
def Lg(h:Has K mg "_law_stood" oY ["_law_pot_here","_law_sides_here"])(Ua:Cal P w K mg base "_law_count" 2 ["_law_pot_here","_law_most"] rz)(Va:Cal P w K mg base "_law_some" 3 ["_law_pot_here","_law_names_here","_law_most"] HJ)(T4:Cal P w K mg base "_law_moments" 2 ["_law_pot_here","_law_many"] jz)(TV:Cal P w K mg base "_law_next" 1 ["_law_pot_here","_law_many"] iR)(TY:mg "range" = none)(Tw:mg "tuple" = none)(TX:mg "sorted" = none):Cal P w K mg base "_law_stood" 4 ["_law_pot_here","_law_sides_here"] Am:=by
 refine h.mk' iC (fun vs H Q E hs=>?_) (fun f cdv A outer s H vs Q E hr hs=>?_)
 ·obtain⟨d,lo,v,L,R,rfl,_⟩:=hs
  rfl
 obtain⟨d,lo,v,L,R,rfl,hp,hv,hL,hR,hg,hnd,k⟩:=hs;refine⟨_,(au (wB (ix:=2) iC.nd rfl rfl ["_law_pot_here","_law_sides_here","_law_left","_law_links","_law_k","_law_ones","_law_others","_law_lost","_law_alone"] (aC oY) ["_law_side_here"] [none] rfl rfl rfl (fY (pv 1)) rfl (by decide +kernel) (by decide +kernel) (by decide +kernel) (by decide +kernel) (hg:=fun cl C s H ex pn E=>(aP (i:=0) (by decide +kernel:(["_law_side_here"]:List Str).Nodup) rfl (Or.inl rfl))) (ht:=fun cl C s H ex pn E=>dI) (he:=fun cl C s H ex pn E=>(cD ["_law_side_here"] _ ["_law_part"] [none] rfl rfl rfl (Dv (K:=K) rfl (pv 0)) rfl (by decide +kernel) (by decide +kernel) (Iw (by decide +kernel)) (by decide +kernel) (hg:=fun cl C s H ex pn E=>(aP (i:=0) (by decide +kernel:(["_law_part"]:List Str).Nodup) rfl (Or.inl rfl))) (ht:=fun cl C s H ex pn E=>dI) (he:=fun cl C s H ex pn E=>(bx (vd (K:=K) rfl) (pv 0) aA (fun _ _=>rfl))))))
  (au (aL (i:=3) iC.nd rfl (Or.inl rfl) (bR aq))
  (au (dU PassesOwn.never rfl (cW rfl TY (aj (aM Ua hr (by decide) rfl (aj (pv 0) (aj aA aq))) aq)) (aP (i:=4) iC.nd rfl (Or.inl rfl))
   (aB (cF (PW.pt (uo (aO (wC hr.units0) (bx bI (pv 2) aA (fun _ _=>rfl)) (bR aq) (bA _)) (mO (aO (wC hr.units0) (bx bI (pv 2) aA (fun _ _=>rfl)) (bR aq) (bA _)))))
   (au (aL (i:=5) iC.nd rfl (Or.inl rfl) (aM Va hr (by decide) rfl (aj (pv 0) (aj (bx bI (pv 2) aA (fun _ _=>rfl)) (aj aA aq)))))
  (au (aL (i:=6) iC.nd rfl (Or.inl rfl) (aM Va hr (by decide) rfl (aj (pv 0) (aj (bx bI (pv 2) aA (fun _ _=>rfl)) (aj aA aq)))))
  (au (aL (i:=7) iC.nd rfl (Or.inl rfl) (cu (aj (aM T4 hr (by decide) rfl (aj (pv 0) (aj (aM TV hr (by decide) rfl (aj (pv 0) (aj aA aq))) aq))) (aj (aM T4 hr (by decide) rfl (aj (pv 0) (aj (aM TV hr (by decide) rfl (aj (pv 0) (aj aA aq))) aq))) aq))))
  (aB (cQ (gC PySem.F.plainAttrs_list PySem.F.slot_list_append PySem.F.type_list_append bY (pv 3) (aj (cu (aj (pv 5) (aj (pv 6) (aj (bx bJ (aM T4 hr (by decide) rfl (aj (pv 0) (aj aA aq))) aA (fun _ _=>rfl)) (aj (pv 7) aq))))) aq)))))))
   bB)))
  (au (wB (ix:=8) iC.nd rfl rfl ["_law_pot_here","_law_sides_here","_law_left","_law_links","_law_k","_law_ones","_law_others","_law_lost","_law_alone"] (aC oY) ["_law_pot_here","_law_name"] [some 0,none] rfl rfl rfl (fB (bF j7 (bx bI (pv 2) aA (fun _ _=>rfl)) (bx bI (pv 2) aA (fun _ _=>rfl)))) rfl (by decide +kernel) (by decide +kernel) (by decide +kernel) (by decide +kernel) (hg:=fun cl C s H ex pn E=>(aP (i:=1) (by decide +kernel:(["_law_pot_here","_law_name"]:List Str).Nodup) rfl (Or.inl rfl))) (ht:=fun cl C s H ex pn E=>(gw (aO iZ (aM TV hr (by decide) rfl (aj (pv 0) (aj aA aq))) aA (bA _)))) (he:=fun cl C s H ex pn E=>(pv 1)))
  (aB (aW (cu (aj (aQ aU rfl Tw boot_tuple (aj (bh (cG hr.units) rfl TX boot_sorted (aj (pv 3) aq)) aq)) (aj (aQ aU rfl Tw boot_tuple (aj (bh (cG hr.units) rfl TX boot_sorted (aj (pv 8) aq)) aq)) aq))))))))),?_⟩
 obtain⟨p,us,rfl,ep,hd⟩:=aN hv;obtain⟨b0,b1,rfl⟩:∃ b0 b1,us=[b0,b1]:=by
  match us,hd with
  | [b0,b1],_=>exact⟨b0,b1,rfl⟩
  | [],h=>exact h.elim
  | [_],h=>exact h.2.elim
  | _::_::_::_,h=>exact h.2.2.elim
 obtain⟨pl,ls,rfl,hpl,hdl⟩:=aN hd.1;obtain⟨pr,rs,rfl,hpr,hdr⟩:=aN hd.2.1;refine⟨_,rfl,p,rfl,⟨_,SqT.of ep⟩,fun la hla=>?_⟩;refine iw (J:=Itt K p) (l:=la) 2 (fun i σ' H'=>∃ v as,σ'=[v]/\H' la=some (.lst (as.map V.ref))/\Same H H'/\as.length=i/\as.Nodup/\(∀ l∈as,H l=none/\l≠la)/\∀(j:Nat)(l:Addr)(qs:List Prt),as[j]?=some l->[L,R][j]?=some qs->H' l=some (.lst (bO qs))) ⟨none,[],rfl,ak,ao hla _,rfl,.nil,(fun l h=>by cases h),(fun j l qs h=>by simp at h)⟩ ?_ ?_
 ·rintro σ' H1 ⟨v,as,rfl,ea,s1,hal,hand,hfr,hat⟩;obtain⟨l0,l1,rfl⟩:∃ l0 l1,as=[l0,l1]:=by
   match as,hal with
   | [l0,l1],_=>exact⟨l0,l1,rfl⟩
  have e0:H1 l0=some (.lst ((L.map (·.1)).map mkT)):=by rw[← Cr];exact hat 0 l0 L rfl rfl
  have e1:H1 l1=some (.lst ((R.map (·.1)).map mkT)):=by rw[← Cr];exact hat 1 l1 R rfl rfl
  obtain⟨f0,n0a⟩:=hfr l0 (.head _);obtain⟨f1,n1a⟩:=hfr l1 (.tail _ (.head _));have n01:l0≠l1:=by
   intro z;subst z;simp at hand
  refine⟨⟨_,SqT.of (s1 _ _ ep),Wu _⟩,?_⟩;have o1:Old d lo H H1:=Old.of s1;have p1:=hp.same s1;obtain⟨n0d,n0l⟩:=hp.ne f0;obtain⟨n1d,n1l⟩:=hp.ne f1;obtain⟨nad,nal⟩:=hp.ne hla;have at0:atI [V.ref l0,V.ref l1] 0=some (.ref l0):=bC _ _;have at1:atI [V.ref l0,V.ref l1] 1=some (.ref l1):=aZ (xs:=[V.ref l0,V.ref l1]) (j:=1) rfl;have hndL:(L.map (·.1)).Nodup:=by rw[map_append] at hnd;exact hnd.sublist (sublist_append_left _ _)
  have hndR:(R.map (·.1)).Nodup:=by rw[map_append] at hnd;exact hnd.sublist (sublist_append_right _ _)
  have nmL:∀ x∈L.map (·.1),isNm ⟨x.toArray⟩=true:=fun x hx=>by
   obtain⟨q,hq,rfl⟩:=mem_map.mp hx;exact(hg q (W5 _ hq)).1
  have nmR:∀ x∈R.map (·.1),isNm ⟨x.toArray⟩=true:=fun x hx=>by
   obtain⟨q,hq,rfl⟩:=mem_map.mp hx;exact(hg q (W4 _ hq)).1
  refine gN ⟨smn 0,fun lk hlk=>?_⟩;have s2:=ao hlk (.lst []);obtain⟨nkd,nkl⟩:=p1.ne hlk;have nka:lk≠la:=(aD ea hlk).symm;have nk0:lk≠l0:=(aD e0 hlk).symm;have nk1:lk≠l1:=(aD e1 hlk).symm;have hlkH:H lk=none:=same_none s1 hlk;refine⟨_,rfl,d,lo,3,rfl,p1.same s2,by decide,by decide,fun r H3 r0 r1 p3 o3=>?_⟩;refine⟨r,rfl,by lia,by lia,?_⟩;refine gW (lo:=0) (n:=r.toNat) (fun j σ H4=>∃ v4 v5 v6 v7 us ks ra rb,σ=[some (.ref d),some (.ref p),some (.ref la),some (.ref lk),v4,v5,v6,v7,none]/\bG d lo H4/\H4 la=some (.lst [.ref l0,.ref l1])/\H4 l0=some (.lst (ra.map mkT))/\H4 l1=some (.lst (rb.map mkT))/\H4 lk=some (.lst us)/\bL H4 us (ks.map aV)/\ks.length<=j/\(∀ q∈ks,qy q)/\(L.map (·.1)).Perm (aY 0 ks++ra)/\(R.map (·.1)).Perm (aY 1 ks++rb)/\Old d lo H H4)
   ⟨none,none,none,none,[],[],L.map (·.1),R.map (·.1),rfl,p3,o3 la _ (s2 _ _ ea) nad nal,o3 l0 _ (s2 _ _ e0) n0d n0l,o3 l1 _ (s2 _ _ e1) n1d n1l,o3 lk _ ak nkd nkl,trivial,Wu _,(fun q h=>by cases h),List.Perm.refl _,List.Perm.refl _,(o1.trans (Old.of s2)).trans o3⟩ ?_ ?_
  ·rintro j σ H4 hj ⟨v4,v5,v6,v7,us,ks,ra,rb,rfl,p4,e4a,e40,e41,e4k,dn4,hks,hkg,pm0,pm1,o4⟩;have hj12:j<12:=by lia
   refine gN ⟨_,rfl,la,_,0,_,rfl,rfl,SqL.of e4a,at0,smn 0,fun b hb=>?_⟩;have s5:=ao hb (.lst []);refine⟨l0,b,_,rfl,rfl,s5 _ _ e40,ak,_,rfl,?_⟩;have oth:∀ {H5:Hp},Same H4 H5->∃ v4' v5' v6' v7' us ks ra rb,[some (V.ref d),some (.ref p),some (.ref la),some (.ref lk),some (.int (0+(j:Int))),v5,v6,v7,none]=[some (.ref d),some (.ref p),some (.ref la),some (.ref lk),v4',v5',v6',v7',none]/\bG d lo H5/\H5 la=some (.lst [.ref l0,.ref l1])/\H5 l0=some (.lst (ra.map mkT))/\H5 l1=some (.lst (rb.map mkT))/\H5 lk=some (.lst us)/\bL H5 us (ks.map aV)/\ks.length<=j+1/\(∀ q∈ks,qy q)/\(L.map (·.1)).Perm (aY 0 ks++ra)/\(R.map (·.1)).Perm (aY 1 ks++rb)/\Old d lo H H5 :=
    fun {H5} s=>⟨_,_,_,_,us,ks,ra,rb,rfl,p4.same s,s _ _ e4a,s _ _ e40,s _ _ e41,s _ _ e4k,dn4.same s,by lia,hkg,pm0,pm1,o4.trans (Old.of s)⟩
   by_cases hra:ra=[]
   ·subst hra;exact Fb (oth s5)
   refine Jg (by cases ra with | nil=>exact absurd rfl hra | cons=>rfl) ?_;refine⟨_,rfl,la,_,1,_,rfl,rfl,SqL.of (s5 _ _ e4a),at1,smn 0,fun b6 hb6=>?_⟩;have s6:=s5.trans (ao hb6 (.lst []));refine⟨l1,b6,_,rfl,rfl,s6 _ _ e41,ak,_,rfl,?_⟩;by_cases hrb:rb=[]
   ·subst hrb;exact Fb (oth s6)
   refine Jg (by cases rb with | nil=>exact absurd rfl hrb | cons=>rfl) ?_;generalize upd (upd H4 b (.lst [])) b6 (.lst [])=H6 at s6;have ndra:ra.Nodup:=(pm0.nodup_iff.mp hndL).sublist (sublist_append_right _ _);have ndrb:rb.Nodup:=(pm1.nodup_iff.mp hndR).sublist (sublist_append_right _ _);have lena:ra.length<=12:=by
    have:=pm0.length_eq;rw[Xa,W0] at this;lia
   have lenb:rb.length<=12:=by
    have:=pm1.length_eq;rw[Xa,W0] at this;lia
   have p6:=p4.same s6;have e60:=s6 _ _ e40;have e61:=s6 _ _ e41;have e6a:=s6 _ _ e4a;have e6k:=s6 _ _ e4k;refine gN ⟨_,rfl,_,rfl,la,_,0,_,rfl,rfl,SqL.of e6a,at0,d,lo,l0,ra,3,rfl,p6,e60,n0d,n0l,hra,by lia,ndra,fun x hx=>nmL x (pm0.mem_iff.mpr (W4 _ hx)),by decide,by decide,fun q7 ns7 ra7 H7 e7q g7 ne7 ln7 pm7 e70 p7 o7=>?_⟩;have k7:=mV p6 e60 o7;have e71:H7 l1=_:=o7 l1 _ e61 n1d n1l n01.symm;have e7a:H7 la=_:=o7 la _ e6a nad nal n0a.symm;have e7k:H7 lk=_:=o7 lk _ e6k nkd nkl nk0;refine gN ⟨_,rfl,_,rfl,la,_,1,_,rfl,rfl,SqL.of e7a,at1,d,lo,l1,rb,3,rfl,p7,e71,n1d,n1l,hrb,by lia,ndrb,fun x hx=>nmR x (pm1.mem_iff.mpr (W4 _ hx)),by decide,by decide,fun q8 ns8 rb8 H8 e8q g8 ne8 ln8 pm8 e81 p8 o8=>?_⟩;have k8:=mV p7 e71 o8;have e80:H8 l0=_:=o8 l0 _ e70 n0d n0l n01;have e8a:H8 la=_:=o8 la _ e7a nad nal n1a.symm;have e8k:H8 lk=_:=o8 lk _ e7k nkd nkl nk1;refine gN ⟨_,rfl,?_⟩;refine lB (σ:=[some (.ref d),some (.ref p),some (.ref la),some (.ref lk),some (.int (0+(j:Int))),some (.ref q7),some (.ref q8),v7,none]) (i:=0) (m:=3) rfl p8 (by decide) (by decide) fun r9 H9 c0 c1 p9 o9=>?_
   obtain⟨m9,rfl⟩:=Int.eq_ofNat_of_zero_le c0;refine⟨d,lo,m9,rfl,p9,by lia,fun q10 ms10 H10 e10q g10 hl10 p10 o10=>?_⟩;refine⟨_,rfl,?_⟩;refine lB (σ:=[some (.ref d),some (.ref p),some (.ref la),some (.ref lk),some (.int (0+(j:Int))),some (.ref q7),some (.ref q8),v7,none]) (i:=0) (m:=3) rfl p10 (by decide) (by decide) fun r11 H11 c2 c3 p11 o11=>?_
   obtain⟨m11,rfl⟩:=Int.eq_ofNat_of_zero_le c2;refine⟨d,lo,m11,rfl,p11,by lia,fun q12 ms12 H12 e12q g12 hl12 p12 o12=>?_⟩;refine⟨smn 2,fun tl htl=>?_⟩;have oB:Old d lo H8 H12:=((o9.trans o10).trans o11).trans o12;have kB:=cX p8 oB;have kC:=cX p10 (o11.trans o12);have s13:=ao htl (.tup [.ref q10,.ref q12]);have e13t:(upd H12 tl (.tup [.ref q10,.ref q12])) tl=some (.tup [.ref q10,.ref q12]):=ak;have p13:=p12.same s13;have oC:Old d lo H8 (upd H12 tl (.tup [.ref q10,.ref q12])):=oB.trans (Old.of s13);generalize upd H12 tl (.tup [.ref q10,.ref q12])=H13 at s13 e13t p13 oC;have e13k:H13 lk=_:=oC lk _ e8k nkd nkl;refine gN ⟨_,rfl,.inl ⟨rfl,_,SqL.of e13k⟩,_,rfl,_,rfl,_,rfl,d,lo,1,rfl,p13,by decide,fun q14 ms14 H14 e14q g14 hl14 p14 o14=>?_⟩;obtain⟨mm,rfl⟩:∃ mm,ms14=[mm]:=by
    match ms14,hl14 with
    | [mm],_=>exact⟨mm,rfl⟩
   refine⟨q14,_,0,_,rfl,rfl,SqT.of e14q,bC _ _,_,rfl,smn 4,fun tq htq=>?_⟩;have oD:=oC.trans o14;have k14:=cX p13 o14;have s15:=ao htq (.tup [.ref q7,.ref q8,.int mm,.ref tl]);have e15t:(upd H14 tq (.tup [.ref q7,.ref q8,.int mm,.ref tl])) tq=some (.tup [.ref q7,.ref q8,.int mm,.ref tl]):=ak;have p15:=p14.same s15;have oE:Old d lo H8 (upd H14 tq (.tup [.ref q7,.ref q8,.int mm,.ref tl])):=oD.trans (Old.of s15);have kE:=cX p8 oE;have kF:∀(b:Addr)(vs:List V),H12 b=some (.tup vs)->(upd H14 tq (.tup [.ref q7,.ref q8,.int mm,.ref tl])) b=some (.tup vs):=fun b vs e=>s15 _ _ (k14 _ _ (s13 _ _ e))
   have e15l:(upd H14 tq (.tup [.ref q7,.ref q8,.int mm,.ref tl])) tl=some (.tup [.ref q10,.ref q12]):=s15 _ _ (k14 _ _ e13t);generalize upd H14 tq (.tup [.ref q7,.ref q8,.int mm,.ref tl])=H15 at s15 e15t p15 oE kE kF e15l;have e15k:H15 lk=_:=oE lk _ e8k nkd nkl;have e150:H15 l0=_:=oE l0 _ e80 n0d n0l;have e151:H15 l1=_:=oE l1 _ e81 n1d n1l;have e15a:H15 la=_:=oE la _ e8a nad nal;have kA:∀(b:Addr)(vs:List V),H4 b=some (.tup vs)->H15 b=some (.tup vs):=fun b vs e=>kE _ _ (k8 _ _ (k7 _ _ (s6 _ _ e)))
   have kT:=jF (zs:=us++[.ref tq]) e15k;have dq:Den H15 (.ref tq) (aV (ns7,ns8,mm,ms10,ms12)):=by
    refine⟨tq,_,rfl,e15t,⟨q7,_,rfl,kE _ _ (k8 _ _ e7q),cC _ ns7⟩,⟨q8,_,rfl,kE _ _ e8q,cC _ ns8⟩,rfl,⟨tl,_,rfl,e15l,⟨q10,_,rfl,kF _ _ (kC _ _ e10q),eZ _ ms10⟩,⟨q12,_,rfl,kF _ _ e12q,eZ _ ms12⟩,trivial⟩,trivial⟩
   refine⟨lk,us,_,rfl,rfl,e15k,?_,?_⟩
   ·have:=dn4.len;rw[Xa] at this;exact aH (by lia)
   refine⟨_,_,_,_,us++[.ref tq],ks++[(ns7,ns8,mm,ms10,ms12)],ra7,rb8,rfl,p15.upd nkd nkl,(aF nka.symm).trans e15a,(aF nk0.symm).trans e150,(aF nk1.symm).trans e151,ak,?_,by rw[W0,length_singleton];lia,fun q hq=>?_,?_,?_,?_⟩
   ·rw[map_append];exact bL.snoc (Den.keepT kT dq) ((dn4.keepT kA).keepT kT)
   ·rcases mem_append.mp hq with z | z
    ·exact hkg q z
    ·rw[mem_singleton.mp z];exact⟨g7,g8,ne7,ne8,(g14.1 mm (.head _)).1,(g14.1 mm (.head _)).2,g10,g12⟩
   ·rw[nF,append_assoc];exact pm0.trans (pm7.append_left _)
   ·rw[nF,append_assoc];exact pm1.trans (pm8.append_left _)
   ·have oF:Old d lo H H6:=o4.trans (Old.of s6);have oG:Old d lo H H7:=fun c o e h1 h2=>o7 c o (oF c o e h1 h2) h1 h2 (aD e f0)
    have oH:Old d lo H H8:=fun c o e h1 h2=>o8 c o (oG c o e h1 h2) h1 h2 (aD e f1)
    exact(oH.trans oE).free hlkH
  ·rintro σ H4 ⟨v4,v5,v6,v7,us,ks,ra,rb,rfl,p4,e4a,e40,e41,e4k,dn4,hks,hkg,pm0,pm1,o4⟩;have lena:ra.length<=12:=by
    have:=pm0.length_eq;rw[Xa,W0] at this;lia
   have lenb:rb.length<=12:=by
    have:=pm1.length_eq;rw[Xa,W0] at this;lia
   refine⟨_,rfl,la,_,0,_,rfl,rfl,SqL.of e4a,at0,_,rfl,la,_,1,_,rfl,rfl,SqL.of e4a,at1,l0,l1,_,_,rfl,rfl,e40,e41,by rw[Xa,Xa];exact small (by lia),fun lq hlq=>?_⟩;rw[← map_append];have s5:=ao hlq (.lst ((ra++rb).map mkT));have e5q:(upd H4 lq (.lst ((ra++rb).map mkT))) lq=some (.lst ((ra++rb).map mkT)):=ak;generalize upd H4 lq (.lst ((ra++rb).map mkT))=H5 at s5 e5q;refine⟨lq,rfl,⟨_,SqL.of e5q⟩,fun lc hlc=>?_⟩;have p5:=p4.same s5;obtain⟨ncd,ncl⟩:=p5.ne hlc;obtain⟨nqd,nql⟩:=p4.ne hlq;have nck:lc≠lk:=(aD (s5 _ _ e4k) hlc).symm;have ncq:lc≠lq:=(aD e5q hlc).symm;have hlcH:H lc=none:=(o4.trans (Old.of s5)).none hp p5 hlc;refine iw (J:=Itl K lq) (l:=lc) ((ra++rb).map mkT).length (fun i σ' H'=>∃ v al,σ'=[some (.ref d),v]/\H' lc=some (.lst (al.map mkT))/\H' lq=some (.lst ((ra++rb).map mkT))/\H' lk=some (.lst us)/\bL H' us (ks.map aV)/\al.Sublist ((ra++rb).take i)/\bG d lo H'/\Old d lo H H') ⟨none,[],rfl,ak,ao hlc _ _ _ e5q,ao hlc _ _ _ (s5 _ _ e4k),(dn4.same s5).same (ao hlc _),.slnil,p5.new hlc,(o4.trans (Old.of s5)).new hlc⟩ ?_ ?_
   ·rintro σ' H6 ⟨v,al,rfl,e6c,e6q,e6k,dn6,hsub,p6,o6⟩;rw[Xa,take_length] at hsub;refine⟨⟨_,SqL.of e6q,Wu _⟩,?_⟩;have lal:al.length<=24:=by
     have:=hsub.length_le;rw[W0] at this;lia
    refine gN ⟨_,rfl,lk,us,_,rfl,.inl (SqL.of e6k),dn6,Bd ks,by rw[Xa];lia,fun x hx=>?_,fun l7 us7 ds7 hl7 pm7 up7 dn7=>?_⟩
    ·obtain⟨y,hy,rfl⟩:=mem_map.mp hx;exact show cN 50 _ from cV (n:=3) (Dh (hkg y hy)) 47
    obtain⟨ks7,pk7,rfl⟩:=kj pm7 rfl;have s7:=ao hl7 (.lst us7);refine⟨l7,_,rfl,.inl ⟨SqL.of ak,fun q8 hq8=>?_⟩⟩;have s8:=s7.trans (ao hq8 (.tup us7));have e8q:(upd (upd H6 l7 (.lst us7)) q8 (.tup us7)) q8=some (.tup us7):=ak;generalize upd (upd H6 l7 (.lst us7)) q8 (.tup us7)=H8 at s8 e8q;have e8c:=s8 _ _ e6c;refine⟨_,rfl,lc,_,_,rfl,.inl (SqL.of e8c),cC _ al,iD al,by rw[Xa];lia,fun x hx=>?_,fun l9 us9 ds9 hl9 pm9 up9 dn9=>?_⟩
    ·obtain⟨y,_,rfl⟩:=mem_map.mp hx;exact show cN 50 _ from cV (n:=0) (eF _) 50
    obtain⟨al9,pa9,rfl⟩:=kj pm9 rfl;have s9:=ao hl9 (.lst us9);refine⟨l9,_,rfl,.inl ⟨SqL.of ak,fun q10 hq10=>?_⟩⟩;have s10:=s9.trans (ao hq10 (.tup us9));have e10q:(upd (upd H8 l9 (.lst us9)) q10 (.tup us9)) q10=some (.tup us9):=ak;generalize upd (upd H8 l9 (.lst us9)) q10 (.tup us9)=H10 at s10 e10q;refine⟨smn 2,fun q11 hq11=>?_⟩;have s11:=ao hq11 (.tup [.ref q8,.ref q10]);have sA:=s10.trans s11;have sB:=s8.trans sA;refine k q11 q8 q10 ks7 al9 _ ak ⟨q8,us7,rfl,sA _ _ e8q,dn7.same sB⟩ ⟨q10,us9,rfl,s11 _ _ e10q,dn9.same sA⟩ ?_ (p6.same sB) (o6.trans (Old.of sB));exact Fp hL hR hg hnd hkg (by lia) pm0 pm1 pk7 up7 hsub pa9 up9
   ·rintro i σ' H6 hi ⟨v,al,rfl,e6c,e6q,e6k,dn6,hsub,p6,o6⟩;have hi':i<(ra++rb).length:=by rwa [Xa] at hi
    have hat':((ra++rb).map mkT)[i]?=some (mkT (ra++rb)[i]):=SJ hi';refine⟨⟨_,_,SqL.of e6q,hat'⟩,?_⟩;rintro y H'' ⟨rfl,hy⟩;have ey:y=mkT (ra++rb)[i]:=WT ((hy _ (SqL.of e6q)).symm.trans hat');subst ey;have htk:(ra++rb).take (i+1)=(ra++rb).take i++[(ra++rb)[i]]:=by
     rw[take_add_one,Wr hi']
     rfl
    refine gN ?_;refine lB (σ:=[some (.ref d),some (mkT (ra++rb)[i])]) (i:=0) (m:=3) rfl p6 (by decide) (by decide) fun r7 H7 c0 c1 p7 o7=>?_
    have k7:=cX p6 o7;have e7c:H7 lc=_:=o7 lc _ e6c ncd ncl;have e7q:H7 lq=_:=o7 lq _ e6q nqd nql;have e7k:H7 lk=_:=o7 lk _ e6k nkd nkl;refine⟨rfl,_,rfl,?_⟩;refine eU (fun z=>?_) (fun z=>?_)
    ·refine⟨_,rfl,_,e7c,?_,_,al++[(ra++rb)[i]],rfl,?_,(aF ncq.symm).trans e7q,(aF nck.symm).trans e7k,?_,?_,p7.upd ncd ncl,(o6.trans o7).free hlcH⟩
     ·rw[Xa];have:=hsub.length_le;rw[length_take,W0] at this;exact aH (by lia)
     ·rw[ak,map_append]
      rfl
     ·exact(dn6.keepT k7).keepT (jF e7c)
     ·rw[htk];exact hsub.append (List.Sublist.refl _)
    ·refine⟨_,al,rfl,e7c,e7q,e7k,dn6.keepT k7,?_,p7,o6.trans o7⟩;rw[htk];exact hsub.trans (sublist_append_left _ _)
 ·rintro i σ' H1 hi ⟨v,as,rfl,ea,s1,hal,hand,hfr,hat⟩;obtain⟨qs,ws,pq,hyi,hq,hpq,hdq,hql⟩:∃ qs ws pq,([V.ref pl,V.ref pr]:List V)[i]?=some (.ref pq)/\[L,R][i]?=some qs/\H pq=some (.tup ws)/\bL H ws (qs.map bH)/\qs.length<=12:=by
   match i,hi with
   | 0,_=>exact⟨L,ls,pl,rfl,rfl,hpl,hdl,hL⟩
   | 1,_=>exact⟨R,rs,pr,rfl,rfl,hpr,hdr,hR⟩
  refine⟨⟨_,_,SqT.of (s1 _ _ ep),hyi⟩,?_⟩;rintro y H'' ⟨rfl,hy⟩;have ey:y=.ref pq:=WT ((hy _ (SqT.of (s1 _ _ ep))).symm.trans hyi);subst ey;have hul:=hdq.len;rw[Xa] at hul;refine gN (Fe (rY ?_));refine⟨_,rfl,pq,rfl,⟨_,SqT.of (s1 _ _ hpq)⟩,fun lc hlc=>?_⟩;refine iw (J:=Itt K pq) (l:=lc) ws.length (fun i σ' H'=>∃ v,σ'=[v]/\H'=upd H'' lc (.lst (bO (qs.take i)))) ⟨none,rfl,rfl⟩ ?_ ?_
  ·rintro σ' H2 ⟨v,rfl,rfl⟩;have s2:=ao hlc (.lst (bO (qs.take ws.length)));refine⟨⟨_,SqT.of (s2 _ _ (s1 _ _ hpq)),Wu _⟩,?_⟩;have nca:la≠lc:=aD ea hlc;have hlcH:H lc=none:=same_none s1 hlc;have hnew:lc ∉ as:=fun z=>by
    obtain⟨j,hj,e⟩:=mem_iff_getElem.mp z;have hj2:j<2:=by lia
    have hj3:∃ q,[L,R][j]?=some q:=by
     match j,hj2 with
     | 0,_=>exact⟨_,rfl⟩
     | 1,_=>exact⟨_,rfl⟩
    obtain⟨q,hq'⟩:=hj3;have:=hat j lc q (by rw[Wr hj,e]) hq';rw[hlc] at this;cases this
   refine⟨_,s2 _ _ ea,by rw[Xa];exact aH (by lia),_,as++[lc],rfl,?_,?_,by rw[W0,hal];rfl,?_,?_,?_⟩
   ·rw[ak,map_append]
    rfl
   ·intro c o z;rw[aF (aD z hla)];exact s2 _ _ (s1 _ _ z)
   ·rw[nodup_append];exact⟨hand,by simp,fun a ha b hb e=>hnew (by rw[mem_singleton.mp hb] at e;rw[← e];exact ha)⟩
   ·intro l hl;rcases mem_append.mp hl with z | z
    ·exact hfr l z
    ·rw[mem_singleton.mp z];exact⟨hlcH,nca.symm⟩
   ·intro j l q hj hjq;rcases Nat.lt_or_ge j as.length with hlt | hge
    ·rw[getElem?_append_left hlt] at hj;have hne:l≠la:=(hfr l (W2 hj)).2;rw[aF hne];exact s2 _ _ (hat j l q hj hjq)
    ·rw[getElem?_append_right hge] at hj;have hj0:j=as.length:=by
      have:=(Wt.mp hj).1;simp at this;lia
     subst hj0;simp at hj;subst hj;rw[aF nca.symm,ak];rw[hal] at hjq;rw[hq] at hjq;injection hjq with hjq;subst hjq;rw[hul,take_length]
  ·rintro i' σ' H2 hi' ⟨v,rfl,rfl⟩;have s2:=ao hlc (.lst (bO (qs.take i')));have hat':ws[i']?=some ws[i']:=Wr hi';refine⟨⟨_,_,SqT.of (s2 _ _ (s1 _ _ hpq)),hat'⟩,?_⟩;rintro y H'' ⟨rfl,hy⟩;have ey:y=ws[i']:=WT ((hy _ (SqT.of (s2 _ _ (s1 _ _ hpq)))).symm.trans hat');have hni:i'<qs.length:=by lia
   obtain⟨dd,hdd,dy⟩:=hdq.at_ hat';rw[← ey] at dy;rw[W8,Wr hni] at hdd;have edd:bH qs[i']=dd:=WT hdd;subst edd;obtain⟨b,bs,rfl,hb,hbd⟩:=aN (dy.same (s1.trans s2));obtain⟨c0,cs,rfl⟩:∃ c0 cs,bs=c0::cs:=by
    cases bs with
    | nil=>exact hbd.elim
    | cons c0 cs=>exact⟨c0,cs,rfl⟩
   have ec:c0=mkT qs[i'].1:=hbd.1;subst ec;refine gN (Fe (rY ?_));refine⟨_,rfl,b,_,_,_,rfl,rfl,SqT.of hb,bC _ _,_,ak,?_,_,rfl,?_⟩
   ·rw[bO,Xa,length_take];exact aH (by lia)
   ·rw[jU,take_add_one,Wr hni,bO,bO,map_append]
    rfl
end
def Iz:Sp:=fun vs H Q _=>∃ d lo l xs,vs=[.ref d,.ref l]/\bG d lo H/\H l=some (.lst (xs.map mkT))/\l≠d/\l≠lo/\zp xs /\
 ∀(q:Addr)(L R:List Prt)(ks:List Lnk)(al rest:Nms)(H':Hp),Den H' (.ref q) (eE L R ks al)->Fj L R ks al->L.length<=12->R.length<=12->xs.Perm ((L++R).map (·.1)++rest)->H' l=some (.lst (rest.map mkT))->bG d lo H'->jc d lo l H H'->Q (.ref q) H'
section
variable {P:Program}{w:World}{K:W.Frag}{mg:Str->Option Value}{base:Heap}
def Ii:aR ["_law_pot_here","_law_names_here","_law_sides_here"] ["_law_pot_here","_law_names_here"] (aC Fv):=⟨rfl,rfl,rfl,by decide +kernel,rfl,by decide +kernel,by decide +kernel⟩
def O5(h:Has K mg "_law_book" Fv ["_law_pot_here","_law_names_here"])(Vb:Cal P w K mg base "_law_sides" 3 ["_law_pot_here","_law_names_here"] Ej)(Vc:Cal P w K mg base "_law_stood" 4 ["_law_pot_here","_law_sides_here"] Am):Cal P w K mg base "_law_book" 5 ["_law_pot_here","_law_names_here"] Iz:=by
 refine h.mk' Ii (fun vs H Q E hs=>?_) (fun f cdv A outer s H vs Q E hr hs=>?_)
 ·obtain⟨d,lo,l,xs,rfl,_⟩:=hs
  rfl
 obtain⟨d,lo,l,xs,rfl,hp,hl,nd,nl,⟨hxl,hxn,hxm⟩,k⟩:=hs;refine⟨_,(au (aL (i:=2) Ii.nd rfl (Or.inl rfl) (aM Vb hr (by decide) rfl (aj (pv 0) (aj (pv 1) aq))))
  (aB (aW (bF jr (pv 2) (aM Vc hr (by decide) rfl (aj (pv 0) (aj (pv 2) aq))))))),?_⟩
 refine⟨_,rfl,_,rfl,d,lo,l,xs,rfl,hp,hl,nd,nl,by lia,by lia,hxm,fun q Ps rest H1 dn hPl hPg hpm e1 p1 o1=>?_⟩;obtain⟨L,R,rfl⟩:∃ L R,Ps=[L,R]:=by
  match Ps,hPl with
  | [L,R],_=>exact⟨L,R,rfl⟩
 have hnd:((L++R).map (·.1)).Nodup:=by
  have:=(hpm.nodup_iff.mp hxn).sublist (sublist_append_left _ _)
  simpa using this
 have hg:∀ p∈L++R,vW p:=fun p hp'=>by
  rcases mem_append.mp hp' with z | z
  ·exact(hPg L (.head _)).2 p z
  ·exact(hPg R (.tail _ (.head _))).2 p z
 refine⟨_,rfl,_,rfl,_,rfl,d,lo,_,L,R,rfl,p1,dn,(hPg L (.head _)).1,(hPg R (.tail _ (.head _))).1,hg,hnd,fun q2 a b ks al H2 e2 da db gb p2 o2=>?_⟩;obtain⟨q',us,eq,eq1,hd⟩:=aN dn;injection eq with eq;subst eq;obtain⟨b0,b1,rfl⟩:∃ b0 b1,us=[b0,b1]:=by
  match us,hd with
  | [b0,b1],_=>exact⟨b0,b1,rfl⟩
  | [],h=>exact h.elim
  | [_],h=>exact h.2.elim
  | _::_::_::_,h=>exact h.2.2.elim
 obtain⟨pl,ls,rfl,hpl,hdl⟩:=aN hd.1;obtain⟨pr,rs,rfl,hpr,hdr⟩:=aN hd.2.1;have k2:=cX p1 o2;obtain⟨a',ws,ea,ha,hda⟩:=aN da;injection ea with ea;subst ea;obtain⟨b',bs,eb,hb,hdb⟩:=aN db;injection eb with eb;subst eb;rw[zF hdb] at hb;refine⟨q,q2,_,_,rfl,rfl,k2 _ _ eq1,e2,smn 4,fun q3 H3 s3 e3=>?_⟩;refine k q3 L R ks al rest H3 ⟨q3,_,rfl,e3,⟨pl,ls,rfl,s3 _ _ (k2 _ _ hpl),(hdl.keepT k2).same s3⟩,⟨pr,rs,rfl,s3 _ _ (k2 _ _ hpr),(hdr.keepT k2).same s3⟩,⟨a,ws,rfl,s3 _ _ ha,hda.same s3⟩,⟨b,_,rfl,s3 _ _ hb,cC H3 al⟩,trivial⟩ gb (hPg L (.head _)).1 (hPg R (.tail _ (.head _))).1 (by simpa using hpm) (s3 _ _ (o2 _ _ e1 nd nl)) (p2.same s3) ((o1.trans (jc.of2 o2)).trans (jc.of s3))
end
structure Md where
 m:Addr
 dt:Addr
 dw:Addr
 lr:Addr
 l0:Addr
 l1:Addr
 lk:Addr
 la:Addr
 W:List Addr
 b:Nat
def mdK(M:Md):List (Key × V):=[(Sum.inr "text",.ref M.dt),(Sum.inr "when",.ref M.dw),(Sum.inr "rows",.ref M.lr),(Sum.inr "links",.ref M.lk),(Sum.inr "alone",.ref M.la)]
def nk(x:List Nat):Key:=Sum.inr ⟨x.toArray⟩
def Ib(h:nk a=nk b):a=b:=by
 injection h with h;injection h with h;exact Array.mk.inj h
def Md.ln(M:Md)(n:Nat):Addr:=if n=0 then M.l0 else M.l1
def Md.all(M:Md):List Addr:=[M.m,M.dt,M.dw,M.lr,M.l0,M.l1,M.lk,M.la]
structure oR(T:List Addr)(H:Hp)(v:V)(k:Lnk):Prop where
 ex:∃(q a b c d:Addr),v=.ref q/\q ∉ T/\a ∉ T/\b ∉ T/\c ∉ T/\d ∉ T/\H q=some (.lst [.ref a,.ref b,.int k.2.2.1,.ref c,.ref d])/\H a=some (.lst (k.1.map mkT))/\H b=some (.lst (k.2.1.map mkT))/\H c=some (.lst (k.2.2.2.1.map V.int))/\H d=some (.lst (k.2.2.2.2.map V.int))
structure Qw(H:Hp)(dt:Addr)(P:List Prt):Prop where
 ex:∃ kt:List (Key × V),H dt=some (.dK kt)/\kt.length<=P.length/\(∀ p∈P,gk kt (nk p.1)=some (mkT p.2.1))/\∀ k v,gk kt k=some v->∃ p∈P,k=nk p.1/\v=mkT p.2.1
structure Qo(H:Hp)(dw:Addr)(W:List Addr)(B:Nat)(P:List Prt):Prop where
 ex:∃ kt:List (Key × V),H dw=some (.dK kt)/\kt.length<=P.length/\W.length=P.length/\∀(i:Nat)(p:Prt),P[i]?=some p->∃(l:Addr)(ws:List Int),W[i]?=some l/\gk kt (nk p.1)=some (.ref l)/\H l=some (.lst (ws.map V.int))/\ws.length<=B/\∀ k,k∈ws↔k∈p.2.2
structure TxM(H:Hp)(dt:Addr)(P:List Prt):Prop where
 ex:∃ kt:List (Key × V),H dt=some (.dK kt)/\kt.length<=120/\∀ p∈P,gk kt (nk p.1)=some (mkT p.2.1)
structure WhM(H:Hp)(dw:Addr)(W:List Addr)(B:Nat)(P:List Prt):Prop where
 ex:∃ kt:List (Key × V),H dw=some (.dK kt)/\kt.length<=120/\W.length=P.length/\∀(i:Nat)(p:Prt),P[i]?=some p->∃(l:Addr)(ws:List Int),W[i]?=some l/\gk kt (nk p.1)=some (.ref l)/\H l=some (.lst (ws.map V.int))/\ws.length<=B/\∀ k,k∈ws↔k∈p.2.2
structure yD(T:List Addr)(H:Hp)(lk:Addr)(ks:List Lnk):Prop where
 ex:∃ us:List V,H lk=some (.lst us)/\us.length=ks.length/\us.Nodup/\∀(i:Nat)(u:V)(k:Lnk),us[i]?=some u->ks[i]?=some k->oR T H u k
structure dO(S:List Addr)(H:Hp)(M:Md)(L R:List Prt)(ks:List Lnk)(al:Nms):Prop where
 m:H M.m=some (.dK (mdK M))
 t:TxM H M.dt (L++R)
 w:WhM H M.dw M.W M.b (L++R)
 lr:H M.lr=some (.lst [.ref M.l0,.ref M.l1])
 l0:H M.l0=some (.lst (bO L))
 l1:H M.l1=some (.lst (bO R))
 lk:yD (M.all++M.W++S) H M.lk ks
 la:H M.la=some (.lst (al.map mkT))
 off:∀ a∈M.all,a ∉ S
 nd:M.all.Nodup
 wo:∀ a∈M.W,a ∉ S/\a ∉ M.all
 wn:M.W.Nodup
def Keep(S:List Addr)(H H':Hp):Prop:=∀ a o,H a=some o->a ∉ S->H' a=some o
def Keep.of(s:Same H H'):Keep S H H':=fun a o h _=>s a o h
def Keep.old{d lo:Addr}{H H':Hp}(o:Old d lo H H'):Keep [d,lo] H H':=fun a u h n=>o a u h (fun z=>n (by rw[z];exact .head _)) (fun z=>n (by rw[z];exact .tail _ (.head _)))
def Keep.mono(h:Keep S H H')(hs:∀ a∈S,a∈T):Keep T H H':=fun a o e n=>h a o e fun z=>n (hs a z)
def oR.keep(h:oR T H v k)(s:Keep S H H')(hs:∀ a∈S,a∈T):oR T H' v k:=by
 obtain⟨q,a,b,c,d,e,n1,n2,n3,n4,n5,e1,e2,e3,e4,e5⟩:=h.ex;exact⟨q,a,b,c,d,e,n1,n2,n3,n4,n5,s _ _ e1 fun z=>n1 (hs _ z),s _ _ e2 fun z=>n2 (hs _ z),s _ _ e3 fun z=>n3 (hs _ z),s _ _ e4 fun z=>n4 (hs _ z),s _ _ e5 fun z=>n5 (hs _ z)⟩
def yD.keep(h:yD T H lk ks)(s:Keep S H H')(hs:∀ a∈S,a∈T)(hl:lk ∉ S):yD T H' lk ks:=by
 obtain⟨us,e,hn,hnd,f⟩:=h.ex;exact⟨us,s _ _ e hl,hn,hnd,fun i u k hu hk=>(f i u k hu hk).keep s hs⟩
def WhM.keep(h:WhM H dw W B P)(s:Keep S H H')(hs:∀ a∈W,a ∉ S)(hl:dw ∉ S):WhM H' dw W B P:=by
 obtain⟨kt,e,hn,hw,f⟩:=h.ex;refine⟨kt,s _ _ e hl,hn,hw,fun i p hp=>?_⟩;obtain⟨l,ws,e1,e2,e3,e4⟩:=f i p hp;exact⟨l,ws,e1,e2,s _ _ e3 (hs _ (W2 e1)),e4⟩
def dO.keep(h:dO S H M L R ks al)(s:Keep S H H'):dO S H' M L R ks al:=by
 have of:∀ {a:Addr}{o:HO},a∈M.all->H a=some o->H' a=some o:=fun ha e=>s _ _ e (h.off _ ha)
 have hs:∀ a∈S,a∈M.all++M.W++S:=fun a z=>W4 _ z
 obtain⟨kt,e,hn,f⟩:=h.t.ex;refine⟨of (by simp[Md.all]) h.m,⟨kt,of (by simp[Md.all]) e,hn,f⟩,h.w.keep s (fun a ha=>(h.wo a ha).1) (h.off _ (by simp[Md.all])),of (by simp[Md.all]) h.lr,of (by simp[Md.all]) h.l0,of (by simp[Md.all]) h.l1,h.lk.keep s hs (h.off _ (by simp[Md.all])),of (by simp[Md.all]) h.la,h.off,h.nd,h.wo,h.wn⟩
def dO.same(h:dO S H M L R ks al)(s:Same H H'):dO S H' M L R ks al:=h.keep (.of s)
def mk1:(Sum.inr "text" : Key)≠(Sum.inr "when" : Key):=by decide +kernel
def mk2:(Sum.inr "text" : Key)≠(Sum.inr "rows" : Key):=by decide +kernel
def mk3:(Sum.inr "text" : Key)≠(Sum.inr "links" : Key):=by decide +kernel
def mk4:(Sum.inr "text" : Key)≠(Sum.inr "alone" : Key):=by decide +kernel
def mk5:(Sum.inr "when" : Key)≠(Sum.inr "rows" : Key):=by decide +kernel
def mk6:(Sum.inr "when" : Key)≠(Sum.inr "links" : Key):=by decide +kernel
def mk7:(Sum.inr "when" : Key)≠(Sum.inr "alone" : Key):=by decide +kernel
def mk8:(Sum.inr "rows" : Key)≠(Sum.inr "links" : Key):=by decide +kernel
def mk9:(Sum.inr "rows" : Key)≠(Sum.inr "alone" : Key):=by decide +kernel
def mk0:(Sum.inr "links" : Key)≠(Sum.inr "alone" : Key):=by decide +kernel
def v_text(M:Md):gk (mdK M) (Sum.inr "text" : Key)=some (V.ref M.dt):=(bD rfl)
def O7(h:H M.m=some (.dK (mdK M))):iG H M.m (.str "text") (some (.ref M.dt)):=by
 rw[← v_text M];exact iG.k (k:=(Sum.inr _:Key)) h
def O6(M:Md):gk (mdK M) (Sum.inr "when" : Key)=some (V.ref M.dw):=((aX mk1).trans (bD rfl))
def Nv(h:H M.m=some (.dK (mdK M))):iG H M.m (.str "when") (some (.ref M.dw)):=by
 rw[← O6 M];exact iG.k (k:=(Sum.inr _:Key)) h
def N5(M:Md):gk (mdK M) (Sum.inr "rows" : Key)=some (V.ref M.lr):=((aX mk2).trans ((aX mk5).trans (bD rfl)))
def nQ(h:H M.m=some (.dK (mdK M))):iG H M.m (.str "rows") (some (.ref M.lr)):=by
 rw[← N5 M];exact iG.k (k:=(Sum.inr _:Key)) h
def Ks(M:Md):gk (mdK M) (Sum.inr "links" : Key)=some (V.ref M.lk):=((aX mk3).trans ((aX mk6).trans ((aX mk8).trans (bD rfl))))
def qw(h:H M.m=some (.dK (mdK M))):iG H M.m (.str "links") (some (.ref M.lk)):=by
 rw[← Ks M];exact iG.k (k:=(Sum.inr _:Key)) h
def KQ(M:Md):gk (mdK M) (Sum.inr "alone" : Key)=some (V.ref M.la):=((aX mk4).trans ((aX mk7).trans ((aX mk9).trans ((aX mk0).trans (bD rfl)))))
def pX(h:H M.m=some (.dK (mdK M))):iG H M.m (.str "alone") (some (.ref M.la)):=by
 rw[← KQ M];exact iG.k (k:=(Sum.inr _:Key)) h
def gA(L R:List Prt)(x:List Nat):V:=if (cJ (L++R) x).isSome=true then .int (bf L x:Nat) else .non
def wZ:Sp:=fun vs H Q _=>∃ S M L R ks al x,vs=[.ref M.m,mkT x]/\dO S H M L R ks al/\∀ H',Same H H'->Q (gA L R x) H'
def mj(h:dO S H M L R ks al)(hn:n<=1):atI [V.ref M.l0,V.ref M.l1] (n:Nat)=some (.ref (M.ln n))/\H (M.ln n)=some (.lst (bO (sdP n L R))):=by
 match n,hn with
 | 0,_=>exact⟨bC _ _,h.l0⟩
 | 1,_=>exact⟨aZ (xs:=[V.ref M.l0,V.ref M.l1]) (j:=1) rfl,h.l1⟩
def Nr(h:x∈L.map (·.1)):gA L R x=.int (0:Nat):=by
 have h1:(cJ L x).isSome=true:=by rw[bW];exact W9 h
 have h2:(cJ (L++R) x).isSome=true:=by rw[bW];exact W9 (by rw[map_append];exact W5 _ h)
 unfold gA bf;rw[if_pos h2,if_pos h1]
def Ni(h0:x ∉ L.map (·.1))(h:x∈R.map (·.1)):gA L R x=.int (1:Nat):=by
 have h1:¬ (cJ L x).isSome=true:=by rw[bW];simpa using h0
 have h2:(cJ (L++R) x).isSome=true:=by rw[bW];exact W9 (by rw[map_append];exact W4 _ h)
 unfold gA bf;rw[if_pos h2,if_neg h1]
def N6(h0:x ∉ L.map (·.1))(h:x ∉ R.map (·.1)):gA L R x=.non:=by
 have h2:¬ (cJ (L++R) x).isSome=true:=by
  rw[bW,decide_eq_true_eq,map_append,mem_append];exact fun z=>z.elim h0 h
 unfold gA;rw[if_neg h2]
def eV(x:List Nat)(k:Lnk):Bool:=decide (x∈k.1) || decide (x∈k.2.1)
def LkU(H:Hp)(M:Md)(ks:List Lnk)(x:List Nat)(u:V):Prop :=
 (u=.non/\∀ k∈ks,eV x k=false)\/∃ i us k,H M.lk=some (.lst us)/\us[i]?=some u/\ks[i]?=some k/\eV x k=true/\∀ j∈ks.take i,eV x j=false
def yj:Sp:=fun vs H Q _=>∃ S M L R ks al x,vs=[.ref M.m,mkT x]/\dO S H M L R ks al/\∀ u,LkU H M ks x u->Q u H
section
variable {P:Program}{w:World}{K:W.Frag}{mg:Str->Option Value}{base:Heap}
def Iu:aR ["_law_model_here","_law_name","_law_side_here"] ["_law_model_here","_law_name"] (aC G7):=⟨rfl,rfl,rfl,by decide +kernel,rfl,by decide +kernel,by decide +kernel⟩
def Nq(h:Has K mg "_law_side" G7 ["_law_model_here","_law_name"])  : Cal P w K mg base "_law_side" 1 ["_law_model_here","_law_name"] wZ:=by
 refine h.mk' Iu (fun vs H Q E hs=>?_) (fun f cdv A outer s H vs Q E hr hs=>?_)
 ·obtain⟨S,M,L,R,ks,al,x,rfl,_⟩:=hs
  rfl
 obtain⟨S,M,L,R,ks,al,x,rfl,hM,k⟩:=hs;refine⟨_,(au (dU PassesOwn.never rfl (fY (cu (aj aA (aj aA aq)))) (aP (i:=2) Iu.nd rfl (Or.inl rfl))
   (aB (cF (aO dJ (pv 1) (bx bI (bw (bU hr) (pv 0) aG (fun _ _=>rfl)) (pv 2) (fun _ _=>rfl)) (by with_unfolding_all rfl))
   (aB (aW (pv 2)))
   bB)))
  (aB (aW cU))),?_⟩
 refine⟨smn 2,fun tt htt=>⟨tt,rfl,⟨_,SqT.of ak⟩,?_⟩⟩;have s1:=ao htt (.tup [.int 0,.int 1]);have ett:(upd H tt (.tup [.int 0,.int 1])) tt=some (.tup [.int 0,.int 1]):=ak;generalize upd H tt (.tup [.int 0,.int 1])=H1 at s1 ett ⊢;have hM1:=hM.same s1;refine jK (K:=K) (a:=tt) (xs:=[.int 0,.int 1]) (fun i σ H2=>∃ v2:Option V,σ=[some (.ref M.m),some (mkT x),v2]/\H2=H1/\∀ j,j<i->x ∉ (sdP j L R).map (·.1)) ⟨_,rfl,rfl,fun j hj=>by lia⟩ ?_ ?_ ?_
 ·rintro i σ H2 _ ⟨_,_,rfl,_⟩;exact SqT.of ett
 ·rintro i y σ H2 hi ⟨v2,rfl,rfl,hno⟩;obtain⟨hi1,rfl⟩:i<=1/\y=.int (i:Nat):=by
   match i,hi with
   | 0,hi=>exact⟨by lia,(WT hi).symm⟩
   | 1,hi=>exact⟨by lia,(WT hi).symm⟩
  obtain⟨hat,hrow⟩:=mj hM1 hi1;refine gN ⟨_,rfl,_,rfl,M.m,_,rfl,nQ hM1.m,_,rfl,M.lr,_,_,_,rfl,rfl,SqL.of hM1.lr,hat,M.ln i,_,rfl,.inl (SqL.of hrow),rfl,by rw[kJ];exact gD _,_,rfl,?_⟩;rw[show(if false=true then !inV (mkT x) (bO (sdP i L R)) else inV (mkT x) (bO (sdP i L R)))=inV (mkT x) (bO (sdP i L R)) from rfl,kJ,pD];refine eU (fun z=>?_) (fun z=>?_)
  ·have z:=W3 z;have e:gA L R x=.int (i:Nat):=by
    match i,hi1,z,hno with
    | 0,_,z,_=>exact Nr z
    | 1,_,z,hno=>exact Ni (hno 0 (by lia)) z
   refine⟨_,rfl,?_⟩;have:=k H2 s1;rw[e] at this;exact this
  ·refine⟨_,rfl,rfl,fun j hj=>?_⟩;by_cases e:j=i
   ·rw[e];exact fun q=>z (W9 q)
   ·exact hno j (by lia)
 ·rintro σ H2 ⟨v2,rfl,rfl,hno⟩;have:=k H2 s1;rw[N6 (L:=L) (R:=R) (hno 0 (by show 0<2;lia)) (hno 1 (by show 1<2;lia))] at this;exact this
def Io:aR ["_law_model_here","_law_name","_law_link_here"] ["_law_model_here","_law_name"] (aC Hs):=⟨rfl,rfl,rfl,by decide +kernel,rfl,by decide +kernel,by decide +kernel⟩
def Mj(h:Has K mg "_law_link" Hs ["_law_model_here","_law_name"])  : Cal P w K mg base "_law_link" 1 ["_law_model_here","_law_name"] yj:=by
 refine h.mk' Io (fun vs H Q E hs=>?_) (fun f cdv A outer s H vs Q E hr hs=>?_)
 ·obtain⟨S,M,L,R,ks,al,x,rfl,_⟩:=hs
  rfl
 obtain⟨S,M,L,R,ks,al,x,rfl,hM,k⟩:=hs;refine⟨_,(au (dU PassesOwn.never rfl (fB (bw (bU hr) (pv 0) aG (fun _ _=>rfl))) (aP (i:=2) Io.nd rfl (Or.inl rfl))
   (aB (cF (PW.pt (vG (aO dJ (pv 1) (bx bI (pv 2) aA (fun _ _=>rfl)) (by with_unfolding_all rfl)) (mR (aO dJ (pv 1) (bx bI (pv 2) aA (fun _ _=>rfl)) (by with_unfolding_all rfl)))))
   (aB (aW (pv 2)))
   bB)))
  (aB (aW cU))),?_⟩
 obtain⟨us,hus,hul,hnd,hat⟩:=hM.lk.ex;refine⟨_,rfl,M.m,_,rfl,qw hM.m,M.lk,rfl,⟨_,SqL.of hus⟩,?_⟩;refine iM (K:=K) (a:=M.lk) (xs:=us) (fun i σ H2=>∃ v2:Option V,σ=[some (.ref M.m),some (mkT x),v2]/\H2=H/\∀ j∈ks.take i,eV x j=false) ⟨_,rfl,rfl,fun j hj=>by rw[take_zero] at hj;cases hj⟩ ?_ ?_ ?_
 ·rintro i σ H2 _ ⟨_,_,rfl,_⟩;exact SqL.of hus
 ·rintro i y σ H2 hi ⟨v2,rfl,rfl,hno⟩;have hil:i<ks.length:=by
   have:=(Wt.mp hi).1;lia
  obtain⟨q,a,b,c,d,rfl,n1,n2,n3,n4,n5,e1,e2,e3,e4,e5⟩:=(hat i y _ hi (Wr hil)).ex;have ix:∀ {j:Nat}{yy:V},[V.ref a,.ref b,.int ks[i].2.2.1,.ref c,.ref d][j]?=some yy->atI [V.ref a,.ref b,.int ks[i].2.2.1,.ref c,.ref d] (j:Nat)=some yy:=fun h=>aZ h
  have htk:=take_one (bZ hil);have fin:eV x ks[i]=true->LkU H2 M ks x (.ref q):=fun z=>.inr ⟨i,us,ks[i],hus,hi,Wr hil,z,hno⟩
  refine gN ⟨_,rfl,_,rfl,q,_,_,_,rfl,rfl,SqL.of e1,ix (j:=0) rfl,a,_,rfl,.inl (SqL.of e2),rfl,gD _,_,rfl,?_⟩;rw[show(if false=true then !inV (mkT x) (ks[i].1.map mkT) else inV (mkT x) (ks[i].1.map mkT))=inV (mkT x) (ks[i].1.map mkT) from rfl,pD];refine eU (fun z=>?_) (fun z=>?_)
  ·exact⟨_,rfl,k _ (fin (by unfold eV;rw[z,Bool.true_or]))⟩
  refine⟨_,rfl,_,rfl,q,_,_,_,rfl,rfl,SqL.of e1,ix (j:=1) rfl,b,_,rfl,.inl (SqL.of e3),rfl,gD _,_,rfl,?_⟩;rw[show(if false=true then !inV (mkT x) (ks[i].2.1.map mkT) else inV (mkT x) (ks[i].2.1.map mkT))=inV (mkT x) (ks[i].2.1.map mkT) from rfl,pD];refine eU (fun z2=>?_) (fun z2=>?_)
  ·exact⟨_,rfl,k _ (fin (by unfold eV;rw[z2,Bool.or_true]))⟩
  ·refine⟨_,rfl,rfl,fun j hj=>?_⟩;rw[htk] at hj;rcases mem_append.mp hj with h | h
   ·exact hno j h
   ·rw[mem_singleton.mp h];unfold eV;rw[Bool.eq_false_iff.mpr z,Bool.eq_false_iff.mpr z2]
    rfl
 ·rintro σ H2 ⟨v2,rfl,rfl,hno⟩;rw[hul,take_length] at hno;exact k _ (.inl ⟨rfl,hno⟩)
end
def wdE:Option Nat->Str
 | none=>Str.ofString ""
 | some 0=>Str.ofString "NoPart"
 | some 1=>Str.ofString "NoPlace"
 | some 2=>Str.ofString "Twice"
 | some 3=>Str.ofString "Linked"
 | _=>Str.ofString "Apart"
def Liv(S:List Addr)(H:Hp):Prop:=∀ a∈S,∃ o,H a=some o
def dO.live(h:dO S H M L R ks al):Liv (M.all++M.W) H:=by
 obtain⟨kt,e,_⟩:=h.t.ex;obtain⟨kw,ew,_,hwl,f⟩:=h.w.ex;obtain⟨us,eu,_⟩:=h.lk.ex;intro a ha;rcases mem_append.mp ha with ha | ha
 ·simp only[Md.all,mem_cons,not_mem_nil,or_false] at ha;rcases ha with rfl | rfl | rfl | rfl | rfl | rfl | rfl | rfl
  ·exact⟨_,h.m⟩
  ·exact⟨_,e⟩
  ·exact⟨_,ew⟩
  ·exact⟨_,h.lr⟩
  ·exact⟨_,h.l0⟩
  ·exact⟨_,h.l1⟩
  ·exact⟨_,eu⟩
  ·exact⟨_,h.la⟩
 ·obtain⟨i,hi,rfl⟩:=mem_iff_getElem.mp ha;obtain⟨l,ws,e1,_,e3,_⟩:=f i _ (Wr (show i<(L++R).length by lia));rw[Wr hi] at e1;cases e1;exact⟨_,e3⟩
inductive Sd
 | loose
 | step
def Sd.wd:Sd->Str
 | .loose=>Str.ofString "loose"
 | .step=>Str.ofString "step"
def Hq(L R:List Prt)(ks:List Lnk)(al:Nms)(x:List Nat):Sd->Option Nat
 | .loose=>if isP L R x then (if ks.all (fun k=>!eV x k) then some 4 else none) else some 0
 | .step=>if isP L R x then (if ks.all (fun k=>!eV x k) then some 4 else none) else some 0
def Ox(M:Md)(H H':Hp):Prop:=∀ a o,H a=some o->a ∉ M.all->(∀ a' b' t c d,o≠.lst [.ref a',.ref b',.int t,.ref c,.ref d])->H' a=some o
def StA(ks:List Lnk)(al:Nms)(x:List Nat)(t:Int)(ks':List Lnk)(al':Nms):Sd->Prop
 | .loose=>al'=al/\∀(i:Nat)(k:Lnk),ks[i]?=some k->eV x k=true->(∀ j∈ks.take i,eV x j=false)->ks'=ks.filter fun j=>decide (j≠k)
 | .step=>al'=al/\∀(i:Nat)(k:Lnk),ks[i]?=some k->eV x k=true->(∀ j∈ks.take i,eV x j=false)->ks'=ks.set i (k.1,k.2.1,t,[],[])
def Inn(H:Hp)(q:V)(m:Nat)(ad:Addr):Prop:=∃ qa l,q=.ref qa/\H qa=some (.lst l)/\l[m]?=some (.ref ad)
structure Hz(H:Hp)(us:List V):Prop where
 ap:us.Pairwise fun q q'=>∀ m m' ad,Inn H q m ad->¬ Inn H q' m' ad
 on:∀ q∈us,∀ m m' ad,Inn H q m ad->Inn H q m' ad->m=m'
structure rA(H:Hp)(M:Md):Prop where
 ex:∃ us,H M.lk=some (.lst us)/\Hz H us
def Hz.keep(h:Hz H us)(hs:us'.Sublist us)(k:∀ q∈us',∀ m ad,Inn H' q m ad->Inn H q m ad):Hz H' us':=⟨(h.ap.sublist hs).imp_of_mem fun {a b} ha hb g m m' ad x y=>g m m' ad (k _ ha _ _ x) (k _ hb _ _ y),fun q hq m m' ad x y=>h.on q (hs.subset hq) m m' ad (k q hq _ _ x) (k q hq _ _ y)⟩
def iQ{H H':Hp}{qa:Addr}{o:HO}(e:H qa=some o)(e':H' qa=some o){m:Nat}{ad:Addr}(h:Inn H' (.ref qa) m ad):Inn H (.ref qa) m ad:=by
 obtain⟨qb,l,eq,g1,g2⟩:=h;cases eq;rw[e'] at g1;exact⟨qa,l,rfl,e.trans g1,g2⟩
def yD.at(h:yD T H lk ks)(e:H lk=some (.lst us))(hq:q∈us):∃ k:Lnk,k∈ks/\oR T H q k:=by
 obtain⟨us',e',hl,_,hat⟩:=h.ex;rw[e] at e';cases e';obtain⟨i,hi,rfl⟩:=mem_iff_getElem.mp hq;exact⟨ks[i]'(by lia),getElem_mem _,hat i _ _ (Wr hi) (Wr (by lia))⟩
def dO.sep_sub(h:dO S H M L R ks al)(hs:rA H M)(e:H M.lk=some (.lst us))(hsub:us'.Sublist us)(k:∀ a o,H a=some o->a ∉ M.all->H' a=some o):Hz H' us':=by
 obtain⟨us0,e0,s0⟩:=hs.ex;rw[e] at e0;cases e0;refine s0.keep hsub fun q hq m ad hin=>?_
 obtain⟨_,_,hL⟩:=h.lk.at e (hsub.subset hq);obtain⟨qa,a,b,c,d,rfl,n1,_,_,_,_,e1,_⟩:=hL.ex;exact iQ e1 (k _ _ e1 fun z=>n1 (W5 _ (W5 _ z))) hin
def Kr{H:Hp}{q a b c d ad:Addr}{t:Int}{m:Nat}(hq:H q=some (.lst [.ref a,.ref b,.int t,.ref c,.ref d]))(h:Inn H (.ref q) m ad):(m=0/\ad=a)\/(m=1/\ad=b)\/(m=3/\ad=c)\/(m=4/\ad=d):=by
 obtain⟨qb,l,eq,g1,g2⟩:=h;cases eq;rw[hq] at g1;cases g1
 match m,g2 with
 | 0,g2=>cases g2;exact .inl ⟨rfl,rfl⟩
 | 1,g2=>cases g2;exact .inr (.inl ⟨rfl,rfl⟩)
 | 2,g2=>cases g2
 | 3,g2=>cases g2;exact .inr (.inr (.inl ⟨rfl,rfl⟩))
 | 4,g2=>cases g2;exact .inr (.inr (.inr ⟨rfl,rfl⟩))
def oR.inn{T:List Addr}{H:Hp}{v:V}{k:Lnk}{m:Nat}{ad:Addr}(h:oR T H v k)(hi:Inn H v m ad):(∃ o,H ad=some o)/\ad ∉ T:=by
 obtain⟨q,a,b,c,d,rfl,_,n2,n3,n4,n5,e1,e2,e3,e4,e5⟩:=h.ex;rcases Kr e1 hi with⟨_,rfl⟩ | ⟨_,rfl⟩ | ⟨_,rfl⟩ | ⟨_,rfl⟩
 ·exact⟨⟨_,e2⟩,n2⟩
 ·exact⟨⟨_,e3⟩,n3⟩
 ·exact⟨⟨_,e4⟩,n4⟩
 ·exact⟨⟨_,e5⟩,n5⟩
def dO.sep_step(h:dO S H M L R ks al)(hs:rA H M){t t0:Int}(e:H M.lk=some (.lst us))(hqu:(V.ref q)∈us)(hq:H q=some (.lst [.ref a,.ref b,.int t0,.ref c0,.ref d0]))(hc:H c=none)(hd:H d=none)(hcd:c≠d)(hq':H' q=some (.lst [.ref a,.ref b,.int t,.ref c,.ref d]))(k:∀ z o,H z=some o->z≠q->H' z=some o):rA H' M:=by
 obtain⟨us0,e0,s0⟩:=hs.ex;rw[e] at e0;cases e0;obtain⟨us0,e0,_,hnd,_⟩:=h.lk.ex;rw[e] at e0;cases e0;obtain⟨_,_,hLq⟩:=h.lk.at e hqu;have i0:Inn H (.ref q) 0 a:=⟨q,_,rfl,hq,rfl⟩
 have i1:Inn H (.ref q) 1 b:=⟨q,_,rfl,hq,rfl⟩
 obtain⟨⟨_,la⟩,_⟩:=hLq.inn i0;obtain⟨⟨_,lb⟩,_⟩:=hLq.inn i1;have nq:M.lk≠q:=fun z=>by
  obtain⟨q',_,_,_,_,eq,n1,_⟩:=hLq.ex;cases eq;exact n1 (W5 _ (W5 _ (by rw[← z];simp[Md.all])))
 have ot:∀ {v:V}{m:Nat}{ad:Addr},v∈us->v≠.ref q->Inn H' v m ad->Inn H v m ad/\∃ o,H ad=some o:=fun {v m ad} hv hne hi=>by
  obtain⟨_,_,hL⟩:=h.lk.at e hv;obtain⟨qa,_,_,_,_,rfl,_,_,_,_,_,e1,_⟩:=hL.ex;have:=iQ e1 (k _ _ e1 fun z=>hne (by rw[z])) hi;exact⟨this,(hL.inn this).1⟩
 have me:∀ {m:Nat}{ad:Addr},Inn H' (.ref q) m ad->Inn H (.ref q) m ad\/H ad=none:=fun hi=>by
  rcases Kr hq' hi with⟨rfl,rfl⟩ | ⟨rfl,rfl⟩ | ⟨rfl,rfl⟩ | ⟨rfl,rfl⟩
  ·exact .inl i0
  ·exact .inl i1
  ·exact .inr hc
  ·exact .inr hd
 have no:∀ {ad:Addr},H ad=none->¬ ∃ o,H ad=some o:=fun h1 ⟨o,h2⟩=>by rw[h1] at h2;cases h2
 refine⟨us,k _ _ e nq,⟨(s0.ap.and (nodup_iff_pairwise_ne.mp hnd)).imp_of_mem fun {v v'} hv hv' g0 m m' ad x y=>?A,fun v hv m m' ad x y=>?B⟩⟩
 case A =>
  obtain⟨g,hne⟩:=g0;by_cases z:v=.ref q
  ·subst z;obtain⟨y1,y2⟩:=ot hv' (Ne.symm hne) y;rcases me x with x | x
   ·exact g m m' ad x y1
   ·exact no x y2
  ·obtain⟨x1,x2⟩:=ot hv z x;by_cases z':v'=.ref q
   ·subst z';rcases me y with y | y
    ·exact g m m' ad x1 y
    ·exact no y x2
   ·exact g m m' ad x1 (ot hv' z' y).1
 case B =>
  by_cases z:v=.ref q
  ·subst z;have ab:a≠b:=fun z=>by have:=s0.on _ hv 0 1 a i0 (by rw[z];exact i1);cases this
   have xa:∀ {u:Addr},H u=none->u≠a:=fun h1 z=>by rw[z,la] at h1;cases h1
   have xb:∀ {u:Addr},H u=none->u≠b:=fun h1 z=>by rw[z,lb] at h1;cases h1
   rcases Kr hq' x with⟨rfl,rfl⟩ | ⟨rfl,rfl⟩ | ⟨rfl,rfl⟩ | ⟨rfl,rfl⟩ <;> rcases Kr hq' y with⟨rfl,w⟩ | ⟨rfl,w⟩ | ⟨rfl,w⟩ | ⟨rfl,w⟩
   ·rfl
   ·exact absurd w ab
   ·exact absurd w.symm (xa hc)
   ·exact absurd w.symm (xa hd)
   ·exact absurd w.symm ab
   ·rfl
   ·exact absurd w.symm (xb hc)
   ·exact absurd w.symm (xb hd)
   ·exact absurd w (xa hc)
   ·exact absurd w (xb hc)
   ·rfl
   ·exact absurd w hcd
   ·exact absurd w (xa hd)
   ·exact absurd w (xb hd)
   ·exact absurd w.symm hcd
   ·rfl
  ·exact s0.on v hv m m' ad (ot hv z x).1 (ot hv z y).1
def mq:Sp:=fun vs H Q _=>∃ S M L R ks al pd t x d,vs=[.ref M.m,.ref pd]/\dO S H M L R ks al/\Liv S H/\H pd=some (.tup [.str d.wd,.int t,mkT x])/\ks.length<=900/\al.length<=900 /\
 (∀ e,Hq L R ks al x d=some e->∀ H',Same H H'->Q (.str (wdE (some e))) H') /\
 (Hq L R ks al x d=none->∀(H':Hp)(M':Md)(ks':List Lnk)(al':Nms),M'.m=M.m/\M'.b=M.b->(rA H M->rA H' M')->Ox M H H'->dO S H' M' L R ks' al'->StA ks al x t ks' al' d->Q (.str (wdE none)) H')
def mW{a:Addr}{vs:List V}{xs:Nms}(h:HO.lst (.ref a::vs)=HO.lst (xs.map mkT)):False:=by
 injection h with h;cases xs with
 | nil=>cases h
 | cons x xs=>rw[map_cons] at h;injection h with h _;cases h
def rU{a:Addr}{vs:List V}{xs:List Int}(h:HO.lst (.ref a::vs)=HO.lst (xs.map V.int)):False:=by
 injection h with h;cases xs with
 | nil=>cases h
 | cons x xs=>rw[map_cons] at h;injection h with h _;cases h
def dO.stepped(h:dO S H M L R ks al)(hS:Liv S H)(s:Same H H1){i:Nat}{t:Int}(hus:H M.lk=some (.lst us))(hi:us[i]?=some (.ref q))(hk:ks[i]?=some k)
  (eq:H q=some (.lst [.ref a,.ref b,.int k.2.2.1,.ref c0,.ref d0]))(nq:q ∉ M.all++M.W++S)(na:a ∉ M.all++M.W++S)(nb:b ∉ M.all++M.W++S)(ea:H a=some (.lst (k.1.map mkT)))(eb:H b=some (.lst (k.2.1.map mkT)))(hc:H c=none)(hd:H d=none)(ec:H1 c=some (.lst []))(ed:H1 d=some (.lst [])) :
  dO S (upd H1 q (.lst [.ref a,.ref b,.int t,.ref c,.ref d])) M L R (ks.set i (k.1,k.2.1,t,[],[])) al:=by
 have liv:∀ {z:Addr},H z=none->z ∉ M.all++M.W++S:=fun {z} hz hm=>by
  rcases mem_append.mp hm with hm | hm
  ·obtain⟨o,ho⟩:=h.live z hm;rw[hz] at ho;cases ho
  ·obtain⟨o,ho⟩:=hS z hm;rw[hz] at ho;cases ho
 have hM1:=h.same s;have kp:Keep [q] H1 (upd H1 q (.lst [.ref a,.ref b,.int t,.ref c,.ref d])):=fun z o ho hz=>by
  rw[aF (fun e=>hz (by rw[e];exact .head _))];exact ho
 have ne:∀ {z:Addr},z∈M.all->z ∉ [q]:=fun hz hm=>nq (W5 _ (W5 _ (by rw[← mem_singleton.mp hm];exact hz)))
 obtain⟨us',eu,hul,hund,hat⟩:=hM1.lk.ex;rw[s _ _ hus] at eu;cases eu;have eq1:=s _ _ eq;have nm:∀ {z:Addr}{xs:Nms},H1 z=some (.lst (xs.map mkT))->z ∉ [q]:=fun hz hm=>by
  rw[mem_singleton.mp hm,eq1] at hz;exact mW (WT hz)
 have ni:∀ {z:Addr}{xs:List Int},H1 z=some (.lst (xs.map V.int))->z ∉ [q]:=fun hz hm=>by
  rw[mem_singleton.mp hm,eq1] at hz;exact rU (WT hz)
 have nf:∀ {z:Addr},H z=none->z ∉ [q]:=fun hz hm=>by
  rw[mem_singleton.mp hm,eq] at hz;cases hz
 obtain⟨kt,et,ht1,ht2⟩:=hM1.t.ex;refine⟨kp _ _ hM1.m (ne (by simp[Md.all])),⟨kt,kp _ _ et (ne (by simp[Md.all])),ht1,ht2⟩,hM1.w.keep kp (fun z hz hm=>nq (W5 _ (W4 _ (by rw[← mem_singleton.mp hm];exact hz)))) (ne (by simp[Md.all])),kp _ _ hM1.lr (ne (by simp[Md.all])),kp _ _ hM1.l0 (ne (by simp[Md.all])),kp _ _ hM1.l1 (ne (by simp[Md.all])),⟨us,kp _ _ (s _ _ hus) (ne (by simp[Md.all])),by rw[length_set,hul],hund,fun j u k' hu hk'=>?_⟩,kp _ _ hM1.la (ne (by simp[Md.all])),h.off,h.nd,h.wo,h.wn⟩;have hil:i<ks.length:=(Wt.mp hk).1;by_cases e:i=j
 ·subst e;rw[hi] at hu;cases hu;rw[getElem?_set_self hil] at hk';cases hk';exact⟨q,a,b,c,d,rfl,nq,na,nb,liv hc,liv hd,ak,kp _ _ (s _ _ ea) (nm (s _ _ ea)),kp _ _ (s _ _ eb) (nm (s _ _ eb)),kp _ _ ec (nf hc),kp _ _ ed (nf hd)⟩
 ·rw[getElem?_set_ne e] at hk';obtain⟨q',a',b',c',d',ev,n1,n2,n3,n4,n5,f1,f2,f3,f4,f5⟩:=(hat j u k' hu hk').ex;have hqq:q' ∉ [q]:=fun hm=>by
   have e1:u=.ref q:=by rw[ev,mem_singleton.mp hm]
   rw[e1] at hu;have hil':i<us.length:=(Wt.mp hi).1;exact e ((List.getElem?_inj hil' hund).mp (hi.trans hu.symm))
  exact⟨q',a',b',c',d',ev,n1,n2,n3,n4,n5,kp _ _ f1 hqq,kp _ _ f2 (nm f2),kp _ _ f3 (nm f3),kp _ _ f4 (ni f4),kp _ _ f5 (ni f5)⟩
theorem pU:∀ xs ys:Nms,uO (xs.map mkT) (ys.map mkT)=decide (xs=ys)
 | [],[]=>rfl
 | [],_::_=>rfl
 | _::_,[]=>rfl
 | x::xs,y::ys=>by
  show(eqV (mkT x) (mkT y) && uO (xs.map mkT) (ys.map mkT))=_;rw[pU xs ys,Bool.eq_iff_iff,Bool.and_eq_true,decide_eq_true_eq,decide_eq_true_eq,List.cons.injEq];refine and_congr_left fun _=>?_
  show((⟨x.toArray⟩:Str) == ⟨y.toArray⟩)=true↔_;rw[beq_iff_eq];exact⟨str_inj,fun e=>by rw[e]⟩
theorem uz:∀ xs ys:List Int,uO (xs.map V.int) (ys.map V.int)=decide (xs=ys)
 | [],[]=>rfl
 | [],_::_=>rfl
 | _::_,[]=>rfl
 | x::xs,y::ys=>by
  show((x == y) && uO (xs.map V.int) (ys.map V.int))=_;rw[uz xs ys,Bool.eq_iff_iff,Bool.and_eq_true,decide_eq_true_eq,decide_eq_true_eq,List.cons.injEq,beq_iff_eq]
def M7(j k:Lnk):List Bool:=[uO (j.1.map mkT) (k.1.map mkT),uO (j.2.1.map mkT) (k.2.1.map mkT),eqV (.int j.2.2.1) (.int k.2.2.1),uO (j.2.2.2.1.map V.int) (k.2.2.2.1.map V.int),uO (j.2.2.2.2.map V.int) (k.2.2.2.2.map V.int)]
def Gr(j k:Lnk):(M7 j k).all id=decide (j=k):=by
 obtain⟨a,b,t,c,d⟩:=j;obtain⟨a',b',t',c',d'⟩:=k;unfold M7;simp only[pU,uz,all_cons,List.all_nil,id,Bool.and_true];rw[Bool.eq_iff_iff];simp only[Bool.and_eq_true,decide_eq_true_eq,Prod.mk.injEq];show a=a'/\b=b'/\(t == t')=true/\c=c'/\d=d'↔_;simp only[beq_iff_eq]
def lY(xs:Nms):∀ v∈xs.map mkT,fu v=true:=all_eq_true.mp (gD xs)
def lV(xs:List Int):∀ v∈xs.map V.int,fu v=true:=fun v hv=>by
 obtain⟨x,_,rfl⟩:=mem_map.mp hv
 rfl
def N8(hj:oR T H (.ref q') j)(hk:oR T H (.ref q) k):∃ xs ys:List V,H q'=some (.lst xs)/\H q=some (.lst ys)/\xs.length=ys.length/\(M7 j k).length=xs.length/\∀(i:Nat)(u v:V),xs[i]?=some u->ys[i]?=some v->ItE H u v ((M7 j k).getD i true):=by
 obtain⟨q1,a,b,c,d,e,_,_,_,_,_,f1,f2,f3,f4,f5⟩:=hj.ex;cases e;obtain⟨q2,a',b',c',d',e,_,_,_,_,_,g1,g2,g3,g4,g5⟩:=hk.ex;cases e;refine⟨_,_,f1,g1,rfl,rfl,fun i u v hu hv=>?_⟩
 match i,hu,hv with
 | 0,hu,hv=>cases hu;cases hv;exact .inr ⟨a,a',_,_,rfl,rfl,f2,g2,lY _,lY _,rfl⟩
 | 1,hu,hv=>cases hu;cases hv;exact .inr ⟨b,b',_,_,rfl,rfl,f3,g3,lY _,lY _,rfl⟩
 | 2,hu,hv=>cases hu;cases hv;exact .inl ⟨rfl,rfl,rfl⟩
 | 3,hu,hv=>cases hu;cases hv;exact .inr ⟨c,c',_,_,rfl,rfl,f4,g4,lV _,lV _,rfl⟩
 | 4,hu,hv=>cases hu;cases hv;exact .inr ⟨d,d',_,_,rfl,rfl,f5,g5,lV _,lV _,rfl⟩
 | i+5,hu,_=>simp at hu
def dO.relink(h:dO S H M L R ks al)(hS:Liv S H)(s:Same H H1)(hlc:H lc=none)(e:H1 lc=some (.lst us'))(hl:us'.length=ks'.length)(hnd:us'.Nodup)(hat:∀(i:Nat)(u:V)(k:Lnk),us'[i]?=some u->ks'[i]?=some k->oR (M.all++M.W++S) H u k) :
  dO S (upd H1 M.m (.dK (putK (mdK M) (Sum.inr "links" : Key) (.ref lc)))) { M with lk:=lc } L R ks' al:=by
 have hM1:=h.same s;have liv:lc ∉ M.all++M.W++S:=fun hm=>by
  rcases mem_append.mp hm with hm | hm
  ·obtain⟨o,ho⟩:=h.live _ hm;rw[hlc] at ho;cases ho
  ·obtain⟨o,ho⟩:=hS _ hm;rw[hlc] at ho;cases ho
 have nl:∀ z∈M.all,z≠lc:=fun z hz e=>liv (W5 _ (W5 _ (e ▸ hz)))
 have kp:Keep [M.m] H1 (upd H1 M.m (.dK (putK (mdK M) (Sum.inr "links" : Key) (.ref lc)))):=fun z o ho hz=>by
  rw[aF (fun e=>hz (by rw[e];exact .head _))];exact ho
 have nd:=h.nd;have all':∀ z∈Md.all { M with lk:=lc },z∈M.all\/z=lc:=fun z hz=>by
  simp only[Md.all,mem_cons,not_mem_nil,or_false] at hz ⊢;rcases hz with rfl | rfl | rfl | rfl | rfl | rfl | rfl | rfl <;> simp
 have hnd':(Md.all { M with lk:=lc }).Nodup:=by
  have n1:=nl M.m (by simp[Md.all]);have n2:=nl M.dt (by simp[Md.all]);have n3:=nl M.dw (by simp[Md.all]);have n4:=nl M.lr (by simp[Md.all]);have n5:=nl M.l0 (by simp[Md.all]);have n6:=nl M.l1 (by simp[Md.all]);have n7:=nl M.la (by simp[Md.all]);simp only[Md.all,nodup_cons,mem_cons,not_mem_nil,or_false,not_or] at nd ⊢;exact⟨⟨nd.1.1,nd.1.2.1,nd.1.2.2.1,nd.1.2.2.2.1,nd.1.2.2.2.2.1,n1,nd.1.2.2.2.2.2.2⟩,⟨nd.2.1.1,nd.2.1.2.1,nd.2.1.2.2.1,nd.2.1.2.2.2.1,n2,nd.2.1.2.2.2.2.2⟩,⟨nd.2.2.1.1,nd.2.2.1.2.1,nd.2.2.1.2.2.1,n3,nd.2.2.1.2.2.2.2⟩,⟨nd.2.2.2.1.1,nd.2.2.2.1.2.1,n4,nd.2.2.2.1.2.2.2⟩,⟨nd.2.2.2.2.1.1,n5,nd.2.2.2.2.1.2.2⟩,⟨n6,nd.2.2.2.2.2.1.2⟩,fun e=>n7 e.symm,nd.2.2.2.2.2.2.2⟩
 simp only[Md.all,nodup_cons,mem_cons,not_mem_nil,or_false,not_or] at nd;have ne:∀ {z:Addr},z≠M.m->z ∉ [M.m]:=fun hz hm=>hz (mem_singleton.mp hm)
 obtain⟨kt,et,ht1,ht2⟩:=hM1.t.ex;have ekm:putK (mdK M) (Sum.inr "links" : Key) (.ref lc)=mdK { M with lk:=lc }:=by
  unfold putK mdK;rw[if_pos (by simp)];simp only[map_cons,map_nil];rw[if_neg mk3,if_neg mk6,if_neg mk8,if_pos trivial,if_neg (Ne.symm mk0)]
 have lcm:lc≠M.m:=fun e=>nl M.m (by simp[Md.all]) e.symm
 refine⟨by rw[← ekm];exact ak,⟨kt,kp _ _ et (ne (fun e=>nd.1.1 e.symm)),ht1,ht2⟩,hM1.w.keep kp (fun z hz hm=>(h.wo z hz).2 (by rw[mem_singleton.mp hm];simp[Md.all])) (ne (fun e=>nd.1.2.1 e.symm)),kp _ _ hM1.lr (ne (fun e=>nd.1.2.2.1 e.symm)),kp _ _ hM1.l0 (ne (fun e=>nd.1.2.2.2.1 e.symm)),kp _ _ hM1.l1 (ne (fun e=>nd.1.2.2.2.2.1 e.symm)),⟨us',kp _ _ e (ne lcm),hl,hnd,fun i u k hu hk=>?_⟩,kp _ _ hM1.la (ne (fun e=>nd.1.2.2.2.2.2.2 e.symm)),fun z hz=>?_,hnd',fun z hz=>⟨(h.wo z hz).1,fun hm=>?_⟩,h.wn⟩
 ·obtain⟨q,a,b,c,d,ev,n1,n2,n3,n4,n5,f1,f2,f3,f4,f5⟩:=(hat i u k hu hk).ex;have inT:∀ {z:Addr}{o:HO},z ∉ M.all++M.W++S->H z=some o->z ∉ Md.all { M with lk:=lc }++M.W++S:=fun {z o} hz ho hm=>by
   rcases mem_append.mp hm with hm | hm
   ·rcases mem_append.mp hm with hm | hm
    ·rcases all' z hm with h1 | h1
     ·exact hz (W5 _ (W5 _ h1))
     ·rw[h1,hlc] at ho;cases ho
    ·exact hz (W5 _ (W4 _ hm))
   ·exact hz (W4 _ hm)
  have nm:∀ {z:Addr},z ∉ M.all++M.W++S->z ∉ [M.m]:=fun hz hm=>hz (W5 _ (W5 _ (by rw[mem_singleton.mp hm];simp[Md.all])))
  exact⟨q,a,b,c,d,ev,inT n1 f1,inT n2 f2,inT n3 f3,inT n4 f4,inT n5 f5,kp _ _ (s _ _ f1) (nm n1),kp _ _ (s _ _ f2) (nm n2),kp _ _ (s _ _ f3) (nm n3),kp _ _ (s _ _ f4) (nm n4),kp _ _ (s _ _ f5) (nm n5)⟩
 ·rcases all' z hz with h1 | h1
  ·exact h.off z h1
  ·rw[h1];exact fun hm=>liv (W4 _ hm)
 ·rcases all' z hm with h1 | h1
  ·exact(h.wo z hz).2 h1
  ·exact liv (W5 _ (W4 _ (h1 ▸ hz)))
theorem xX{α:Type}[DecidableEq α]{x:α}:∀ {xs:List α},x∈xs->∃ j:Nat,xs[j]?=some x/\∀ i,i<j->xs[i]?≠some x
 | y::ys,h=>by
  by_cases e:y=x
  ·exact⟨0,by rw[e];rfl,fun i hi=>absurd hi (Nat.not_lt_zero i)⟩
  ·obtain⟨j,h1,h2⟩:=xX (xs:=ys) ((mem_cons.mp h).resolve_left fun z=>e z.symm);refine⟨j+1,h1,fun i hi=>?_⟩
   match i,hi with
   | 0,_=>exact fun z=>e (WT z)
   | i+1,hi=>exact h2 i (by lia)
theorem mY{α β:Type}(f:α->β):∀(xs:List α)(j:Nat),(xs.map f).eraseIdx j=(xs.eraseIdx j).map f
 | [],_=>rfl
 | _::_,0=>rfl
 | x::xs,j+1=>by
  show f x::(xs.map f).eraseIdx j=f x::(xs.eraseIdx j).map f;rw[mY f xs j]
def Ck{b:Bool}{A B:Prop}(h:b=false)(k:B):if b=true then A else B:=by
 rw[h,if_neg (by decide)];exact k
theorem Pu{b:Bool}{A B:Prop}(h:b=true)(k:A):if b=true then A else B:=by
 rw[h,if_pos rfl];exact k
def sW(h:a≠b):decide (V.str a=V.str b)=false:=WX fun e=>h (by injection e)
section
variable {P:Program}{w:World}{K:W.Frag}{mg:Str->Option Value}{base:Heap}
def jP:aR ["_law_model_here","_law_deed_here","_law_word","_law_t","_law_name","_law_link_here","_law_alone"] ["_law_model_here","_law_deed_here"] (aC tW):=⟨rfl,rfl,rfl,by decide +kernel,rfl,by decide +kernel,by decide +kernel⟩
def Ko(h:Has K mg "_law_stand" tW ["_law_model_here","_law_deed_here"])(Uh:Cal P w K mg base "_law_link" 1 ["_law_model_here","_law_name"] yj)(Ui:Cal P w K mg base "_law_side" 1 ["_law_model_here","_law_name"] wZ):Cal P w K mg base "_law_stand" 2 ["_law_model_here","_law_deed_here"] mq:=by
 refine h.mk' jP (fun vs H Q E hs=>?_) (fun f cdv A outer s H vs Q E hr hs=>?_)
 ·obtain⟨S,M,L,R,ks,al,pd,t,x,d,rfl,_⟩:=hs
  rfl
 obtain⟨S,M,L,R,ks,al,pd,t,x,d,rfl,hM,hS,hd,hlk,hla,k1,k2⟩:=hs;refine⟨_,(au (ud (pv 1) (tX (n:=3) rfl (bN (aP (i:=2) jP.nd rfl (Or.inl rfl)) (bN (aP (i:=3) jP.nd rfl (Or.inl rfl)) (bN (aP (i:=4) jP.nd rfl (Or.inl rfl)) jR)))))
  (au (aL (i:=5) jP.nd rfl (Or.inr rfl) (aM Uh hr (by decide) rfl (aj (pv 0) (aj (pv 4) aq))))
  (au (cF (aO nZ (aM Ui hr (by decide) rfl (aj (pv 0) (aj (pv 4) aq))) cU (bA _))
   (aB (aW aG))
   bB)
  (au (aL (i:=6) jP.nd rfl (Or.inl rfl) (qp dJ (pv 4) (bw (bU hr) (pv 0) aG (fun _ _=>rfl)) (by with_unfolding_all rfl)))
  (au (cF (PW.pt (vG (PW.pt (uo (aO dJ (pv 2) (cu (aj aG (aj aG aq))) (by with_unfolding_all rfl)) (mO (aO nZ (pv 5) cU (bA _))))) (mR (PW.pt (uo (aO iZ (pv 2) aG (bA _)) (mO (Dg (sO (pv 6)))))))))
   (aB (aW aG))
   bB)
  (au (cF (PW.pt (uo (aO iZ (pv 2) aG (bA _)) (mO (PW.pt (vG (aO qm (pv 5) cU (bA _)) (mR (sO (pv 6))))))))
   (aB (aW aG))
   bB)
  (au (cF (aO iZ (pv 2) aG (bA _))
   (aB (dY (bU hr) (pv 0) aG (cD ["_law_model_here","_law_deed_here","_law_word","_law_t","_law_name","_law_link_here","_law_alone"] (aC tW) ["_law_link_here","_law_one"] [some 5,none] rfl rfl rfl (fB (bw (bU hr) (pv 0) aG (fun _ _=>rfl))) rfl (by decide +kernel) (by decide +kernel) (by decide +kernel) (by decide +kernel) (hg:=fun cl C s H ex pn E=>(aP (i:=1) (by decide +kernel:(["_law_link_here","_law_one"]:List Str).Nodup) rfl (Or.inl rfl))) (ht:=fun cl C s H ex pn E=>(gw (aO (Lx hr.units) (pv 1) (pv 0) (bA _)))) (he:=fun cl C s H ex pn E=>(pv 1))) rfl))
   (aB (cF (aO iZ (pv 2) aG (bA _))
   (aB (ud (bR (aj (pv 3) (aj (bR aq) (aj (bR aq) aq)))) (J8 (pv 5) (gY aA))))
   (aB (cF (aO iZ (pv 2) aG (bA _))
   (aB (cQ (gC PySem.F.plainAttrs_list PySem.F.slot_list_append PySem.F.type_list_append bY (bw (bU hr) (pv 0) aG (fun _ _=>rfl)) (aj (pv 4) aq))))
   (aB (cQ (gC PySem.F.plainAttrs_list PySem.F.slot_list_remove PySem.F.type_list_remove jL (bw (bU hr) (pv 0) aG (fun _ _=>rfl)) (aj (pv 4) aq)))))))))
  (aB (aW aG))))))))),?_⟩
 refine⟨_,rfl,pd,_,rfl,SqT.of hd,rfl,_,_,rfl,_,_,rfl,_,_,rfl,rfl,?_⟩;refine⟨_,rfl,_,rfl,S,M,L,R,ks,al,x,rfl,hM,fun u hu=>?_⟩;refine⟨_,rfl,_,rfl,S,M,L,R,ks,al,x,rfl,hM,fun H1 s1=>⟨rfl,_,rfl,?_⟩⟩;have hsv:decide (gA L R x=.non)=!isP L R x:=by
  unfold gA isP;cases(cJ (L++R) x).isSome <;> rfl
 rw[hsv];refine eU (fun z=>?_) (fun z=>?_)
 ·have z:isP L R x=false:=by simpa using z
  exact k1 0 (by cases d <;> (simp only[Hq,z];rfl)) H1 s1
 have hp:isP L R x=true:=by simpa using z
 have hM1:=hM.same s1;have hu1:(u=.non/\ks.all (fun k=>!eV x k)=true)\/∃ i us q k,u=.ref q/\H1 M.lk=some (.lst us)/\us[i]?=some u/\ks[i]?=some k/\eV x k=true/\(∀ j∈ks.take i,eV x j=false):=by
  rcases hu with⟨e,h⟩ | ⟨i,us,k,h1,h2,h3,h4,h5⟩
  ·exact .inl ⟨e,all_eq_true.mpr fun k hk=>by rw[h k hk];rfl⟩
  ·obtain⟨us',e',_,_,hat⟩:=hM.lk.ex;rw[h1] at e';cases e';obtain⟨q,_,_,_,_,ev,_⟩:=(hat i u k h2 h3).ex;exact .inr ⟨i,us,q,k,ev,s1 _ _ h1,h2,h3,h4,h5⟩
 clear hu;have hex:∀ {k:Lnk}{i:Nat},ks[i]?=some k->eV x k=true->ks.all (fun k=>!eV x k)=false:=fun hk hi=>List.all_eq_false.mpr ⟨_,W2 hk,by rw[hi];decide⟩
 refine⟨_,rfl,_,rfl,M.m,_,rfl,pX hM1.m,M.la,_,rfl,.inl (SqL.of hM1.la),rfl,gD _,?_⟩;rw[show(if false=true then !inV (mkT x) (al.map mkT) else inV (mkT x) (al.map mkT))=inV (mkT x) (al.map mkT) from rfl,pD];cases d with
 | loose =>
  refine gN ⟨_,rfl,smn 2,fun pt hpt=>?_⟩;have s2:=ao hpt (.tup [.str (Str.ofString "loose"),.str (Str.ofString "step")]);have e2:(upd H1 pt (.tup [.str (Str.ofString "loose"),.str (Str.ofString "step")])) pt=some (.tup [.str (Str.ofString "loose"),.str (Str.ofString "step")]):=ak;generalize upd H1 pt (.tup [.str (Str.ofString "loose"),.str (Str.ofString "step")])=H2 at s2 e2 ⊢;refine⟨pt,_,rfl,.inr (SqT.of e2),rfl,rfl,_,rfl,?_⟩;refine Pu (show inV (.str (Sd.wd .loose)) [.str (Str.ofString "loose"),.str (Str.ofString "step")]=true by decide +kernel) ?_;have s12:=s1.trans s2;refine⟨_,rfl,rfl,_,rfl,?_⟩;refine eU (fun z=>?_) (fun z=>?_)
  ·rcases hu1 with⟨_,h⟩ | ⟨i,us,q,k,e,_⟩
   ·exact k1 4 (by simp only[Hq,hp,h];rfl) H2 s12
   ·rw[e] at z;cases z
  rcases hu1 with⟨e,_⟩ | ⟨i,us,q,k,e,hus,hui,hk,hin,hno⟩
  ·rw[e] at z;exact absurd rfl z
  refine⟨_,rfl,rfl,_,rfl,?_⟩;refine Ck (sW (by decide +kernel)) ?_;refine⟨_,rfl,rfl,_,rfl,?_⟩;refine Ck (sW (by decide +kernel)) ?_;refine⟨_,rfl,rfl,_,rfl,?_⟩;refine eU (fun _=>?_) (fun z=>absurd (W9 rfl) z);subst e;have hM2:=hM.same s12;have hus2:=s2 _ _ hus;have eH:H M.lk=some (.lst us):=by
   obtain⟨us0,e0,_⟩:=hM.lk.ex;have:=s1 _ _ e0;rw[hus] at this;cases this;exact e0
  obtain⟨us',eu',hul,hund,hat⟩:=hM2.lk.ex;rw[hus2] at eu';cases eu';have hq:=hat i _ k hui hk;refine⟨_,rfl,M.m,_,rfl,qw hM2.m,M.lk,rfl,⟨_,SqL.of hus2⟩,fun lc hlc=>?_⟩;have hZl:(us.zip ks).length=us.length:=by rw[length_zip,hul,Nat.min_self]
  refine cZ (J:=Itl K M.lk) (l:=lc) us.length (fun n σ' H'=>∃ v:Option V,σ'=[some (.ref q),v]/\Same H2 H'/\H' lc=some (.lst ((((us.zip ks).take n).filter fun p=>decide (p.2≠k)).map (·.1)))) ⟨none,rfl,ao hlc _,ak⟩ ?_ ?_
  rotate_left
  ·rintro n σ' H' hn ⟨v,rfl,s3,e3⟩;have hnk:n<ks.length:=by lia
   have hnz:n<(us.zip ks).length:=by lia
   refine⟨⟨_,_,SqL.of (s3 _ _ hus2),bZ hn⟩,?_⟩;rintro N hN y H'' ⟨rfl,hy⟩;have ey:y=us[n]:=WT ((hy _ (SqL.of (s3 _ _ hus2))).symm.trans (bZ hn));have htk:=take_one (bZ hnz);rw[getElem_zip] at htk;have hj:=hat n us[n] ks[n] (bZ hn) (bZ hnk);rw[← ey] at hj htk;generalize ks[n]=j at hj htk;obtain⟨q',a',b',c',d',ev,_⟩:=hj.ex;subst ev;obtain⟨xs1,ys1,g1,g2,g3,g4,g5⟩:=N8 (hj.keep (.of s3) (S:=[]) (fun z hz=>nomatch hz)) (hq.keep (.of s3) (S:=[]) (fun z hz=>nomatch hz));refine gN ⟨_,rfl,_,rfl,q',q,xs1,ys1,M7 j k,rfl,rfl,g1,g2,fun _=>⟨g4,g5⟩,_,rfl,?_⟩;rw[W9 g3,Bool.true_and,Gr];refine eU (fun z=>?_) (fun z=>?_)
   ·have z:j≠k:=by simpa using z
    refine⟨_,rfl,_,e3,aH ?_,hN _ _ ⟨_,rfl,cg s3 hlc,?_⟩⟩
    ·rw[Xa];refine W7 (length_filter_le _ _) ?_;rw[length_take];lia
    ·rw[ak,htk,filter_append,map_append,filter_cons_of_pos (by simpa using z)]
     rfl
   ·have z:j=k:=by simpa using z
    refine hN _ _ ⟨_,rfl,s3,?_⟩;rw[e3,htk,filter_append,filter_cons_of_neg (by simpa using z),filter_nil,append_nil]
  rintro σ' H3 ⟨v,rfl,s3,e3⟩;rw[← hZl,take_length] at e3;refine⟨⟨_,SqL.of (s3 _ _ hus2),Wu _⟩,?_⟩;refine⟨_,rfl,M.m,_,rfl,rW.k (k:=(Sum.inr "links" : Key)) (s3 _ _ hM2.m) (aH (show 5<=1000 by lia)),?_⟩;have hsnd:((us.zip ks).filter fun p=>decide (p.2≠k)).map (·.2)=ks.filter fun j=>decide (j≠k):=by
   have h1:(us.zip ks).map (·.2)=ks:=List.map_snd_zip (by lia);have h2:=filter_map (p:=fun j:Lnk=>decide (j≠k)) (f:=fun p:V × Lnk=>p.2) (l:=us.zip ks);rw[h1] at h2;exact h2.symm
  have hfst:(((us.zip ks).filter fun p=>decide (p.2≠k)).map (·.1)).Nodup:=by
   have h1:(us.zip ks).map (·.1)=us:=map_fst_zip (by lia);have h2:(((us.zip ks).filter fun p=>decide (p.2≠k)).map (·.1)).Sublist us:=by
    have h3:=(filter_sublist (p:=fun p:V × Lnk=>decide (p.2≠k)) (l:=us.zip ks)).map (·.1);rw[h1] at h3;exact h3
   exact h2.nodup hund
  have hsubu:(((us.zip ks).filter fun p=>decide (p.2≠k)).map (·.1)).Sublist us:=by
   have h3:=(filter_sublist (p:=fun p:V × Lnk=>decide (p.2≠k)) (l:=us.zip ks)).map (·.1);rw[map_fst_zip (by lia)] at h3;exact h3
  have hMn:=hM2.relink (ks':=ks.filter fun j=>decide (j≠k)) (fun z hz=>by obtain⟨u,hu⟩:=hS z hz;exact⟨u,s12 _ _ hu⟩) s3 hlc e3 (by rw[← hsnd,Xa,Xa]) hfst (fun n u j hu hj=>by
   rw[← hsnd,W8] at hj;rw[W8] at hu;cases hz:((us.zip ks).filter fun p=>decide (p.2≠k))[n]? with
   | none=>rw[hz] at hu;cases hu
   | some p =>
    rw[hz] at hu hj;cases hu;cases hj;obtain⟨m,hm⟩:=mem_iff_getElem?.mp (mem_filter.mp (W2 hz)).1;obtain⟨h1,h2⟩:=getElem?_zip_eq_some.mp hm;exact hat m _ _ h1 h2)
  refine k2 (by simp only[Hq,hp,hex hk hin];rfl) _ { M with lk:=lc } _ al ⟨rfl,rfl⟩ (fun hsp=>⟨_,(aF (fun z:lc=M.m=>by rw[z,s12 _ _ hM.m] at hlc;cases hlc)).trans e3,hM.sep_sub hsp eH hsubu fun a o ha hn=>by rw[aF (fun z=>hn (by rw[z];simp[Md.all]))];exact s3 _ _ (s12 _ _ ha)⟩) (fun z o hz hn _=>?_) hMn ⟨rfl,fun i' k' hk' hin' hno'=>?_⟩
  ·rw[aF (fun e=>hn (by rw[e];simp[Md.all]))];exact s3 _ _ (s12 _ _ hz)
  ·have:i'=i:=by
    rcases Nat.lt_trichotomy i' i with h | h | h
    ·have:=hno k' (W2 (i:=i') (by rw[getElem?_take,if_pos h];exact hk'));rw[hin'] at this;cases this
    ·exact h
    ·have:=hno' k (W2 (i:=i) (by rw[getElem?_take,if_pos h];exact hk));rw[hin] at this;cases this
   subst this;rw[hk] at hk';cases hk'
   rfl
 | step =>
  refine gN ⟨_,rfl,smn 2,fun pt hpt=>?_⟩;have s2:=ao hpt (.tup [.str (Str.ofString "loose"),.str (Str.ofString "step")]);have e2:(upd H1 pt (.tup [.str (Str.ofString "loose"),.str (Str.ofString "step")])) pt=some (.tup [.str (Str.ofString "loose"),.str (Str.ofString "step")]):=ak;generalize upd H1 pt (.tup [.str (Str.ofString "loose"),.str (Str.ofString "step")])=H2 at s2 e2 ⊢;refine⟨pt,_,rfl,.inr (SqT.of e2),rfl,rfl,_,rfl,?_⟩;refine Pu (show inV (.str (Sd.wd .step)) [.str (Str.ofString "loose"),.str (Str.ofString "step")]=true by decide +kernel) ?_;have s12:=s1.trans s2;refine⟨_,rfl,rfl,_,rfl,?_⟩;refine eU (fun z=>?_) (fun z=>?_)
  ·rcases hu1 with⟨_,h⟩ | ⟨i,us,q,k,e,_⟩
   ·exact k1 4 (by simp only[Hq,hp,h];rfl) H2 s12
   ·rw[e] at z;cases z
  rcases hu1 with⟨e,_⟩ | ⟨i,us,q,k,e,hus,hui,hk,hin,hno⟩
  ·rw[e] at z;exact absurd rfl z
  refine⟨_,rfl,rfl,_,rfl,?_⟩;refine Ck (sW (by decide +kernel)) ?_;refine⟨_,rfl,rfl,_,rfl,?_⟩;refine Ck (sW (by decide +kernel)) ?_;refine⟨_,rfl,rfl,_,rfl,?_⟩;refine Ck (sW (by decide +kernel)) ?_;refine⟨_,rfl,rfl,_,rfl,?_⟩;refine eU (fun _=>?_) (fun z=>absurd (W9 rfl) z);subst e;have hM2:=hM.same s12;obtain⟨us',eu',_,hund,hat⟩:=hM2.lk.ex;rw[s2 _ _ hus] at eu';cases eu';obtain⟨q',a,b,c0,d0,ev,n1,n2,n3,_,_,f1,f2,f3,_,_⟩:=(hat i _ k hui hk).ex;cases ev;refine⟨_,rfl,smn 0,fun c hc=>?_⟩;have g1:=ao hc (.lst []);have i1:(upd H2 c (.lst [])) c=some (.lst []):=ak;generalize upd H2 c (.lst [])=G1 at g1 i1 ⊢;refine⟨smn 0,fun d hd'=>?_⟩;have g2:=ao hd' (.lst []);have i2:(upd G1 d (.lst [])) d=some (.lst []):=ak;generalize upd G1 d (.lst [])=G2 at g2 i2 ⊢;refine⟨smn 3,fun l hl=>?_⟩;have g3:=ao hl (.lst [.int t,.ref c,.ref d]);have i3:(upd G2 l (.lst [.int t,.ref c,.ref d])) l=some (.lst [.int t,.ref c,.ref d]):=ak;generalize upd G2 l (.lst [.int t,.ref c,.ref d])=G3 at g3 i3 ⊢;have g13:=(g1.trans g2).trans g3;have hqn:q≠l:=fun e=>by
   have:=(g1.trans g2) _ _ f1;rw[e,hl] at this;cases this
  refine⟨_,rfl,2,rfl,q,l,_,_,2,rfl,rfl,rfl,g13 _ _ f1,i3,hqn,by show 2<=5;lia,small (by show 5+3<=1000;lia),?_⟩;have hcn:∀ {G:Hp}{z:Addr},Same H2 G->G z=none->H2 z=none:=fun {G z} sg hz=>by
   cases hh:H2 z with
   | none=>rfl
   | some u=>rw[sg _ _ hh] at hz;cases hz
  have eH:H M.lk=some (.lst us):=by
   obtain⟨us0,e0,_⟩:=hM.lk.ex;have:=s1 _ _ e0;rw[hus] at this;cases this;exact e0
  have f1H:H q=some (.lst [.ref a,.ref b,.int k.2.2.1,.ref c0,.ref d0]):=by
   obtain⟨_,_,hL⟩:=hM.lk.at eH (W2 hui);obtain⟨q',_,_,_,_,eq,_,_,_,_,_,e1,_⟩:=hL.ex;cases eq;have:=s12 _ _ e1;rw[f1] at this;rw[e1,this]
  have nH:∀ {z:Addr},H2 z=none->H z=none:=fun {z} hz=>by
   cases hh:H z with
   | none=>rfl
   | some u=>rw[s12 _ _ hh] at hz;cases hz
  have hMn:=hM2.stepped (fun z hz=>by obtain⟨u,hu⟩:=hS z hz;exact⟨u,s12 _ _ hu⟩) g13 (t:=t) (s2 _ _ hus) hui hk f1 n1 n2 n3 f2 f3 hc (hcn g1 hd') ((g2.trans g3) _ _ i1) (g3 _ _ i2);refine k2 (by simp only[Hq,hp,hex hk hin];rfl) _ M _ al ⟨rfl,rfl⟩ (fun hsp=>hM.sep_step hsp eH (W2 hui) f1H (nH hc) (nH (hcn g1 hd')) (fun z=>by rw[z,hd'] at i1;cases i1) ak fun z o hz hn=>by rw[aF hn];exact g13 _ _ (s12 _ _ hz)) (fun z o hz hn hne=>?_) hMn ⟨rfl,fun i' k' hk' hin' hno'=>?_⟩
  ·rw[aF (fun e=>?_)]
   ·exact g13 _ _ (s12 _ _ hz)
   ·have:=s12 _ _ hz;rw[e,f1] at this;exact hne _ _ _ _ _ (WT this).symm
  ·have:i'=i:=by
    rcases Nat.lt_trichotomy i' i with h | h | h
    ·have:=hno k' (W2 (i:=i') (by rw[getElem?_take,if_pos h];exact hk'));rw[hin'] at this;cases this
    ·exact h
    ·have:=hno' k (W2 (i:=i) (by rw[getElem?_take,if_pos h];exact hk));rw[hin] at this;cases this
   subst this;rw[hk] at hk';cases hk'
   rfl
end
inductive St3
 | all
 | linked
 | alone
 | lacking
def St3.wd:St3->Str
 | .all=>Str.ofString "all"
 | .linked=>Str.ofString "linked"
 | .alone=>Str.ofString "alone"
 | .lacking=>Str.ofString "lacking"
def lkB(ks:List Lnk)(x:List Nat):Bool:=ks.any (eV x)
def stB(ks:List Lnk)(al:Nms)(x:List Nat):St3->Bool
 | .all=>true
 | .linked=>lkB ks x
 | .alone=>!lkB ks x && decide (x∈al)
 | .lacking=>!lkB ks x && !decide (x∈al)
def oX:Sp:=fun vs H Q _=>∃ S M L R ks al d,vs=[.ref M.m,.str d.wd]/\dO S H M L R ks al/\(L++R).length<=200/\∀(l:Addr)(H':Hp),Same H H'->H l=none->H' l=some (.lst ((((L++R).map (·.1)).filter fun x=>stB ks al x d).map mkT))->Q (.ref l) H'
def stW(ks:List Lnk)(al:Nms)(x:List Nat):St3:=if lkB ks x then .linked else if x∈al then .alone else .lacking
def Nk(ks:List Lnk)(al:Nms)(x:List Nat)(d:St3):inV (.str d.wd) [.str (Str.ofString "all"),.str (stW ks al x).wd]=stB ks al x d:=by
 unfold stW stB;by_cases h1:lkB ks x=true
 ·rw[if_pos h1,h1];generalize decide (x∈al)=b;cases b <;> cases d <;> decide +kernel
 ·rw[if_neg h1,Bool.eq_false_iff.mpr h1];by_cases h2:x∈al
  ·rw[if_pos h2,W9 h2];cases d <;> decide +kernel
  ·rw[if_neg h2,WX h2];cases d <;> decide +kernel
section
variable {P:Program}{w:World}{K:W.Frag}{mg:Str->Option Value}{base:Heap}
def eN:aR ["_law_model_here","_law_which","_law_made","_law_name","_law_stands"] ["_law_model_here","_law_which"] (aC jj):=⟨rfl,rfl,rfl,by decide +kernel,rfl,by decide +kernel,by decide +kernel⟩
def yR(h:Has K mg "_law_standing" jj ["_law_model_here","_law_which"])(Uh:Cal P w K mg base "_law_link" 1 ["_law_model_here","_law_name"] yj):Cal P w K mg base "_law_standing" 2 ["_law_model_here","_law_which"] oX:=by
 refine h.mk' eN (fun vs H Q E hs=>?_) (fun f cdv A outer s H vs Q E hr hs=>?_)
 ·obtain⟨S,M,L,R,ks,al,d,rfl,_⟩:=hs
  rfl
 obtain⟨S,M,L,R,ks,al,d,rfl,hM,hlen,k⟩:=hs;refine⟨_,(au (aL (i:=2) eN.nd rfl (Or.inl rfl) (bR aq))
  (au (dU PassesOwn.never rfl (fB (bF j7 (bx bI (bw (bU hr) (pv 0) aG (fun _ _=>rfl)) aA (fun _ _=>rfl)) (bx bI (bw (bU hr) (pv 0) aG (fun _ _=>rfl)) aA (fun _ _=>rfl)))) (aP (i:=3) eN.nd rfl (Or.inl rfl))
   (au (aL (i:=4) eN.nd rfl (Or.inl rfl) aG)
  (au (cF (aO dJ (pv 3) (bw (bU hr) (pv 0) aG (fun _ _=>rfl)) (by with_unfolding_all rfl))
   (aB (aL (i:=4) eN.nd rfl (Or.inl rfl) aG))
   bB)
  (au (cF (aO qm (aM Uh hr (by decide) rfl (aj (pv 0) (aj (pv 3) aq))) cU (bA _))
   (aB (aL (i:=4) eN.nd rfl (Or.inl rfl) aG))
   bB)
  (aB (cF (aO dJ (pv 1) (cu (aj aG (aj (pv 4) aq))) (by with_unfolding_all rfl))
   (aB (cQ (gC PySem.F.plainAttrs_list PySem.F.slot_list_append PySem.F.type_list_append bY (pv 2) (aj (pv 3) aq))))
   bB))))))
  (aB (aW (pv 2))))),?_⟩
 refine⟨smn 0,fun l hl=>?_⟩;have s1:=ao hl (.lst []);have e1:(upd H l (.lst [])) l=some (.lst []):=ak;generalize upd H l (.lst [])=H1 at s1 e1 ⊢;have hM1:=hM.same s1;have hnl:∀ Z:List Prt,(bO Z).length=Z.length:=fun Z=>by unfold bO;rw[Xa]
 have hl1':=hlen;rw[W0] at hl1';refine gN ⟨_,rfl,M.m,_,rfl,nQ hM1.m,M.lr,_,_,_,rfl,rfl,SqL.of hM1.lr,bC _ _,_,rfl,M.m,_,rfl,nQ hM1.m,M.lr,_,_,_,rfl,rfl,SqL.of hM1.lr,(mj hM1 (n:=1) (Wu _)).1,M.l0,M.l1,_,_,rfl,rfl,hM1.l0,hM1.l1,small (by rw[hnl,hnl];lia),fun l3 hl3=>?_⟩;rw[kJ,kJ,← map_append,← map_append];have hnn:((L++R).map (·.1)).length<=200:=by rw[Xa];exact hlen
 have s3:=ao hl3 (.lst (((L++R).map (·.1)).map mkT));have e3:(upd H1 l3 (.lst (((L++R).map (·.1)).map mkT))) l3=some (.lst (((L++R).map (·.1)).map mkT)):=ak;have hll:l≠l3:=fun e=>by rw[e,hl3] at e1;cases e1
 generalize upd H1 l3 (.lst (((L++R).map (·.1)).map mkT))=H3 at s3 e3 ⊢;generalize hnms:(L++R).map (·.1)=nms at *;refine⟨l3,rfl,⟨_,SqL.of e3⟩,?_⟩;refine iM (K:=K) (a:=l3) (xs:=nms.map mkT) (fun i σ H4=>∃ v3 v4:Option V,σ=[some (.ref M.m),some (.str d.wd),some (.ref l),v3,v4]/\Same H H4/\H4 l3=some (.lst (nms.map mkT))/\H4 l=some (.lst (((nms.take i).filter fun x=>stB ks al x d).map mkT))) ⟨_,_,rfl,s1.trans s3,e3,s3 _ _ e1⟩ ?_ ?_ ?_
 ·rintro i σ H4 _ ⟨_,_,_,_,e4,_⟩;exact SqL.of e4
 ·rintro i y σ H4 hi ⟨v3,v4,rfl,s4,e4,e4l⟩;have hil:i<nms.length:=by
   have:=(Wt.mp hi).1
   rwa [Xa] at this
  rw[W8,bZ hil] at hi;have ey:y=mkT nms[i]:=(WT hi).symm;have htk:=take_one (bZ hil);generalize nms[i]=x at ey htk;subst ey;have hM4:=hM.same s4;refine gN (gN ?_);refine gN ?_;refine nxP (fun σ H'=>H'=H4/\σ=[some (.ref M.m),some (.str d.wd),some (.ref l),some (mkT x),some (.str (if x∈al then St3.alone.wd else St3.lacking.wd))]) (fun N hN=>?_) ?_
  ·refine⟨_,rfl,_,rfl,M.m,_,rfl,pX hM4.m,M.la,_,rfl,.inl (SqL.of hM4.la),rfl,gD _,_,rfl,?_⟩;rw[show(if false=true then !inV (mkT x) (al.map mkT) else inV (mkT x) (al.map mkT))=inV (mkT x) (al.map mkT) from rfl,pD];refine eU (fun z=>?_) (fun z=>?_)
   ·have z:x∈al:=W3 z;exact gN (hN _ _ ⟨rfl,by rw[if_pos z];rfl⟩)
   ·have z:¬ x∈al:=fun h=>z (W9 h)
    exact hN _ _ ⟨rfl,by rw[if_neg z];rfl⟩
  rintro σ' H' ⟨rfl,rfl⟩;refine zK (fun σ H''=>H''=H'/\σ=[some (.ref M.m),some (.str d.wd),some (.ref l),some (mkT x),some (.str (stW ks al x).wd)]) (fun N hN=>?_) ?_
  ·refine⟨_,rfl,_,rfl,S,M,L,R,ks,al,x,rfl,hM4,fun u hu=>⟨rfl,_,rfl,?_⟩⟩;refine eU (fun z=>?_) (fun z=>?_)
   ·have z:u≠.non:=by simpa using z
    rcases hu with⟨e,_⟩ | ⟨j,us,k',_,_,hk,hin,_⟩
    ·exact absurd e z
    ·have hb:lkB ks x=true:=any_eq_true.mpr ⟨k',W2 hk,hin⟩;exact gN (hN _ _ ⟨rfl,by unfold stW;rw[if_pos hb];rfl⟩)
   ·have z:u=.non:=by simpa using z
    have hb:¬ lkB ks x=true:=by
     rcases hu with⟨_,h⟩ | ⟨j,us,k',h1,h2,h3,_,_⟩
     ·intro hb;obtain⟨k',hk',hin⟩:=any_eq_true.mp hb;rw[h k' hk'] at hin;cases hin
     ·obtain⟨us',e',_,_,hat⟩:=hM4.lk.ex;rw[h1] at e';cases e';obtain⟨_,_,_,_,_,ev,_⟩:=(hat j u k' h2 h3).ex;rw[z] at ev;cases ev
    refine hN _ _ ⟨rfl,?_⟩;unfold stW;rw[if_neg hb];split <;> rfl
  rintro σ' H'' ⟨rfl,rfl⟩;refine⟨_,rfl,_,rfl,smn 2,fun pt hpt=>?_⟩;have s5:=ao hpt (.tup [.str (Str.ofString "all"),.str (stW ks al x).wd]);have e5:(upd H'' pt (.tup [.str (Str.ofString "all"),.str (stW ks al x).wd])) pt=some (.tup [.str (Str.ofString "all"),.str (stW ks al x).wd]):=ak;generalize upd H'' pt (.tup [.str (Str.ofString "all"),.str (stW ks al x).wd])=H5 at s5 e5 ⊢;refine⟨pt,_,rfl,.inr (SqT.of e5),rfl,rfl,_,rfl,?_⟩;rw[show(if false=true then !inV (.str d.wd) [.str (Str.ofString "all"),.str (stW ks al x).wd] else inV (.str d.wd) [.str (Str.ofString "all"),.str (stW ks al x).wd])=inV (.str d.wd) [.str (Str.ofString "all"),.str (stW ks al x).wd] from rfl,Nk];refine eU (fun z=>?_) (fun z=>?_)
  ·refine⟨_,rfl,.inl ⟨rfl,_,SqL.of (s5 _ _ e4l)⟩,_,rfl,l,_,mkT x,rfl,rfl,s5 _ _ e4l,aH ?_,_,_,rfl,cg (s4.trans s5) hl,?_,?_⟩
   ·rw[Xa];refine W7 (length_filter_le _ _) ?_;rw[length_take];lia
   ·rw[aF hll.symm];exact s5 _ _ e4
   ·rw[ak,htk,filter_append,map_append,filter_cons_of_pos (by exact z)]
    rfl
  ·refine⟨_,_,rfl,s4.trans s5,s5 _ _ e4,?_⟩;rw[s5 _ _ e4l,htk,filter_append,filter_cons_of_neg (by exact z),filter_nil,append_nil]
 ·rintro σ H4 ⟨v3,v4,rfl,s4,e4,e4l⟩;rw[Xa,take_length] at e4l;exact⟨_,rfl,k l H4 s4 hl e4l⟩
end
def j6{H:Hp}{a d:Addr}{vs:List V}{kv:List (Key × V)}(h1:H a=some (.lst vs))(h2:H d=some (.dK kv)):a≠d:=fun e=>by
 rw[e,h2] at h1;cases h1
def oR.keepL(h:oR T H v k)(s:∀(a:Addr)(vs:List V),H a=some (.lst vs)->a ∉ T->H' a=some (.lst vs)):oR T H' v k:=by
 obtain⟨q,a,b,c,d,e,n1,n2,n3,n4,n5,e1,e2,e3,e4,e5⟩:=h.ex;exact⟨q,a,b,c,d,e,n1,n2,n3,n4,n5,s _ _ e1 n1,s _ _ e2 n2,s _ _ e3 n3,s _ _ e4 n4,s _ _ e5 n5⟩
def But(a:Addr)(H H':Hp):Prop:=∀ c o,H c=some o->c≠a->H' c=some o
def But.keep(h:But a H H'):Keep (a::S) H H':=fun c o e n=>h c o e fun z=>n (by rw[z];exact .head _)
def But.tup(h:But a H H')(ha:H a=some (.lst us)):∀(b:Addr)(vs:List V),H b=some (.tup vs)->H' b=some (.tup vs):=fun b vs e=>h b _ e (lA e ha (by intro z;cases z))
def But.trans(h:But a H H1)(g:But a H1 H2):But a H H2:=fun c o e n=>g c o (h c o e n) n
def But.of(s:Same H H'):But a H H':=fun c o e _=>s c o e
def But.upd(o:HO):But a H (upd H a o):=fun c u e n=>by rw[aF n];exact e
def But.same(s:Same H0 H)(ha:H0 a=none)(h:But a H H'):Same H0 H':=fun c o e=>h c o (s c o e) (aD e ha)
def FQ(h:Hz H us)(ol:∀ v∈us,∀ m ad,Inn H' v m ad->Inn H v m ad/\∃ o,H ad=some o)(hq:H' q=some (.lst [.ref a,.ref b,.int t,.ref c,.ref d]))(fa:H a=none)(fb:H b=none)(fc:H c=none)(fd:H d=none)(nd:[a,b,c,d].Nodup):Hz H' (us++[.ref q]):=by
 have fr:∀ {m:Nat}{ad:Addr},Inn H' (.ref q) m ad->H ad=none:=fun hi=>by
  rcases Kr hq hi with⟨_,rfl⟩ | ⟨_,rfl⟩ | ⟨_,rfl⟩ | ⟨_,rfl⟩
  ·exact fa
  ·exact fb
  ·exact fc
  ·exact fd
 have k:=h.keep (List.Sublist.refl _) fun v hv m ad x=>(ol v hv m ad x).1
 refine⟨pairwise_append.mpr ⟨k.ap,pairwise_singleton _ _,fun v hv v' hv' m m' ad x y=>?_⟩,fun v hv m m' ad x y=>?_⟩
 ·rw[mem_singleton.mp hv'] at y;obtain⟨o,ho⟩:=(ol v hv m ad x).2;rw[fr y] at ho;cases ho
 ·rcases mem_append.mp hv with hv | hv
  ·exact k.on v hv m m' ad x y
  ·rw[mem_singleton.mp hv] at x y;simp only[nodup_cons,mem_cons,not_mem_nil,or_false,not_or,not_false_eq_true,and_true] at nd;obtain⟨⟨n1,n2,n3⟩,⟨n4,n5⟩,n6,_⟩:=nd;rcases Kr hq x with⟨rfl,rfl⟩ | ⟨rfl,rfl⟩ | ⟨rfl,rfl⟩ | ⟨rfl,rfl⟩ <;> rcases Kr hq y with⟨rfl,w⟩ | ⟨rfl,w⟩ | ⟨rfl,w⟩ | ⟨rfl,w⟩ <;> first | rfl | exact absurd w n1 | exact absurd w n2 | exact absurd w n3 | exact absurd w n4 | exact absurd w n5 | exact absurd w n6 | exact absurd w.symm n1 | exact absurd w.symm n2 | exact absurd w.symm n3 | exact absurd w.symm n4 | exact absurd w.symm n5 | exact absurd w.symm n6
def wN{κ:Type}[DecidableEq κ](kvs:List (κ × V))(k:κ)(v:V):(putK kvs k v).length<=kvs.length+1:=by
 unfold putK;split
 ·rw[Xa];lia
 ·rw[W0];exact Wu _
structure WhN(S T:List Addr)(H:Hp)(dw:Addr)(W:List Addr)(P:List Prt):Prop where
 w:Qo H dw W 60 P
 nd:W.Nodup
 fr:∀ a∈W,a ∉ S/\a ∉ T
def Qo.row(h:Qo H dw W B P)(ha:a∈W):∃ vs,H a=some (.lst vs):=by
 obtain⟨kt,e,hn,hw,f⟩:=h.ex;obtain⟨i,hi⟩:=mem_iff_getElem?.mp ha;have hil:i<P.length:=by rw[← hw];exact(Wt.mp hi).1
 obtain⟨l,ws,g1,g2,g3,_⟩:=f i _ (bZ hil);rw[hi] at g1;exact⟨_,by rw[WT g1];exact g3⟩
def CK:Sp:=fun vs H Q _=>∃ S v L R ks al,vs=[v]/\Den H v (eE L R ks al)/\(∀ a∈S,∃ o,H a=some o)/\L.length<=60/\R.length<=60/\ks.length<=900/\((L++R).map (·.1)).Nodup/\(∀ p∈L++R,p.2.2.length<=60) /\
 ∀(M:Md)(H':Hp),Same H H'->M.b=60->dO S H' M L R ks al->rA H' M->Q (.ref M.m) H'
def md0(dt dw:Addr):List (Key × V):=[(Sum.inr "text",.ref dt),(Sum.inr "when",.ref dw)]
def md1(dt dw lr:Addr):List (Key × V):=[(Sum.inr "text",.ref dt),(Sum.inr "when",.ref dw),(Sum.inr "rows",.ref lr)]
def Rj:Str.ofString "when" ≠ Str.ofString "text":=by decide +kernel
def Ht(dt dw:Addr):gP [] (md0 dt dw)=md0 dt dw:=by
 unfold md0;simp[gP,putK,Rj,Ne.symm Rj]
def vo{kvs:List (Key × V)}{k:Key}{v:V}(h:∀ kv∈kvs,kv.1≠k):putK kvs k v=kvs++[(k,v)]:=by
 unfold putK;rw[if_neg];intro z;rw[any_eq_true] at z;obtain⟨kv,h1,h2⟩:=z;exact h kv h1 (W3 h2)
def Lr(dt dw lr:Addr):gk (md1 dt dw lr) (Sum.inr "text" : Key)=some (V.ref dt):=bD rfl
def K8(dt dw lr:Addr):gk (md1 dt dw lr) (Sum.inr "when" : Key)=some (V.ref dw):=(aX mk1).trans (bD rfl)
def Jt(h:H m=some (.dK (md1 dt dw lr))):iG H m (.str "text") (some (.ref dt)):=by
 rw[← Lr dt dw lr];exact iG.k (k:=(Sum.inr _:Key)) h
def JL(h:H m=some (.dK (md1 dt dw lr))):iG H m (.str "when") (some (.ref dw)):=by
 rw[← K8 dt dw lr];exact iG.k (k:=(Sum.inr _:Key)) h
def md2(dt dw lr lk:Addr):List (Key × V):=[(Sum.inr "text",.ref dt),(Sum.inr "when",.ref dw),(Sum.inr "rows",.ref lr),(Sum.inr "links",.ref lk)]
def Dm(dt dw lr lk:Addr):putK (md1 dt dw lr) (Sum.inr "links" : Key) (.ref lk)=md2 dt dw lr lk:=by
 rw[vo]
 ·rfl
 ·intro kv h;unfold md1 at h;simp only[mem_cons,not_mem_nil,or_false] at h;rcases h with rfl | rfl | rfl
  ·exact mk3
  ·exact mk6
  ·exact mk8
def zV(M:Md):putK (md2 M.dt M.dw M.lr M.lk) (Sum.inr "alone" : Key) (.ref M.la)=mdK M:=by
 rw[vo]
 ·rfl
 ·intro kv h;unfold md2 at h;simp only[mem_cons,not_mem_nil,or_false] at h;rcases h with rfl | rfl | rfl | rfl
  ·exact mk4
  ·exact mk7
  ·exact mk9
  ·exact mk0
def GZ(dt dw lr lk:Addr):gk (md2 dt dw lr lk) (Sum.inr "links" : Key)=some (V.ref lk):=(aX mk3).trans ((aX mk6).trans ((aX mk8).trans (bD rfl)))
def Gv(h:H m=some (.dK (md2 dt dw lr lk))):iG H m (.str "links") (some (.ref lk)):=by
 rw[← GZ dt dw lr lk];exact iG.k (k:=(Sum.inr _:Key)) h
def LQ(k:Lnk):Nat->List Int
 | 0=>k.2.2.2.1
 | _=>k.2.2.2.2
structure MdN(H0:Hp)(H:Hp)(m dt dw lr l0 l1:Addr)(L R:List Prt):Prop where
 er:H lr=some (.lst [.ref l0,.ref l1])
 e0:H l0=some (.lst (bO L))
 e1:H l1=some (.lst (bO R))
 nd:[m,dt,dw,lr,l0,l1].Nodup
 fr:∀ a∈[m,dt,dw,lr,l0,l1],H0 a=none
def MdN.keep(h:MdN H0 H m dt dw lr l0 l1 L R)(k:∀(a:Addr)(vs:List V),H a=some (.lst vs)->H' a=some (.lst vs)):MdN H0 H' m dt dw lr l0 l1 L R:=⟨k _ _ h.er,k _ _ h.e0,k _ _ h.e1,h.nd,h.fr⟩
section
variable {P:Program}{w:World}{K:W.Frag}{mg:Str->Option Value}{base:Heap}
def gU:aR ["_law_book_here","_law_model_here","_law_part","_law_ones","_law_others","_law_told","_law_lost","_law_link_here"] ["_law_book_here"] (aC pN):=⟨rfl,rfl,rfl,by decide +kernel,rfl,by decide +kernel,by decide +kernel⟩
def KJ(h:Has K mg "_law_model" pN ["_law_book_here"])(Uu:mg "list" = none):Cal P w K mg base "_law_model" 1 ["_law_book_here"] CK:=by
 refine h.mk' gU (fun vs H Q E hs=>?_) (fun f cdv A outer s H vs Q E hr hs=>?_)
 ·obtain⟨S,v,L,R,ks,al,rfl,_⟩:=hs
  rfl
 obtain⟨S,v,L,R,ks,al,rfl,hv,hS,hL,hR,hK,hnd,hmo,k⟩:=hs;refine qex ⟨_,(gF (Jd (i:=1) gU.nd rfl (Or.inl rfl) (K4 (xU HN ⟨wL⟩ (xU HN ⟨wL⟩ JM)) rfl rfl (by simp) (by decide)))
  (gF ⟨(dY (bU hr) (pv 1) aG (cD ["_law_book_here","_law_model_here","_law_part","_law_ones","_law_others","_law_told","_law_lost","_law_link_here"] (aC pN) ["_law_side_here"] [none] rfl rfl rfl (fY (gq wu (pv 0) iW (gY aA))) rfl (by decide +kernel) (by decide +kernel) (by decide +kernel) (by decide +kernel) (hg:=fun cl C s H ex pn E=>(aP (i:=0) (by decide +kernel:(["_law_side_here"]:List Str).Nodup) rfl (Or.inl rfl))) (ht:=fun cl C s H ex pn E=>dI) (he:=fun cl C s H ex pn E=>(cD ["_law_side_here"] _ ["_law_part"] [none] rfl rfl rfl (Dv (K:=K) rfl (pv 0)) rfl (by decide +kernel) (by decide +kernel) (Iw (by decide +kernel)) (by decide +kernel) (hg:=fun cl C s H ex pn E=>(aP (i:=0) (by decide +kernel:(["_law_part"]:List Str).Nodup) rfl (Or.inl rfl))) (ht:=fun cl C s H ex pn E=>dI) (he:=fun cl C s H ex pn E=>(bx (vd (K:=K) rfl) (pv 0) aA (fun _ _=>rfl)))))) rfl)⟩
  (gF ⟨(dU PassesOwn.never rfl (fY (bF jr (bx bJ (pv 0) aA (fun _ _=>rfl)) (bx bJ (pv 0) aA (fun _ _=>rfl)))) (aP (i:=2) gU.nd rfl (Or.inl rfl))
   (au (dY (bU hr) (bw (bU hr) (pv 1) aG (fun _ _=>rfl)) (bx bJ (pv 2) aA (fun _ _=>rfl)) (bx bJ (pv 2) aA (fun _ _=>rfl)) rfl)
  (aB (dY (bU hr) (bw (bU hr) (pv 1) aG (fun _ _=>rfl)) (bx bJ (pv 2) aA (fun _ _=>rfl)) (aQ dM rfl Uu boot_list (aj (bx bJ (pv 2) aA (fun _ _=>rfl)) aq)) rfl))))⟩
  (gF ⟨(dY (bU hr) (pv 1) aG (bR aq) rfl)⟩
  (gF ⟨(dU PassesOwn.never rfl (fY (bx bJ (pv 0) aA (fun _ _=>rfl))) (tX (n:=4) rfl (bN (aP (i:=3) gU.nd rfl (Or.inl rfl)) (bN (aP (i:=4) gU.nd rfl (Or.inl rfl)) (bN (aP (i:=5) gU.nd rfl (Or.inl rfl)) (bN (aP (i:=6) gU.nd rfl (Or.inl rfl)) jR)))))
   (au (aL (i:=7) gU.nd rfl (Or.inl rfl) (bR (aj (aQ dM rfl Uu boot_list (aj (pv 3) aq)) (aj (aQ dM rfl Uu boot_list (aj (pv 4) aq)) (aj (pv 5) aq)))))
  (aB (cQ (gC PySem.F.plainAttrs_list PySem.F.slot_list_append PySem.F.type_list_append bY (bw (bU hr) (pv 1) aG (fun _ _=>rfl)) (aj (bF j7 (pv 7) (cD ["_law_book_here","_law_model_here","_law_part","_law_ones","_law_others","_law_told","_law_lost","_law_link_here"] (aC pN) ["_law_one"] [none] rfl rfl rfl (fY (pv 6)) rfl (by decide +kernel) (by decide +kernel) (by decide +kernel) (by decide +kernel) (hg:=fun cl C s H ex pn E=>(aP (i:=0) (by decide +kernel:(["_law_one"]:List Str).Nodup) rfl (Or.inl rfl))) (ht:=fun cl C s H ex pn E=>dI) (he:=fun cl C s H ex pn E=>(aQ (qj (K:=K) rfl) rfl Uu boot_list (aj (pv 0) aq))))) aq))))))⟩
  (gF ⟨(dY (bU hr) (pv 1) aG (aQ dM rfl Uu boot_list (aj (bx bJ (pv 0) aA (fun _ _=>rfl)) aq)) rfl)⟩
  (Lk ⟨(aW (pv 1))⟩))))))),?_⟩
 obtain⟨p,pl,pr,pk,pa,ls,rs,us,rfl,a1,a2,a3,a4,a5,a6,a7,a8⟩:=lZ hv;have hl1:=a3.len;have hl2:=a5.len;have hl3:=a7.len;rw[Xa] at hl1 hl2 hl3;have at_:∀ {j:Nat}{y:V},[V.ref pl,.ref pr,.ref pk,.ref pa][j]?=some y->atI [V.ref pl,.ref pr,.ref pk,.ref pa] (j:Nat)=some y:=fun h=>aZ h
 refine zK (fun σ H'=>∃ m dt dw,σ=[some (.ref p),some (.ref m),none,none,none,none,none,none]/\Same H H'/\H' m=some (.dK (md0 dt dw))/\H' dt=some (.dK [])/\H' dw=some (.dK [])/\[m,dt,dw].Nodup/\∀ a∈[m,dt,dw],H a=none) (fun N hN=>?_) ?_
 ·intro m hm;intro dt hdt;intro dw hdw;have n1:m≠dt:=aD ak hdt;have s2:=ao hdt (.dK []);have n2:m≠dw:=aD (s2 _ _ ak) hdw;have n3:dt≠dw:=aD ak hdw;have s3:=(ao hm (.dK [])).trans (s2.trans (ao hdw (.dK [])));have em:(upd (upd (upd H m (.dK [])) dt (.dK [])) dw (.dK [])) m=some (.dK []):=by rw[aF n2,aF n1];exact ak
  have et:(upd (upd (upd H m (.dK [])) dt (.dK [])) dw (.dK [])) dt=some (.dK []):=by rw[aF n3];exact ak
  have ew:(upd (upd (upd H m (.dK [])) dt (.dK [])) dw (.dK [])) dw=some (.dK []):=ak;have f2:H dt=none:=(ao hm (.dK [])).free hdt;have f3:H dw=none:=((ao hm (.dK [])).trans s2).free hdw;generalize upd (upd (upd H m (.dK [])) dt (.dK [])) dw (.dK [])=H1 at s3 em et ew ⊢;refine⟨em,md0 dt dw,rfl,(by show 2<=15;decide),hN _ _ ⟨m,dt,dw,rfl,?_,?_,by rw[aF (Ne.symm n1)];exact et,by rw[aF (Ne.symm n2)];exact ew,?_,?_⟩⟩
  ·exact fun c o e=>by rw[aF (aD e hm)];exact s3 c o e
  ·rw[ak,Ht]
  ·simp[n1,n2,n3]
  ·intro a ha;simp only[mem_cons,not_mem_nil,or_false] at ha;rcases ha with rfl | rfl | rfl
   ·exact hm
   ·exact f2
   ·exact f3
 rintro σ H1 ⟨m,dt,dw,rfl,s1,em,et,ew,nd1,fr1⟩;refine zK (fun σ H'=>∃ lr l0 l1,σ=[some (.ref p),some (.ref m),none,none,none,none,none,none]/\Same H H'/\H' m=some (.dK (md1 dt dw lr))/\H' dt=some (.dK [])/\H' dw=some (.dK [])/\MdN H H' m dt dw lr l0 l1 L R) (fun N hN=>?_) ?_
 ·refine⟨_,rfl,_,rfl,p,_,rfl,s1 _ _ a1,fun q2 H2 s2 e2=>?_⟩;have e2:H2 q2=some (.tup [.ref pl,.ref pr]):=e2;have s02:=s1.trans s2;refine⟨q2,rfl,⟨_,SqT.of e2⟩,fun lr hlr=>?_⟩;have nlr:∀ {a:Addr}{o:HO},H2 a=some o->a≠lr:=fun e=>aD e hlr
  refine cZ (J:=Itt K q2) (l:=lr) 2 (fun i σ' H'=>∃ v0 as,σ'=[v0]/\Same H2 H'/\H' lr=some (.lst (as.map V.ref))/\as.length=i/\as.Nodup/\(∀ a∈as,H2 a=none/\a≠lr)/\∀(j:Nat)(a:Addr),as[j]?=some a->H' a=some (.lst (bO (sdP j L R)))) ⟨none,[],rfl,ao hlr _,ak,rfl,.nil,(fun a h=>nomatch h),fun j a h=>nomatch h⟩ ?_ ?_
  rotate_left
  ·rintro i σ' H3 hi ⟨v0,as,rfl,s3,e3,hal,hnd3,hfr,hrow⟩;obtain⟨hi1,pq,us',hat,hpq,dpq⟩:i<=1/\∃ pq us',[V.ref pl,V.ref pr][i]?=some (.ref pq)/\H pq=some (.tup us')/\bL H us' ((sdP i L R).map bH):=by
    match i,hi with
    | 0,_=>exact⟨by lia,pl,ls,rfl,a2,a3⟩
    | 1,_=>exact⟨by lia,pr,rs,rfl,a4,a5⟩
   refine⟨⟨_,_,SqT.of (s3 _ _ e2),hat⟩,?_⟩;rintro N2 hN2 y H4 ⟨rfl,hy⟩;have ey:y=.ref pq:=WT ((hy _ (SqT.of (s3 _ _ e2))).symm.trans hat);subst ey;have s03:=s02.trans s3;have hpq3:=s03 _ _ hpq;have hul:=dpq.len;rw[Xa] at hul;refine gN (Fe (rY ⟨_,rfl,pq,rfl,⟨_,SqT.of hpq3⟩,fun li hli=>?_⟩));have nli:li≠lr:=(aD e3 hli).symm;have hli2:H2 li=none:=s3.free hli;have hlia:li ∉ as:=fun z=>by
    obtain⟨j,hj⟩:=mem_iff_getElem?.mp z;rw[hrow j li hj] at hli;cases hli
   refine cZ (J:=Itt K pq) (l:=li) us'.length (fun z σ'' H''=>∃ v:Option V,σ''=[v]/\Same H4 H''/\H'' li=some (.lst (bO ((sdP i L R).take z)))) ⟨none,rfl,ao hli _,ak⟩ ?_ ?_
   ·rintro σ'' H5 ⟨v5,rfl,s5,e5⟩;rw[hul,take_length] at e5;refine⟨⟨_,SqT.of (s5 _ _ hpq3),Wu _⟩,?_⟩;have e35:=s5 _ _ e3;refine⟨_,e35,aH (by rw[Xa];lia),hN2 _ _ ⟨_,as++[li],rfl,cg (s3.trans s5) hlr,by rw[ak,map_append];rfl,by rw[W0,hal];rfl,?_,fun a ha=>?_,fun j a hj=>?_⟩⟩
    ·rw[nodup_append];refine⟨hnd3,by simp,fun x hx y hy z=>?_⟩;rw[mem_singleton.mp hy] at z;exact hlia (by rw[← z];exact hx)
    ·rcases mem_append.mp ha with h | h
     ·exact hfr a h
     ·rw[mem_singleton.mp h];exact⟨hli2,nli⟩
    ·rcases Nat.lt_or_ge j as.length with h | h
     ·rw[getElem?_append_left h] at hj;rw[aF (hfr a (W2 hj)).2];exact s5 _ _ (hrow j a hj)
     ·rw[getElem?_append_right h] at hj;have hj0:j - as.length=0:=by
       have:=(Wt.mp hj).1;rw[length_singleton] at this;lia
      rw[hj0] at hj;have ea:li=a:=WT hj;have ej:j=i:=by lia
      rw[← ea,ej,aF nli];exact e5
   ·rintro z σ'' H5 hz ⟨v5,rfl,s5,e5⟩;have hzl:z<(sdP i L R).length:=by lia
    refine⟨⟨_,_,SqT.of (s5 _ _ hpq3),bZ hz⟩,?_⟩;rintro N3 hN3 y H6 ⟨rfl,hy⟩;have ey:y=us'[z]:=WT ((hy _ (SqT.of (s5 _ _ hpq3))).symm.trans (bZ hz));have dy:Den H us'[z] (bH (sdP i L R)[z]):=at_of dpq (bZ hz) (by rw[W8,bZ hzl];rfl);have htk:=take_one (bZ hzl);rw[← ey] at dy;generalize (sdP i L R)[z]=r at dy htk;obtain⟨c,pm,rfl,hc,hpm⟩:=lO (dy.same (s03.trans s5));refine gN (Fe (rY ⟨_,rfl,c,_,_,_,rfl,rfl,SqT.of hc,bC _ _,_,e5,aH (by unfold bO sdP;rw[Xa,length_take];split <;> lia),hN3 _ _ ⟨_,rfl,cg s5 hli,?_⟩⟩));rw[ak,htk];unfold bO;rw[map_append]
    rfl
  rintro σ' H3 ⟨v0,as,rfl,s3,e3,hal,hnd3,hfr,hrow⟩;obtain⟨l0,l1,rfl⟩:∃ l0 l1,as=[l0,l1]:=by
   match as,hal with
   | [l0,l1],_=>exact⟨l0,l1,rfl⟩
  have s23:=s2.trans s3;have hm3:=s23 _ _ em;have sne:∀ kv∈md0 dt dw,kv.1≠(Sum.inr "rows" : Key):=fun kv h=>by
   unfold md0 at h;simp only[mem_cons,not_mem_nil,or_false] at h;rcases h with rfl | rfl
   ·exact mk2
   ·exact mk5
  refine⟨⟨_,SqT.of (s3 _ _ e2),Wu _⟩,_,rfl,m,_,rfl,rW.k (k:=(Sum.inr "rows" : Key)) hm3 (aH (show 2<=1000 by lia)),hN _ _ ⟨lr,l0,l1,rfl,?_,?_,?_,?_,?_⟩⟩
  ·exact fun c o e=>by rw[aF (aD e (fr1 m (by simp)))];exact(s02.trans s3) c o e
  ·rw[ak,vo sne]
   rfl
  ·have hne:dt≠m:=by simp only[nodup_cons,mem_cons,not_or] at nd1;exact Ne.symm nd1.1.1
   rw[aF hne];exact s23 _ _ et
  ·have hne:dw≠m:=by simp only[nodup_cons,mem_cons,not_or] at nd1;exact Ne.symm nd1.1.2.1
   rw[aF hne];exact s23 _ _ ew
  ·have q0:=hfr l0 (.head _);have q1:=hfr l1 (.tail _ (.head _));have em2:=s2 _ _ em;have et2:=s2 _ _ et;have ew2:=s2 _ _ ew;have nm0:l0≠m:=fun z=>by rw[← z,q0.1] at em2;cases em2
   have nm1:l1≠m:=fun z=>by rw[← z,q1.1] at em2;cases em2
   have nmr:lr≠m:=fun z=>by rw[← z,hlr] at em2;cases em2
   refine⟨by rw[aF nmr];exact e3,by rw[aF nm0];exact hrow 0 l0 rfl,by rw[aF nm1];exact hrow 1 l1 rfl,?_,?_⟩
   ·have t0:dt≠lr:=nlr et2;have t1:dw≠lr:=nlr ew2;have t2:dt≠l0:=fun z=>by rw[z,q0.1] at et2;cases et2
    have t3:dt≠l1:=fun z=>by rw[z,q1.1] at et2;cases et2
    have t4:dw≠l0:=fun z=>by rw[z,q0.1] at ew2;cases ew2
    have t5:dw≠l1:=fun z=>by rw[z,q1.1] at ew2;cases ew2
    simp only[nodup_cons,mem_cons,not_mem_nil,or_false,not_or,not_false_eq_true,and_true] at nd1 hnd3 ⊢;exact⟨⟨nd1.1.1,nd1.1.2,Ne.symm nmr,Ne.symm nm0,Ne.symm nm1⟩,⟨nd1.2.1,t0,t2,t3⟩,⟨t1,t4,t5⟩,⟨Ne.symm q0.2,Ne.symm q1.2⟩,hnd3.1,trivial,nodup_nil⟩
   ·intro a ha;simp only[mem_cons,not_mem_nil,or_false] at ha;rcases ha with rfl | rfl | rfl | rfl | rfl | rfl
    ·exact fr1 _ (by simp)
    ·exact fr1 _ (by simp)
    ·exact fr1 _ (by simp)
    ·exact s02.free hlr
    ·exact s02.free q0.1
    ·exact s02.free q1.1
 rintro σ H2 ⟨lr,l0,l1,rfl,s2,em2,et2,ew2,hN2⟩;have hnd6:=hN2.nd;simp only[nodup_cons,mem_cons,not_mem_nil,or_false,not_or,not_false_eq_true,and_true] at hnd6;obtain⟨⟨m1,m2,m3,m4,m5⟩,⟨t1,t2,t3,t4⟩,⟨w1,w2,w3⟩,⟨r1,r2⟩,l01,_⟩:=hnd6;clear em et ew s1 nd1 fr1 H1;refine zK (fun σ H'=>∃ v2:Option V,σ=[some (.ref p),some (.ref m),v2,none,none,none,none,none]/\Same H H'/\H' m=some (.dK (md1 dt dw lr))/\MdN H H' m dt dw lr l0 l1 L R/\Qw H' dt (L++R)/\∃ W,WhN S [m,dt,dw,lr,l0,l1] H' dw W (L++R)) (fun N hN=>?_) ?_
 ·refine⟨_,rfl,p,_,_,_,rfl,rfl,SqT.of (s2 _ _ a1),bC _ _,_,rfl,p,_,_,_,rfl,rfl,SqT.of (s2 _ _ a1),at_ (j:=1) rfl,pl,pr,_,_,rfl,rfl,s2 _ _ a2,s2 _ _ a4,small (by lia),fun q3 H3 s3 e3=>⟨q3,rfl,⟨_,SqT.of e3⟩,?_⟩⟩;have s03:=s2.trans s3;have dA:bL H (ls++rs) ((L++R).map bH):=by
   rw[map_append];exact eG a3 a5
  have hPl:(L++R).length=(ls++rs).length:=by rw[W0,W0,hl1,hl2]
  have hP12:(L++R).length<=120:=by rw[W0];lia
  refine jK (K:=K) (a:=q3) (xs:=ls++rs) (fun i σ H'=>∃ v2:Option V,σ=[some (.ref p),some (.ref m),v2,none,none,none,none,none]/\Same H H'/\H' q3=some (.tup (ls++rs))/\H' m=some (.dK (md1 dt dw lr))/\MdN H H' m dt dw lr l0 l1 L R/\Qw H' dt ((L++R).take i)/\∃ W,WhN S [m,dt,dw,lr,l0,l1] H' dw W ((L++R).take i)) ⟨_,rfl,s03,e3,s3 _ _ em2,hN2.keep fun a vs h=>s3 _ _ h,⟨[],s3 _ _ et2,Nat.zero_le _,fun p hp=>(by cases hp),fun k v hv=>(by cases hv)⟩,[],⟨[],s3 _ _ ew2,Nat.zero_le _,rfl,fun i p hp=>(by rw[take_zero] at hp;cases hp)⟩,nodup_nil,fun a h=>nomatch h⟩ ?_ ?_ ?_
  ·rintro i σ H4 _ ⟨_,_,_,e4,_⟩;exact SqT.of e4
  ·rintro i y σ H4 hi ⟨v2,rfl,s4,e4,em4,hN4,hT4,W,hW4⟩;have hil:i<(L++R).length:=by
    have:=(Wt.mp hi).1;lia
   have dy:Den H y (bH (L++R)[i]):=at_of dA hi (by rw[W8,bZ hil];rfl);have htk:=take_one (bZ hil);have hnew:∀ r∈(L++R).take i,r.1≠(L++R)[i].1:=fun r hr z=>by
    have hnd':(((L++R).take (i+1)).map (·.1)).Nodup:=hnd.sublist ((List.take_sublist _ _).map _);rw[htk,map_append,nodup_append] at hnd';exact hnd'.2.2 r.1 (mem_map_of_mem hr) _ (mem_map_of_mem (List.mem_singleton_self _)) z
   have hti:((L++R).take i).length=i:=by rw[length_take];lia
   have hmq:=hmo _ (getElem_mem hil);generalize (L++R)[i]=q at dy htk hnew hmq;obtain⟨c,pm,rfl,hc0,hpm0⟩:=lO dy;obtain⟨kt,et,hkl,hkt,hkk⟩:=hT4.ex;obtain⟨kw,ew,hwl,hWl,hkw⟩:=hW4.w.ex;have hc:=s4 _ _ hc0;refine LC fun E1 hE1=>gN ⟨_,rfl,c,_,_,_,rfl,rfl,SqT.of hc,aZ (xs:=[mkT q.1,mkT q.2.1,V.ref pm]) (j:=1) rfl,_,rfl,m,_,rfl,Jt em4,_,rfl,c,_,_,_,rfl,rfl,SqT.of hc,bC _ _,dt,_,rfl,rW.k (k:=nk q.1) et (aH (by lia)),?_⟩
   have b0:But dt H4 (upd H4 dt (.dK (putK kt (nk q.1) (mkT q.2.1)))):=.upd _;have bt:(upd H4 dt (.dK (putK kt (nk q.1) (mkT q.2.1)))) dt=some (.dK (putK kt (nk q.1) (mkT q.2.1))):=ak;generalize upd H4 dt (.dK (putK kt (nk q.1) (mkT q.2.1)))=H5 at b0 bt;have kL:∀(a:Addr)(vs:List V),H4 a=some (.lst vs)->H5 a=some (.lst vs):=fun a vs h=>b0 _ _ h (j6 h et)
   have hfd:=hN4.fr dt (by simp);have s5:Same H H5:=But.same s4 hfd b0;have em5:=b0 _ _ em4 m1;have ew5:=b0 _ _ ew (Ne.symm t1);have hc5:=s5 _ _ hc0;have hpm5:=s5 _ _ hpm0;refine⟨_,rfl,c,_,_,_,rfl,rfl,SqT.of hc5,aZ (xs:=[mkT q.1,mkT q.2.1,V.ref pm]) (j:=2) rfl,pm,_,rfl,.inr (SqT.of hpm5),fun l hl=>?_⟩;have s6:=ao hl (.lst (q.2.2.map V.int));have e6:(upd H5 l (.lst (q.2.2.map V.int))) l=some (.lst (q.2.2.map V.int)):=ak;generalize upd H5 l (.lst (q.2.2.map V.int))=H6 at s6 e6 ⊢;refine⟨_,rfl,m,_,rfl,JL (s6 _ _ em5),_,rfl,c,_,_,_,rfl,rfl,SqT.of (s6 _ _ hc5),bC _ _,dw,_,rfl,rW.k (k:=nk q.1) (s6 _ _ ew5) (aH (by lia)),?_⟩;have hlS:l ∉ S:=fun z=>by
    obtain⟨o,ho⟩:=hS l z;rw[s5 _ _ ho] at hl;cases hl
   have hlT:l ∉ [m,dt,dw,lr,l0,l1]:=fun z=>by
    simp only[mem_cons,not_mem_nil,or_false] at z;rcases z with z | z | z | z | z | z
    ·rw[z,em5] at hl;cases hl
    ·rw[z,bt] at hl;cases hl
    ·rw[z,ew5] at hl;cases hl
    ·rw[z,kL _ _ hN4.er] at hl;cases hl
    ·rw[z,kL _ _ hN4.e0] at hl;cases hl
    ·rw[z,kL _ _ hN4.e1] at hl;cases hl
   have hlW:l ∉ W:=fun z=>by
    obtain⟨vs,h⟩:=hW4.w.row z;rw[kL _ _ h] at hl;cases hl
   have kp:∀(a:Addr)(o:HO),H5 a=some o->a≠dw->(upd H6 dw (.dK (putK kw (nk q.1) (.ref l)))) a=some o:=fun a o h hne=>by
    rw[aF hne];exact s6 _ _ h
   refine hE1.n _ _ ⟨_,rfl,fun a o h=>?_,?_,kp _ _ em5 m2,hN4.keep fun a vs h=>kp _ _ (kL _ _ h) (j6 h ew),⟨_,kp _ _ bt t1,?_,fun r hr=>?_,fun k v hv=>?_⟩,W++[l],⟨_,ak,?_,?_,fun j r hr=>?_⟩,?_,fun a ha=>?_⟩
   ·exact kp _ _ (s5 _ _ h) (aD h (hN4.fr dw (by simp)))
   ·exact kp _ _ (b0 _ _ e4 (lA e4 et (by intro z;cases z))) (lA e4 ew (by intro z;cases z))
   ·rw[htk,W0,length_singleton];have:=wN kt (nk q.1) (mkT q.2.1);lia
   ·rw[qH];rw[htk] at hr;rcases mem_append.mp hr with h | h
    ·rw[if_neg fun z=>hnew r h (Ib z)];exact hkt r h
    ·rw[mem_singleton.mp h,if_pos rfl]
   ·rw[qH] at hv;rw[htk];by_cases c:k=nk q.1
    ·rw[if_pos c] at hv;exact⟨q,W4 _ (List.mem_singleton_self _),c,(WT hv).symm⟩
    ·rw[if_neg c] at hv;obtain⟨r,hr,e⟩:=hkk k v hv;exact⟨r,W5 _ hr,e⟩
   ·rw[htk,W0,length_singleton];have:=wN kw (nk q.1) (.ref l);lia
   ·rw[htk,W0,W0,hWl]
    rfl
   ·rw[htk] at hr;rw[qH];rcases Nat.lt_or_ge j ((L++R).take i).length with h | h
    ·rw[getElem?_append_left h] at hr;have hrm:=W2 hr;obtain⟨l',ws',y0,x1,x3,x4,x5⟩:=hkw j r hr;rw[if_neg fun z=>hnew r hrm (Ib z)];exact⟨l',ws',by rw[getElem?_append_left (by rw[hWl];exact h)];exact y0,x1,kp _ _ (kL _ _ x3) (j6 x3 ew),x4,x5⟩
    ·rw[getElem?_append_right h] at hr;have h0:j - ((L++R).take i).length=0:=by
      have:=(Wt.mp hr).1;rw[length_singleton] at this;lia
     rw[h0] at hr;have er:q=r:=WT hr;rw[← er,if_pos rfl];exact⟨l,q.2.2,by rw[getElem?_append_right (by rw[hWl];exact h),hWl,h0];rfl,rfl,by rw[aF (Ne.symm (aD ew5 hl))];exact e6,hmq,fun k=>Iff.rfl⟩
   ·rw[nodup_append];exact⟨hW4.nd,by simp,fun a ha b hb z=>hlW (by rw[← mem_singleton.mp hb,← z];exact ha)⟩
   ·rcases mem_append.mp ha with h | h
    ·exact hW4.fr a h
    ·rw[mem_singleton.mp h];exact⟨hlS,hlT⟩
  ·rintro σ H4 ⟨v2,rfl,s4,e4,em4,hN4,hT4,W,hW4⟩;rw[← hPl,take_length] at hT4 hW4;exact hN _ _ ⟨_,rfl,s4,em4,hN4,hT4,W,hW4⟩
 rintro σ H3 ⟨v2,rfl,s3,em3,hN3,hT3,W,hW3⟩;clear s2 em2 et2 ew2 hN2 H2;obtain⟨kt,et,hkl,hkt⟩:=hT3.ex;obtain⟨kw,ew,hwl,hWl,hkw⟩:=hW3.w.ex;refine⟨smn 0,fun lk hlk=>?_⟩;have s4:=ao hlk (.lst []);have e4:(upd H3 lk (.lst [])) lk=some (.lst []):=ak;have nlk:∀ {a:Addr}{o:HO},H3 a=some o->a≠lk:=fun e=>aD e hlk
 have flk:H lk=none:=s3.free hlk;generalize upd H3 lk (.lst [])=H4 at s4 e4 ⊢;refine⟨_,rfl,m,_,rfl,rW.k (k:=(Sum.inr "links" : Key)) (s4 _ _ em3) (aH (show 3<=1000 by lia)),?_⟩;rw[Dm];have b5:But m H4 (upd H4 m (.dK (md2 dt dw lr lk))):=.upd _;have em5:(upd H4 m (.dK (md2 dt dw lr lk))) m=some (.dK (md2 dt dw lr lk)):=ak;generalize upd H4 m (.dK (md2 dt dw lr lk))=H5 at b5 em5;have em4:=s4 _ _ em3;have kL5:∀(a:Addr)(vs:List V),H3 a=some (.lst vs)->H5 a=some (.lst vs):=fun a vs h=>b5 _ _ (s4 _ _ h) (j6 (s4 _ _ h) em4)
 have e5:H5 lk=some (.lst []):=b5 _ _ e4 (j6 e4 em4);have s5:Same H H5:=But.same (s3.trans s4) (hN3.fr m (by simp)) b5;have hN5:=hN3.keep kL5;have hT5:Qw H5 dt (L++R):=⟨kt,b5 _ _ (s4 _ _ et) (Ne.symm m1),hkl,hkt⟩
 have hW5:WhN S [m,dt,dw,lr,l0,l1] H5 dw W (L++R):=⟨⟨kw,b5 _ _ (s4 _ _ ew) (Ne.symm m2),hwl,hWl,fun j r hr=>by
  obtain⟨l',ws',y0,x1,x3,x45⟩:=hkw j r hr;exact⟨l',ws',y0,x1,kL5 _ _ x3,x45⟩⟩,hW3.nd,hW3.fr⟩
 have nWlk:∀ a∈W,a≠lk:=fun a ha=>by
  obtain⟨vs,h⟩:=hW3.w.row ha;exact nlk h
 have k0:l0≠lk:=nlk hN3.e0;have k1:l1≠lk:=nlk hN3.e1;have k2:lr≠lk:=nlk hN3.er;have k3:m≠lk:=nlk em3;have k4:dt≠lk:=nlk et;have k5:dw≠lk:=nlk ew;clear b5 em4 s4 e4 hN3 hT3 hW3 kL5 nlk hkt hkw hkl hwl et ew em3 s3 hlk H4 H3 kt kw;refine⟨_,rfl,p,_,_,_,rfl,rfl,SqT.of (s5 _ _ a1),at_ (j:=2) rfl,pk,rfl,⟨_,SqT.of (s5 _ _ a6)⟩,?_⟩;have a6':=s5 _ _ a6;have nT:pk≠lk:=lA a6' e5 (by intro z;cases z);refine jK (K:=K) (a:=pk) (xs:=us) (fun i σ H'=>∃ v3 v4 v5 v6 v7 ws,σ=[some (.ref p),some (.ref m),v2,v3,v4,v5,v6,v7]/\But lk H5 H'/\H' lk=some (.lst ws)/\ws.length=i/\ws.Nodup/\Hz H' ws/\∀(j:Nat)(u:V)(kk:Lnk),ws[j]?=some u->ks[j]?=some kk->oR (m::dt::dw::lr::l0::l1::lk::(W++S)) H' u kk) ⟨_,_,_,_,_,[],rfl,.of (Same.refl _),e5,rfl,.nil,⟨.nil,fun q h=>nomatch h⟩,fun j u kk h=>nomatch h⟩ ?_ ?_ ?_
 ·rintro i σ H6 _ ⟨_,_,_,_,_,_,_,b6,_⟩;exact SqT.of (b6 _ _ a6' nT)
 ·rintro i y σ H6 hi ⟨v3,v4,v5,v6,v7,ws,rfl,b6,e6,hwl,hwnd,hsp,hws⟩;have hil:i<ks.length:=by
   have:=(Wt.mp hi).1;lia
  have dy:Den H y (aV ks[i]):=at_of a7 hi (by rw[W8,bZ hil];rfl);have hki:=bZ hil;generalize ks[i]=kk at dy hki;obtain⟨q,p0,p1,p3,p4,p5,us0,us1,rfl,c0,c1,c2,c3,c4,c5,c6,c7⟩:=lF dy;have hu0:=zF c2;have hu1:=zF c4;subst hu0;subst hu1;have s06:Same H H6:=But.same s5 flk b6;refine LC fun E1 hE1=>⟨q,_,rfl,SqT.of (s06 _ _ c0),rfl,_,_,rfl,_,_,rfl,_,_,rfl,_,_,rfl,rfl,?_⟩
  refine⟨_,rfl,p0,_,rfl,.inr (SqT.of (s06 _ _ c1)),fun a ha=>?_⟩;have s7:=ao ha (.lst (kk.1.map mkT));have f7:(upd H6 a (.lst (kk.1.map mkT))) a=some (.lst (kk.1.map mkT)):=ak;generalize upd H6 a (.lst (kk.1.map mkT))=H7 at s7 f7 ⊢;refine⟨_,rfl,p1,_,rfl,.inr (SqT.of (s7 _ _ (s06 _ _ c3))),fun b hb=>?_⟩;have s8:=ao hb (.lst (kk.2.1.map mkT));have f8:(upd H7 b (.lst (kk.2.1.map mkT))) b=some (.lst (kk.2.1.map mkT)):=ak;generalize upd H7 b (.lst (kk.2.1.map mkT))=H8 at s8 f8 ⊢;refine⟨_,rfl,smn 3,fun q0 hq0=>?_⟩;have s9:=ao hq0 (.lst [.ref a,.ref b,.int kk.2.2.1]);have f9:(upd H8 q0 (.lst [.ref a,.ref b,.int kk.2.2.1])) q0=some (.lst [.ref a,.ref b,.int kk.2.2.1]):=ak;generalize upd H8 q0 (.lst [.ref a,.ref b,.int kk.2.2.1])=H9 at s9 f9 ⊢;have s69:=(s7.trans s8).trans s9;have s09:=s06.trans s69;have em9:=s69 _ _ (b6 _ _ em5 k3);have e69:=s69 _ _ e6;refine⟨_,rfl,m,_,rfl,Gv em9,.inl ⟨rfl,_,SqL.of e69⟩,_,rfl,_,rfl,p3,rfl,⟨_,SqT.of (s09 _ _ c5)⟩,fun lc hlc=>?_⟩;refine cZ (J:=Itt K p3) (l:=lc) 2 (fun j σ' H'=>∃ v0 as,σ'=[v0]/\Same H9 H'/\H' lc=some (.lst (as.map V.ref))/\as.length=j/\as.Nodup/\(∀ x∈as,H9 x=none/\x≠lc)/\∀(z:Nat)(x:Addr),as[z]?=some x->H' x=some (.lst ((LQ kk z).map V.int))) ⟨none,[],rfl,ao hlc _,ak,rfl,.nil,(fun x h=>nomatch h),fun z x h=>nomatch h⟩ ?_ ?_
  rotate_left
  ·rintro j σ' Ha hj ⟨v0,as,rfl,sa,ea,hal,hasn,hfr,hrow⟩;obtain⟨hj1,pq,hat,hpq⟩:j<=1/\∃ pq:Addr,[V.ref p4,V.ref p5][j]?=some (.ref pq)/\H pq=some (.tup ((LQ kk j).map V.int)):=by
    match j,hj with
    | 0,_=>exact⟨by lia,p4,rfl,c6⟩
    | 1,_=>exact⟨by lia,p5,rfl,c7⟩
   have s0a:=s09.trans sa;refine⟨⟨_,_,SqT.of (s0a _ _ c5),hat⟩,?_⟩;rintro N2 hN2 y Hb ⟨rfl,hy⟩;have ey:y=.ref pq:=WT ((hy _ (SqT.of (s0a _ _ c5))).symm.trans hat);subst ey;refine gN (Fe (rY ⟨_,rfl,pq,_,rfl,.inr (SqT.of (s0a _ _ hpq)),fun li hli=>?_⟩));have nli:li≠lc:=(aD ea hli).symm;have sb:=ao hli (.lst ((LQ kk j).map V.int));have eb:(upd Hb li (.lst ((LQ kk j).map V.int))) li=some (.lst ((LQ kk j).map V.int)):=ak;generalize upd Hb li (.lst ((LQ kk j).map V.int))=Hc at sb eb ⊢;refine⟨_,sb _ _ ea,aH (by rw[Xa];lia),hN2 _ _ ⟨_,as++[li],rfl,cg (sa.trans sb) hlc,by rw[ak,map_append];rfl,by rw[W0,hal];rfl,?_,fun x hx=>?_,fun z x hz=>?_⟩⟩
   ·rw[nodup_append];refine⟨hasn,by simp,fun x hx y hy e=>?_⟩;rw[mem_singleton.mp hy] at e;obtain⟨z,hz,hx'⟩:=mem_iff_getElem.mp hx;have:=hrow z x (by rw[Wr hz,hx']);rw[e,hli] at this;cases this
   ·rcases mem_append.mp hx with h | h
    ·exact hfr x h
    ·rw[mem_singleton.mp h];exact⟨sa.free hli,nli⟩
   ·rcases Nat.lt_or_ge z as.length with h | h
    ·rw[getElem?_append_left h] at hz;rw[aF (hfr x (W2 hz)).2];exact sb _ _ (hrow z x hz)
    ·rw[getElem?_append_right h] at hz;have hz0:z - as.length=0:=by
      have:=(Wt.mp hz).1;rw[length_singleton] at this;lia
     rw[hz0] at hz;have ex:li=x:=WT hz;have ez:z=j:=by lia
     rw[← ex,ez,aF nli];exact eb
  rintro σ' Ha ⟨v0,as,rfl,sa,ea,hal,hasn,hfr,hrow⟩;obtain⟨c,d,rfl⟩:∃ c d,as=[c,d]:=by
   match as,hal with
   | [c,d],_=>exact⟨c,d,rfl⟩
  refine⟨⟨_,SqT.of (sa _ _ (s09 _ _ c5)),Wu _⟩,q0,lc,_,_,rfl,rfl,sa _ _ f9,ea,smn 5,fun qn hqn=>?_⟩;have sb:=ao hqn (.lst [.ref a,.ref b,.int kk.2.2.1,.ref c,.ref d]);have eb:(upd Ha qn (.lst [.ref a,.ref b,.int kk.2.2.1,.ref c,.ref d])) qn=some (.lst [.ref a,.ref b,.int kk.2.2.1,.ref c,.ref d]):=ak;generalize hHb:upd Ha qn (.lst [.ref a,.ref b,.int kk.2.2.1,.ref c,.ref d])=Hb at sb eb;have hHb:upd Ha qn (.lst ([.ref a,.ref b,.int kk.2.2.1]++[c,d].map V.ref))=Hb:=hHb;rw[hHb];have s9b:=sa.trans sb;have s6b:=s69.trans s9b;have e6b:=s6b _ _ e6;have bb:But lk H5 (upd Hb lk (.lst (ws++[.ref qn]))):=(b6.trans (.of s6b)).trans (.upd _);have nb:∀ {x:Addr},H6 x=none->x ∉ m::dt::dw::lr::l0::l1::lk::(W++S):=fun {x} hx z=>by
   obtain⟨kt',et',_⟩:=hT5.ex;obtain⟨kw',ew',_⟩:=hW5.w.ex;simp only[mem_cons] at z;rcases z with z | z | z | z | z | z | z | z
   ·rw[z,b6 _ _ em5 k3] at hx;cases hx
   ·rw[z,b6 _ _ et' k4] at hx;cases hx
   ·rw[z,b6 _ _ ew' k5] at hx;cases hx
   ·rw[z,b6 _ _ hN5.er k2] at hx;cases hx
   ·rw[z,b6 _ _ hN5.e0 k0] at hx;cases hx
   ·rw[z,b6 _ _ hN5.e1 k1] at hx;cases hx
   ·rw[z,e6] at hx;cases hx
   ·rcases mem_append.mp z with z | z
    ·obtain⟨vs,h⟩:=hW5.w.row z;rw[b6 _ _ h (nWlk x z)] at hx;cases hx
    ·obtain⟨o,ho⟩:=hS x z;rw[s06 _ _ ho] at hx;cases hx
  have na:=nb ha;have nbb:=nb (s7.free hb);have hc9:=hfr c (.head _);have hd9:=hfr d (.tail _ (.head _));have nc:=nb (s69.free hc9.1);have nd':=nb (s69.free hd9.1);have nq:=nb ((s69.trans sa).free hqn);have kb:∀ {x:Addr}{vs:List V},Hb x=some (.lst vs)->x ∉ m::dt::dw::lr::l0::l1::lk::(W++S)->(upd Hb lk (.lst (ws++[.ref qn]))) x=some (.lst vs):=fun h n=>by
   rw[aF fun z=>n (by rw[z];simp)];exact h
  refine⟨lk,ws,_,rfl,rfl,e6b,aH (by lia),hE1.n _ _ ⟨_,_,_,_,_,ws++[.ref qn],rfl,bb,ak,by rw[W0,hwl];rfl,?_,?_,fun j u k' hu hk'=>?_⟩⟩
  rotate_left
  ·have lv:∀ {z x:Addr}{o:HO},H9 x=some o->H9 z=none->z≠x:=fun h1 h2 e=>by rw[e,h1] at h2;cases h2
   have fa9:=(s8.trans s9) _ _ f7;have fb9:=s9 _ _ f8;refine FQ hsp (fun v hv m' ad hin=>?_) (kb eb nq) ha (s7.free hb) (s69.free hc9.1) (s69.free hd9.1) ?_
   ·obtain⟨j,hj,rfl⟩:=mem_iff_getElem.mp hv;have hL:=hws j _ ks[j] (Wr hj) (Wr (by lia));obtain⟨q',_,_,_,_,ev,z1,_,_,_,_,f1,_⟩:=hL.ex;rw[ev] at hin hL ⊢;have:=iQ f1 (kb (s6b _ _ f1) z1) hin;exact⟨this,(hL.inn this).1⟩
   ·simp only[nodup_cons,mem_cons,not_mem_nil,or_false,not_or,not_false_eq_true,and_true] at hasn ⊢;exact⟨⟨(fun z=>by rw[← z,f7] at hb;cases hb),(lv fa9 hc9.1).symm,(lv fa9 hd9.1).symm⟩,⟨(lv fb9 hc9.1).symm,(lv fb9 hd9.1).symm⟩,hasn.1,trivial,nodup_nil⟩
  rotate_left
  ·rw[nodup_append];refine⟨hwnd,by simp,fun x hx y hy e=>?_⟩;rw[mem_singleton.mp hy] at e;obtain⟨j,hj,hx'⟩:=mem_iff_getElem.mp hx;obtain⟨q',_,_,_,_,ev,_,_,_,_,_,f1,_⟩:=(hws j x ks[j] (by rw[Wr hj,hx']) (Wr (by lia))).ex;rw[e] at ev;cases ev;have:=(s69.trans sa) _ _ f1;rw[hqn] at this;cases this
  rcases Nat.lt_or_ge j ws.length with h | h
  ·rw[getElem?_append_left h] at hu;exact(hws j u k' hu hk').keepL fun x vs hx hn=>kb (s6b _ _ hx) hn
  ·rw[getElem?_append_right h] at hu;have hj0:j - ws.length=0:=by
    have:=(Wt.mp hu).1;rw[length_singleton] at this;lia
   rw[hj0] at hu;have ej:j=i:=by lia
   have ek:k'=kk:=by
    rw[ej,hki] at hk';exact(WT hk').symm
   rw[← WT hu,ek];exact⟨qn,a,b,c,d,rfl,nq,na,nbb,nc,nd',kb eb nq,kb (s9b _ _ ((s8.trans s9) _ _ f7)) na,kb (s9b _ _ (s9 _ _ f8)) nbb,kb (sb _ _ (hrow 0 c rfl)) nc,kb (sb _ _ (hrow 1 d rfl)) nd'⟩
 ·rintro σ H6 ⟨v3,v4,v5,v6,v7,ws,rfl,b6,e6,hwl,hwnd,hsp,hws⟩;have s06:Same H H6:=But.same s5 flk b6;refine⟨_,rfl,p,_,_,_,rfl,rfl,SqT.of (s06 _ _ a1),at_ (j:=3) rfl,pa,_,rfl,.inr (SqT.of (s06 _ _ a8)),fun la hla=>?_⟩;have s7:=ao hla (.lst (al.map mkT));have e7:(upd H6 la (.lst (al.map mkT))) la=some (.lst (al.map mkT)):=ak;have nla:∀ {x:Addr}{o:HO},H6 x=some o->x≠la:=fun e=>aD e hla
  have fla:H la=none:=s06.free hla;generalize upd H6 la (.lst (al.map mkT))=H7 at s7 e7 ⊢;have em6:=b6 _ _ em5 k3;have em7:=s7 _ _ em6;refine⟨_,rfl,m,_,rfl,rW.k (k:=(Sum.inr "alone" : Key)) em7 (aH (show 4<=1000 by lia)),_,rfl,?_⟩;obtain⟨kt,et,hkl,hkt⟩:=hT5.ex;obtain⟨kw,ew,hkwl,hWl,hkw⟩:=hW5.w.ex;have pe:=zV ⟨m,dt,dw,lr,l0,l1,lk,la,W,60⟩;have pe:putK (md2 dt dw lr lk) (Sum.inr "alone" : Key) (.ref la)=mdK ⟨m,dt,dw,lr,l0,l1,lk,la,W,60⟩:=pe;rw[pe];have kp:∀ {x:Addr}{o:HO},H5 x=some o->x≠lk->x≠m->(upd H7 m (.dK (mdK ⟨m,dt,dw,lr,l0,l1,lk,la,W,60⟩))) x=some o:=fun h h1 h2=>by
   rw[aF h2];exact s7 _ _ (b6 _ _ h h1)
  have kp6:∀ {x:Addr}{vs:List V},H6 x=some (.lst vs)->(upd H7 m (.dK (mdK ⟨m,dt,dw,lr,l0,l1,lk,la,W,60⟩))) x=some (.lst vs):=fun h=>by
   rw[aF (j6 h em6)];exact s7 _ _ h
  have off:∀ {x:Addr},H x=none->x ∉ S:=fun {x} hx z=>by
   obtain⟨o,ho⟩:=hS x z;rw[ho] at hx;cases hx
  have tt:∀ {x:Addr}{vs:List V},x ∉ m::dt::dw::lr::l0::l1::lk::(W++S)->H6 x=some (.lst vs)->x ∉ Md.all ⟨m,dt,dw,lr,l0,l1,lk,la,W,60⟩++W++S:=fun {x vs} n hx z=>by
   rw[append_assoc] at z;rcases mem_append.mp z with z | z
   ·simp only[Md.all,mem_cons,not_mem_nil,or_false] at z;rcases z with z | z | z | z | z | z | z | z
    ·exact n (by rw[z];simp)
    ·exact n (by rw[z];simp)
    ·exact n (by rw[z];simp)
    ·exact n (by rw[z];simp)
    ·exact n (by rw[z];simp)
    ·exact n (by rw[z];simp)
    ·exact n (by rw[z];simp)
    ·exact nla hx z
   ·exact n (by simp only[mem_cons];exact .inr (.inr (.inr (.inr (.inr (.inr (.inr z)))))))
  have q0:=nla (b6 _ _ hN5.e0 k0);have q1:=nla (b6 _ _ hN5.e1 k1);have q2:=nla (b6 _ _ hN5.er k2);have q3:=nla em6;have q4:=nla (b6 _ _ et k4);have q5:=nla (b6 _ _ ew k5);have q6:=nla e6;have hus:us.length=ks.length:=hl3;refine k ⟨m,dt,dw,lr,l0,l1,lk,la,W,60⟩ _ (fun x o h=>?_) rfl ⟨ak,⟨kt,kp et k4 (Ne.symm m1),W7 hkl (by rw[W0];lia),hkt.1⟩,⟨kw,kp ew k5 (Ne.symm m2),W7 hkwl (by rw[W0];lia),hWl,fun j r hr=>?_⟩,kp hN5.er k2 (Ne.symm m3),kp hN5.e0 k0 (Ne.symm m4),kp hN5.e1 k1 (Ne.symm m5),⟨ws,kp6 e6,by lia,hwnd,fun j u kk hu hk=>?_⟩,by rw[aF (Ne.symm q3)];exact e7,fun x hx=>?_,?_,fun x hx=>⟨(hW5.fr x hx).1,fun z=>?_⟩,hW5.nd⟩ ⟨ws,kp6 e6,hsp.keep (List.Sublist.refl _) fun v hv m' ad hin=>?_⟩
  ·rw[aF (aD h (hN5.fr m (by simp)))];exact s7 _ _ (s06 _ _ h)
  ·obtain⟨l',ws',y0,x1,x3,x45⟩:=hkw j r hr;exact⟨l',ws',y0,x1,kp x3 (nWlk l' (W2 y0)) (j6 x3 em5),x45⟩
  ·obtain⟨y,y1,y2,y3,y4,z0,z1,z2,z3,z4,z5,z6,z7,z8,z9,za⟩:=((hws j u kk hu hk)).ex;exact⟨y,y1,y2,y3,y4,z0,tt z1 z6,tt z2 z7,tt z3 z8,tt z4 z9,tt z5 za,kp6 z6,kp6 z7,kp6 z8,kp6 z9,kp6 za⟩
  ·simp only[Md.all,mem_cons,not_mem_nil,or_false] at hx;rcases hx with rfl | rfl | rfl | rfl | rfl | rfl | rfl | rfl
   ·exact off (hN5.fr _ (by simp))
   ·exact off (hN5.fr _ (by simp))
   ·exact off (hN5.fr _ (by simp))
   ·exact off (hN5.fr _ (by simp))
   ·exact off (hN5.fr _ (by simp))
   ·exact off (hN5.fr _ (by simp))
   ·exact off flk
   ·exact off fla
  ·unfold Md.all;simp only[nodup_cons,mem_cons,not_mem_nil,or_false,not_or,not_false_eq_true,and_true];exact⟨⟨m1,m2,m3,m4,m5,k3,q3⟩,⟨t1,t2,t3,t4,k4,q4⟩,⟨w1,w2,w3,k5,q5⟩,⟨r1,r2,k2,q2⟩,⟨l01,k0,q0⟩,⟨k1,q1⟩,q6,trivial,nodup_nil⟩
  ·have h6:=(hW5.fr x hx).2;obtain⟨vs,hv⟩:=hW5.w.row hx;have hla':=nla (b6 _ _ hv (nWlk x hx));simp only[Md.all,mem_cons,not_mem_nil,or_false,not_or] at z h6;rcases z with z | z | z | z | z | z | z | z
   ·exact h6.1 z
   ·exact h6.2.1 z
   ·exact h6.2.2.1 z
   ·exact h6.2.2.2.1 z
   ·exact h6.2.2.2.2.1 z
   ·exact h6.2.2.2.2.2 z
   ·exact nWlk x hx z
   ·exact hla' z
  ·obtain⟨j,hj,rfl⟩:=mem_iff_getElem.mp hv;obtain⟨q',_,_,_,_,ev,z1,_,_,_,_,f1,_⟩:=(hws j _ ks[j] (Wr hj) (Wr (by lia))).ex;rw[ev] at hin ⊢;exact iQ f1 (kp6 f1) hin
end
theorem erase_filter{α:Type}[DecidableEq α]:∀ {xs:List α}{j:Nat}{a:α},xs.Nodup->xs[j]?=some a->xs.eraseIdx j=xs.filter fun x=>decide (x≠a)
 | x::xs,0,a,hn,h=>by
  have e:x=a:=WT h;subst e;obtain⟨h1,_⟩:=nodup_cons.mp hn;rw[List.eraseIdx_cons_zero,filter_cons_of_neg (by simp),(filter_eq_self (p:=fun y=>decide (y≠x))).mpr fun y hy=>W9 fun e:y=x=>h1 (by rw[← e];exact hy)]
 | x::xs,j+1,a,hn,h=>by
  obtain⟨h1,h2⟩:=nodup_cons.mp hn;have h:xs[j]?=some a:=h;have:x≠a:=fun e=>h1 (by rw[e];exact W2 h)
  rw[List.eraseIdx_cons_succ,filter_cons_of_pos (by simpa using this),erase_filter h2 h]
 | [],_,_,_,h=>by simp at h
theorem tE:∀ {P:List Prt}{i:Nat}{p:Prt},(P.map (·.1)).Nodup->P[i]?=some p->fZ P p.1=P.eraseIdx i
 | q::P,0,p,hn,h=>by
  have e:q=p:=WT h;subst e;obtain⟨h1,_⟩:=nodup_cons.mp hn;unfold fZ;rw[List.eraseIdx_cons_zero,filter_cons_of_neg (by simp)];exact uL h1
 | q::P,i+1,p,hn,h=>by
  obtain⟨h1,h2⟩:=nodup_cons.mp hn;have h:P[i]?=some p:=h;have:q.1≠p.1:=fun e=>h1 (by show q.1∈_;rw[e];exact mem_map_of_mem (f:=(·.1)) (W2 h))
  unfold fZ;rw[List.eraseIdx_cons_succ,filter_cons_of_pos (by simpa using this)];exact congrArg _ (tE h2 h)
 | [],_,_,_,h=>by simp at h
def Kz(L R:List Prt)(x:List Nat):fZ L x++fZ R x=fZ (L++R) x:=(filter_append ..).symm
def Kf(Z:List Prt)(x:List Nat):bO (fZ Z x)=((Z.map (·.1)).filter fun y=>decide (y≠x)).map mkT:=by
 rw[kJ];congr 1;unfold fZ;rw[filter_map]
 rfl
def Jh{xs:Nms}{x:List Nat}(hx:x∈xs)(hn:xs.Nodup):∃ j:Nat,(xs.map fun x=>(⟨x.toArray⟩:Str))[j]?=some ⟨x.toArray⟩/\(∀(i:Nat)(z:Str),i<j->(xs.map fun x=>(⟨x.toArray⟩:Str))[i]?=some z->z≠⟨x.toArray⟩)/\((xs.map fun x=>(⟨x.toArray⟩:Str)).map V.str).eraseIdx j=(xs.filter fun y=>decide (y≠x)).map mkT:=by
 obtain⟨j,hj,hmin⟩:=xX hx;refine⟨j,by rw[W8,hj];rfl,fun i y hi hy e=>?_,?_⟩
 ·rw[W8] at hy;cases hz:xs[i]? with
  | none=>rw[hz] at hy;cases hy
  | some a =>
   rw[hz] at hy;have:(⟨a.toArray⟩:Str)=⟨x.toArray⟩:=(WT hy).trans e;exact hmin i hi (by rw[hz,str_inj this])
 rw[← qC,mY,erase_filter hn hj]
def Md.ln_mem(M:Md)(n:Nat):M.ln n∈M.all:=by
 unfold Md.ln;split <;> simp[Md.all]
def dO.rowOut(h:dO S H M L R ks al)(hS:Liv S H)(hnd:((L++R).map (·.1)).Nodup)(hx:x∈(L++R).map (·.1))(hlc:H lc=none)(kp:∀ a o,H a=some o->a≠M.ln (bf L x)->a≠M.m->H' a=some o)
  (e1:H' (M.ln (bf L x))=some (.lst (bO (fZ (sdP (bf L x) L R) x))))(e2:H' lc=some (.lst (al'.map mkT)))(e3:H' M.m=some (.dK (mdK { M with la:=lc }))):∃ W':List Addr,dO S H' { M with la:=lc,W:=W' } (fZ L x) (fZ R x) ks al':=by
 obtain⟨p,hp,rfl⟩:=mem_map.mp hx;obtain⟨i0,hi0⟩:=mem_iff_getElem?.mp hp;have hi0l:=(Wt.mp hi0).1;have hP:=tE hnd hi0;rw[← Kz] at hP;have live:=h.live;have nlc:∀ {z:Addr}{o:HO},H z=some o->z≠lc:=fun e=>aD e hlc
 have lcS:lc ∉ S:=fun z=>by obtain⟨o,ho⟩:=hS lc z;exact nlc ho rfl
 have nla:∀ z∈M.all,z≠lc:=fun z hz=>by obtain⟨o,ho⟩:=live z (W5 _ hz);exact nlc ho
 have nd:=h.nd;have hnl:M.ln (bf L p.1)∈M.all:=M.ln_mem _;have nm:∀ {z:Addr},z ∉ M.all->z≠M.ln (bf L p.1)/\z≠M.m:=fun hz=>⟨fun e=>hz (by rw[e];exact hnl),fun e=>hz (by rw[e];simp[Md.all])⟩
 have all':∀ z∈Md.all { M with la:=lc },z∈M.all\/z=lc:=fun z hz=>by
  simp only[Md.all,mem_cons,not_mem_nil,or_false] at hz ⊢;rcases hz with rfl | rfl | rfl | rfl | rfl | rfl | rfl | rfl <;> simp
 have hnd':(Md.all { M with la:=lc }).Nodup:=by
  have n1:=nla M.m (by simp[Md.all]);have n2:=nla M.dt (by simp[Md.all]);have n3:=nla M.dw (by simp[Md.all]);have n4:=nla M.lr (by simp[Md.all]);have n5:=nla M.l0 (by simp[Md.all]);have n6:=nla M.l1 (by simp[Md.all]);have n7:=nla M.lk (by simp[Md.all]);simp only[Md.all,nodup_cons,mem_cons,not_mem_nil,or_false,not_or] at nd ⊢;simp[nd,n1,n2,n3,n4,n5,n6,n7]
 simp only[Md.all,nodup_cons,mem_cons,not_mem_nil,or_false,not_or] at nd;have nln:∀ {z:Addr},z≠M.l0->z≠M.l1->z≠M.ln (bf L p.1):=fun h0 h1=>by
  unfold Md.ln;split
  ·exact h0
  ·exact h1
 obtain⟨kt,et,ht1,ht2⟩:=h.t.ex;obtain⟨kw,ew,hw1,hw2,hw3⟩:=h.w.ex;obtain⟨us,eu,hul,hund,hat⟩:=h.lk.ex;have er:∀ {α:Type} (zs:List α) (i:Nat),(zs.eraseIdx i0)[i]?=if i<i0 then zs[i]? else zs[i+1]?:=fun zs i=>List.getElem?_eraseIdx ..
 refine⟨M.W.eraseIdx i0,e3,⟨kt,kp _ _ et (nln (by simp[nd]) (by simp[nd])) (Ne.symm (by simp[nd])),ht1,fun q hq=>ht2 q ?_⟩,⟨kw,kp _ _ ew (nln (by simp[nd]) (by simp[nd])) (Ne.symm (by simp[nd])),hw1,?_,fun i q hq=>?_⟩,kp _ _ h.lr (nln (by simp[nd]) (by simp[nd])) (Ne.symm (by simp[nd])),?_,?_,⟨us,kp _ _ eu (nln (Ne.symm (by simp[nd])) (Ne.symm (by simp[nd]))) (Ne.symm (by simp[nd])),hul,hund,fun i u k hu hk=>?_⟩,e2,fun z hz=>?_,hnd',fun z hz=>⟨(h.wo z (List.mem_of_mem_eraseIdx hz)).1,fun hm=>?_⟩,h.wn.sublist (List.eraseIdx_sublist ..)⟩
 ·rw[hP] at hq;exact List.mem_of_mem_eraseIdx hq
 ·rw[hP,List.length_eraseIdx_of_lt hi0l,List.length_eraseIdx_of_lt (by lia),hw2]
 ·rw[hP,er] at hq;obtain⟨l,ws,g1,g2,g3,g4⟩:∃(l:Addr)(ws:List Int),(if i<i0 then M.W[i]? else M.W[i+1]?)=some l/\gk kw (nk q.1)=some (.ref l)/\H l=some (.lst (ws.map V.int))/\ws.length<=M.b/\∀ k,k∈ws↔k∈q.2.2:=by
   by_cases hlt:i<i0
   ·rw[if_pos hlt] at hq ⊢;exact hw3 i q hq
   ·rw[if_neg hlt] at hq ⊢;exact hw3 (i+1) q hq
  have hlW:l∈M.W:=by
   split at g1
   ·exact W2 g1
   ·exact W2 g1
  exact⟨l,ws,by rw[er];exact g1,g2,kp _ _ g3 (nm (h.wo l hlW).2).1 (nm (h.wo l hlW).2).2,g4⟩
 ·have hn:=lJ L p.1;by_cases z:bf L p.1=0
  ·rw[z] at e1;exact e1
  ·have e0:M.ln (bf L p.1)=M.l1:=by unfold Md.ln;rw[if_neg z]
   have hnL:p.1 ∉ L.map (·.1):=fun q=>z (by unfold bf;rw[bW,W9 q];rfl)
   rw[uL hnL];exact kp _ _ h.l0 (by rw[e0];simp[nd]) (Ne.symm (by simp[nd]))
 ·by_cases z:bf L p.1=0
  ·have e0:M.ln (bf L p.1)=M.l0:=by unfold Md.ln;rw[if_pos z]
   have hL:p.1∈L.map (·.1):=Classical.byContradiction fun q=>by unfold bf at z;rw[bW,WX q] at z;cases z
   rw[map_append,nodup_append] at hnd;rw[uL (L:=R) fun q=>hnd.2.2 _ hL _ q rfl];exact kp _ _ h.l1 (by rw[e0];exact Ne.symm (by simp[nd])) (Ne.symm (by simp[nd]))
  ·have e0:M.ln (bf L p.1)=M.l1:=by unfold Md.ln;rw[if_neg z]
   have e4:sdP (bf L p.1) L R=R:=by unfold sdP;rw[if_neg z]
   rw[e0,e4] at e1;exact e1
 ·obtain⟨q,a,b,c,d,ev,n1,n2,n3,n4,n5,f1,f2,f3,f4,f5⟩:=(hat i u k hu hk).ex;have inT:∀ {z:Addr}{o:HO},z ∉ M.all++M.W++S->H z=some o->z ∉ Md.all { M with la:=lc,W:=M.W.eraseIdx i0 }++M.W.eraseIdx i0++S:=fun {z o} hz ho hm=>by
   rcases mem_append.mp hm with hm | hm
   ·rcases mem_append.mp hm with hm | hm
    ·rcases all' z hm with h1 | h1
     ·exact hz (W5 _ (W5 _ h1))
     ·exact nlc ho h1
    ·exact hz (W5 _ (W4 _ (List.mem_of_mem_eraseIdx hm)))
   ·exact hz (W4 _ hm)
  have na:∀ {z:Addr}{o:HO},z ∉ M.all++M.W++S->H z=some o->H' z=some o:=fun hz ho=>kp _ _ ho (nm fun q=>hz (W5 _ (W5 _ q))).1 (nm fun q=>hz (W5 _ (W5 _ q))).2
  exact⟨q,a,b,c,d,ev,inT n1 f1,inT n2 f2,inT n3 f3,inT n4 f4,inT n5 f5,na n1 f1,na n2 f2,na n3 f3,na n4 f4,na n5 f5⟩
 ·rcases all' z hz with h1 | h1
  ·exact h.off z h1
  ·rw[h1];exact lcS
 ·have hzW:=List.mem_of_mem_eraseIdx hz;rcases all' z hm with h1 | h1
  ·exact(h.wo z hzW).2 h1
  ·obtain⟨o,ho⟩:=live z (W4 _ hzW);exact nlc ho h1
def dX(k:Lnk)(n:Nat)(x:List Nat)(t:Int):Lnk:=fX k n x (cj n k++[t])
def dO.linkOut(h:dO S H M L R ks al)(hs:rA H M){i:Nat}{m m':Nat}(e:H M.lk=some (.lst us))(hi:us[i]?=some (.ref q))(hk:ks[i]?=some k)(hq:H q=some (.lst l5))(hb:l5[m]?=some (.ref b))(hc:l5[m']?=some (.ref c))(hmm:m≠m')
  (hbq:b≠q)(hcq:c≠q)(hob:H b=some o)(hoc:H c=some o')(nq:∀ v∈us,v≠.ref b/\v≠.ref c)(kp:∀ z u,H z=some u->z≠b->z≠c->H' z=some u)(hL:oR (M.all++M.W++S) H (.ref q) k->oR (M.all++M.W++S) H' (.ref q) k'):dO S H' M L R (ks.set i k') al/\rA H' M:=by
 obtain⟨us0,e0,s0⟩:=hs.ex;rw[e] at e0;cases e0;obtain⟨us0,e0,hul,hnd,hat⟩:=h.lk.ex;rw[e] at e0;cases e0;have hqu:V.ref q∈us:=W2 hi;have ib:Inn H (.ref q) m b:=⟨q,l5,rfl,hq,hb⟩
 have ic:Inn H (.ref q) m' c:=⟨q,l5,rfl,hq,hc⟩
 have hLq:=hat i _ k hi hk;have bT:=(hLq.inn ib).2;have cT:=(hLq.inn ic).2;have kT:∀ {z:Addr}{u:HO},z∈M.all++M.W++S->H z=some u->H' z=some u:=fun hz hu=>kp _ _ hu (fun w=>bT (by rw[← w];exact hz)) fun w=>cT (by rw[← w];exact hz)
 have ka:∀ {z:Addr}{u:HO},z∈M.all->H z=some u->H' z=some u:=fun hz hu=>kT (W5 _ (W5 _ hz)) hu
 obtain⟨kt,et,ht1,ht2⟩:=h.t.ex;obtain⟨kw,ew,hw1,hw2,hw3⟩:=h.w.ex;have qk:∀ {v:V}{k:Lnk}{m:Nat}{ad:Addr},v∈us->oR (M.all++M.W++S) H v k->Inn H' v m ad->Inn H v m ad:=fun hv hL hi=>by
  obtain⟨qa,_,_,_,_,rfl,_,_,_,_,_,e1,_⟩:=hL.ex;exact iQ e1 (kp _ _ e1 (fun w=>(nq _ hv).1 (by rw[w])) fun w=>(nq _ hv).2 (by rw[w])) hi
 refine⟨⟨ka (by simp[Md.all]) h.m,⟨kt,ka (by simp[Md.all]) et,ht1,ht2⟩,⟨kw,ka (by simp[Md.all]) ew,hw1,hw2,fun j p hp=>?_⟩,ka (by simp[Md.all]) h.lr,ka (by simp[Md.all]) h.l0,ka (by simp[Md.all]) h.l1,⟨us,ka (by simp[Md.all]) e,by rw[length_set];exact hul,hnd,fun j u kk hu hkk=>?_⟩,ka (by simp[Md.all]) h.la,h.off,h.nd,h.wo,h.wn⟩,⟨us,ka (by simp[Md.all]) e,s0.keep (List.Sublist.refl _) fun v hv m ad hi=>?_⟩⟩
 ·obtain⟨l,ws,g1,g2,g3,g4⟩:=hw3 j p hp;exact⟨l,ws,g1,g2,kT (W5 _ (W4 _ (W2 g1))) g3,g4⟩
 ·by_cases hji:i=j
  ·subst hji;rw[hi] at hu;cases hu;rw[getElem?_set_self (Wt.mp hk).1] at hkk;cases hkk;exact hL hLq
  ·rw[getElem?_set_ne hji] at hkk;have hLj:=hat j u kk hu hkk;have huj:u∈us:=W2 hu;have hne:u≠.ref q:=fun w=>by
    have a1:=(Wt.mp hu).1;have a2:=(Wt.mp hi).1;have:=(List.getElem_inj (h₀:=a1) (h₁:=a2) hnd).mp (by rw[(Wt.mp hu).2,(Wt.mp hi).2,w]);exact hji this.symm
   have dj:∀ {mm:Nat}{ad:Addr},Inn H u mm ad->ad≠b/\ad≠c:=fun {mm ad} hin=>⟨fun w=>by
    subst w;rcases pK s0.ap huj hqu hne with g | g
    ·exact g _ _ _ hin ib
    ·exact g _ _ _ ib hin,fun w=>by
    subst w;rcases pK s0.ap huj hqu hne with g | g
    ·exact g _ _ _ hin ic
    ·exact g _ _ _ ic hin⟩
   obtain⟨qa,a1,a2,a3,a4,rfl,n1,n2,n3,n4,n5,f1,f2,f3,f4,f5⟩:=hLj.ex;have i0:Inn H (.ref qa) 0 a1:=⟨qa,_,rfl,f1,rfl⟩
   have i1:Inn H (.ref qa) 1 a2:=⟨qa,_,rfl,f1,rfl⟩
   have i3:Inn H (.ref qa) 3 a3:=⟨qa,_,rfl,f1,rfl⟩
   have i4:Inn H (.ref qa) 4 a4:=⟨qa,_,rfl,f1,rfl⟩
   exact⟨qa,a1,a2,a3,a4,rfl,n1,n2,n3,n4,n5,kp _ _ f1 (fun w=>(nq _ huj).1 (by rw[w])) (fun w=>(nq _ huj).2 (by rw[w])),kp _ _ f2 (dj i0).1 (dj i0).2,kp _ _ f3 (dj i1).1 (dj i1).2,kp _ _ f4 (dj i3).1 (dj i3).2,kp _ _ f5 (dj i4).1 (dj i4).2⟩
 ·obtain⟨_,_,hLv⟩:=h.lk.at e hv;exact qk hv hLv hi
def TkA(ks:List Lnk)(n:Nat)(x:List Nat)(t:Int)(ks':List Lnk):Prop:=((∀ k∈ks,eV x k=false)/\ks'=ks)\/∃ i k,ks[i]?=some k/\eV x k=true/\(∀ j∈ks.take i,eV x j=false)/\ks'=(if aK n (dX k n x t)=[] then (ks.set i (dX k n x t)).filter (fun j=>decide (aK n j≠[])) else ks.set i (dX k n x t))
structure rB(S:List Addr)(H H':Hp):Prop where
 t:∀(b:Addr)(vs:List V),H b=some (.tup vs)->H' b=some (.tup vs)
 s:∀ b∈S,∀ o,H b=some o->H' b=some o
def uK:Sp:=fun vs H Q _=>∃ S M L R ks al pd t x,vs=[.ref M.m,.ref pd]/\dO S H M L R ks al/\rA H M/\Liv S H/\H pd=some (.tup [.str (Str.ofString "take"),.int t,mkT x])/\ks.length<=900/\al.length<=900/\((L++R).map (·.1)).Nodup/\(∀ k∈ks,k.1.Nodup/\k.2.1.Nodup)/\(∀ k∈ks,eV x k=true->x∈aK (bf L x) k)/\(∀ k∈ks,∀ n,(cj n k).length<=900) /\
 (isP L R x=false->∀ H',Same H H'->Q (.str (wdE (some 0))) H') /\
 (isP L R x=true->∀(H':Hp)(M':Md)(ks':List Lnk),M'.m=M.m/\M'.b=M.b->dO S H' M' (fZ L x) (fZ R x) ks' (al.filter fun y=>decide (y≠x))->rA H' M'->rB S H H'->TkA ks (bf L x) x t ks'->Q (.str (wdE none)) H')
def CQ(M:Md)(lc:Addr):putK (mdK M) (Sum.inr "alone" : Key) (.ref lc)=mdK { M with la:=lc }:=by
 unfold putK mdK;rw[if_pos (by simp)];simp only[map_cons,map_nil];rw[if_neg mk4,if_neg mk7,if_neg mk9,if_neg mk0,if_pos trivial]
def KD(h:k.1.Nodup/\k.2.1.Nodup)(n:Nat):(aK n k).Nodup:=by
 unfold aK;split
 ·exact h.1
 ·exact h.2
def mH(k:Lnk)(n:Nat)(x:List Nat)(rs:List Int):aK n (fX k n x rs)=(aK n k).filter fun y=>decide (y≠x):=by
 unfold aK fX;split <;> rfl
def Ih(hn:n<=1)(h:oR T H (.ref q) k):∃(l5:List V)(b c:Addr),H q=some (.lst l5)/\l5[n]?=some (.ref b)/\l5[3+n]?=some (.ref c)/\H b=some (.lst ((aK n k).map mkT))/\H c=some (.lst ((cj n k).map V.int)) /\
  ∀ {H':Hp}{x:List Nat}{rs:List Int},b≠c->(∀ m ad,Inn H (.ref q) m ad->m≠n->ad≠b)->(∀ m ad,Inn H (.ref q) m ad->m≠3+n->ad≠c)->(∀ z u,H z=some u->z≠b->z≠c->H' z=some u)->q≠b->q≠c->H' b=some (.lst (((aK n k).filter fun y=>decide (y≠x)).map mkT))->H' c=some (.lst (rs.map V.int))->oR T H' (.ref q) (fX k n x rs):=by
 obtain⟨q',a,b,c,d,ev,n1,n2,n3,n4,n5,f1,f2,f3,f4,f5⟩:=h.ex;cases ev;have i0:Inn H (.ref q) 0 a:=⟨q,_,rfl,f1,rfl⟩
 have i1:Inn H (.ref q) 1 b:=⟨q,_,rfl,f1,rfl⟩
 have i3:Inn H (.ref q) 3 c:=⟨q,_,rfl,f1,rfl⟩
 have i4:Inn H (.ref q) 4 d:=⟨q,_,rfl,f1,rfl⟩
 match n,hn with
 | 0,_ =>
  refine⟨_,a,c,f1,rfl,rfl,f2,f4,fun {H' x rs} hbc hb hc kp h1 h2 e1 e2=>⟨q,a,b,c,d,rfl,n1,n2,n3,n4,n5,kp _ _ f1 h1 h2,e1,kp _ _ f3 (hb _ _ i1 (by decide)) (hc _ _ i1 (by decide)),e2,kp _ _ f5 (hb _ _ i4 (by decide)) (hc _ _ i4 (by decide))⟩⟩
 | 1,_ =>
  refine⟨_,b,d,f1,rfl,rfl,f3,f5,fun {H' x rs} hbc hb hc kp h1 h2 e1 e2=>⟨q,a,b,c,d,rfl,n1,n2,n3,n4,n5,kp _ _ f1 h1 h2,kp _ _ f2 (hb _ _ i0 (by decide)) (hc _ _ i0 (by decide)),e1,kp _ _ f4 (hb _ _ i3 (by decide)) (hc _ _ i3 (by decide)),e2⟩⟩
def Rv{T:List Addr}{H:Hp}{qa b:Addr}{k:Lnk}{xs:Nms}(hL:oR T H (.ref qa) k)(e:H b=some (.lst (xs.map mkT))):qa≠b:=fun z=>by
 obtain⟨q,_,_,_,_,ev,_,_,_,_,_,f1,_⟩:=hL.ex;cases ev;rw[← z,f1] at e;exact mW (WT e)
def Rx{T:List Addr}{H:Hp}{qa b:Addr}{k:Lnk}{xs:List Int}(hL:oR T H (.ref qa) k)(e:H b=some (.lst (xs.map V.int))):qa≠b:=fun z=>by
 obtain⟨q,_,_,_,_,ev,_,_,_,_,_,f1,_⟩:=hL.ex;cases ev;rw[← z,f1] at e;exact rU (WT e)
def dO.sep_same(h:dO S H M L R ks al)(hs:rA H M)(s:Same H H'):rA H' M:=by
 obtain⟨us,e,_⟩:=hs.ex;exact⟨us,s _ _ e,h.sep_sub hs e (List.Sublist.refl _) fun a o ha _=>s _ _ ha⟩
def rB.same(h:rB S H H1)(s:Same H1 H2):rB S H H2:=⟨fun b vs e=>s _ _ (h.t b vs e),fun b hb o e=>s _ _ (h.s b hb o e)⟩
section
variable {P:Program}{w:World}{K:W.Frag}{mg:Str->Option Value}{base:Heap}
def pP:aR ["_law_model_here","_law_deed_here","_law_word","_law_t","_law_name","_law_side_here","_law_link_here"] ["_law_model_here","_law_deed_here"] (aC zu):=⟨rfl,rfl,rfl,by decide +kernel,rfl,by decide +kernel,by decide +kernel⟩
def Oz(h:Has K mg "_law_take" zu ["_law_model_here","_law_deed_here"])(Ui:Cal P w K mg base "_law_side" 1 ["_law_model_here","_law_name"] wZ)(Uh:Cal P w K mg base "_law_link" 1 ["_law_model_here","_law_name"] yj):Cal P w K mg base "_law_take" 2 ["_law_model_here","_law_deed_here"] uK:=by
 refine h.mk' pP (fun vs H Q E hs=>?_) (fun f cdv A outer s H vs Q E hr hs=>?_)
 ·obtain⟨S,M,L,R,ks,al,pd,t,x,rfl,_⟩:=hs
  rfl
 obtain⟨S,M,L,R,ks,al,pd,t,x,rfl,hM,hSp,hS,hd,hlk,hla,hnd,hkn,hkx,hlo,k1,k2⟩:=hs;refine⟨_,(au (ud (pv 1) (tX (n:=3) rfl (bN (aP (i:=2) pP.nd rfl (Or.inl rfl)) (bN (aP (i:=3) pP.nd rfl (Or.inl rfl)) (bN (aP (i:=4) pP.nd rfl (Or.inr rfl)) jR)))))
  (au (aL (i:=5) pP.nd rfl (Or.inr rfl) (aM Ui hr (by decide) rfl (aj (pv 0) (aj (pv 4) aq))))
  (au (cF (aO nZ (pv 5) cU (bA _))
   (aB (aW aG))
   bB)
  (au (aL (i:=6) pP.nd rfl (Or.inl rfl) (aM Uh hr (by decide) rfl (aj (pv 0) (aj (pv 4) aq))))
  (au (cQ (gC PySem.F.plainAttrs_list PySem.F.slot_list_remove PySem.F.type_list_remove jL (bx bI (bw (bU hr) (pv 0) aG (fun _ _=>rfl)) (pv 5) (fun _ _=>rfl)) (aj (pv 4) aq)))
  (au (dY (bU hr) (pv 0) aG (cD ["_law_model_here","_law_deed_here","_law_word","_law_t","_law_name","_law_side_here","_law_link_here"] (aC zu) ["_law_name","_law_one"] [some 4,none] rfl rfl rfl (fB (bw (bU hr) (pv 0) aG (fun _ _=>rfl))) rfl (by decide +kernel) (by decide +kernel) (by decide +kernel) (by decide +kernel) (hg:=fun cl C s H ex pn E=>(aP (i:=1) (by decide +kernel:(["_law_name","_law_one"]:List Str).Nodup) rfl (Or.inl rfl))) (ht:=fun cl C s H ex pn E=>(gw (aO yK (pv 1) (pv 0) (bA _)))) (he:=fun cl C s H ex pn E=>(pv 1))) rfl)
  (au (cF (aO qm (pv 6) cU (bA _))
   (au (cQ (gC PySem.F.plainAttrs_list PySem.F.slot_list_remove PySem.F.type_list_remove jL (bx bI (pv 6) (pv 5) (fun _ _=>rfl)) (aj (pv 4) aq)))
  (au (cQ (gC PySem.F.plainAttrs_list PySem.F.slot_list_append PySem.F.type_list_append bY (bx bI (pv 6) (bF fV aA (pv 5)) (fun _ _=>rfl)) (aj (pv 3) aq)))
  (aB (cF (aO (Dz hr.units0) (bx bI (pv 6) (pv 5) (fun _ _=>rfl)) (bR aq) (bA _))
   (aB (dY (bU hr) (pv 0) aG (cD ["_law_model_here","_law_deed_here","_law_word","_law_t","_law_name","_law_side_here","_law_link_here"] (aC zu) ["_law_side_here","_law_one"] [some 5,none] rfl rfl rfl (fB (bw (bU hr) (pv 0) aG (fun _ _=>rfl))) rfl (by decide +kernel) (by decide +kernel) (by decide +kernel) (by decide +kernel) (hg:=fun cl C s H ex pn E=>(aP (i:=1) (by decide +kernel:(["_law_side_here","_law_one"]:List Str).Nodup) rfl (Or.inl rfl))) (ht:=fun cl C s H ex pn E=>(gw (aO (wC hr.units0) (bx (GD (K:=K) rfl) (pv 1) (pv 0) (fun _ _=>rfl)) (bR aq) (bA _)))) (he:=fun cl C s H ex pn E=>(pv 1))) rfl))
   bB))))
   bB)
  (aB (aW aG))))))))),?_⟩
 refine⟨_,rfl,pd,_,rfl,SqT.of hd,rfl,_,_,rfl,_,_,rfl,_,_,rfl,rfl,?_⟩;refine⟨_,rfl,_,rfl,S,M,L,R,ks,al,x,rfl,hM,fun H1 s1=>?_⟩;have hsv:decide (gA L R x=.non)=!isP L R x:=by
  unfold gA isP;cases(cJ (L++R) x).isSome <;> rfl
 refine⟨_,rfl,rfl,_,rfl,?_⟩;rw[hsv];refine eU (fun z=>?_) (fun z=>?_)
 ·exact k1 (by simpa using z) H1 s1
 have hp:isP L R x=true:=by simpa using z
 have hxm:x∈(L++R).map (·.1):=by
  have h:=hp;unfold isP at h;rw[bW] at h;exact W3 h
 have hsn:gA L R x=.int ((bf L x:Nat):Int):=by
  have h:(cJ (L++R) x).isSome=true:=hp;unfold gA;rw[if_pos h]
 rw[hsn];have hn:=lJ L x;have k2:=k2 hp;have hM1:=hM.same s1;have hxs:x∈(sdP (bf L x) L R).map (·.1):=by
  rw[map_append,mem_append] at hxm;unfold sdP bf;rw[bW];by_cases e:x∈L.map (·.1)
  ·rw[if_pos (W9 e),if_pos rfl];exact e
  ·rw[if_neg (by simpa using e)];exact hxm.resolve_left e
 have hxn:((sdP (bf L x) L R).map (·.1)).Nodup:=by
  rw[map_append,nodup_append] at hnd;unfold sdP;split
  ·exact hnd.1
  ·exact hnd.2.1
 obtain⟨us,eu,hul,hund,hat⟩:=hM.lk.ex;generalize hnn:bf L x=n at *;refine⟨_,rfl,_,rfl,S,M,L,R,ks,al,x,rfl,hM1,fun u hu=>?_⟩;obtain⟨hrat,hrow⟩:=mj hM1 hn;rw[kJ,qC] at hrow;obtain⟨j0,r1,r2,r3⟩:=Jh hxs hxn;refine⟨_,rfl,M.m,_,rfl,nQ hM1.m,_,rfl,M.lr,_,_,_,rfl,rfl,SqL.of hM1.lr,hrat,.inl ⟨rfl,_,SqL.of hrow⟩,_,rfl,M.ln n,_,⟨x.toArray⟩,j0,rfl,rfl,hrow,r1,r2,?_⟩;rw[r3];clear r1 r2 r3;have hall:M.all.Nodup:=hM.nd;have hlnm:M.ln n∈M.all:=M.ln_mem n;have nd:=hM.nd;simp only[Md.all,nodup_cons,mem_cons,not_mem_nil,or_false,not_or] at nd;have nln:∀ {z:Addr},z≠M.l0->z≠M.l1->z≠M.ln n:=fun h0 h1=>by
  unfold Md.ln;split
  ·exact h0
  ·exact h1
 have er:=(Kf (sdP n L R) x).symm;rw[er];have kA:∀ z o,H1 z=some o->z≠M.ln n->(upd H1 (M.ln n) (.lst (bO (fZ (sdP n L R) x)))) z=some o:=fun z o hz hne=>by rw[aF hne];exact hz
 have eA:(upd H1 (M.ln n) (.lst (bO (fZ (sdP n L R) x)))) (M.ln n)=some (.lst (bO (fZ (sdP n L R) x))):=ak;have fA:∀ z,(upd H1 (M.ln n) (.lst (bO (fZ (sdP n L R) x)))) z=none->H1 z=none:=fun z hz=>by
  cases hh:H1 z with
  | none=>rfl
  | some o =>
   by_cases hne:z=M.ln n
   ·rw[hne,eA] at hz;cases hz
   ·rw[kA z o hh hne] at hz;cases hz
 generalize upd H1 (M.ln n) (.lst (bO (fZ (sdP n L R) x)))=HA at kA eA fA ⊢;have mA:=kA _ _ hM1.m (nln (by simp[nd]) (by simp[nd]));have laA:=kA _ _ hM1.la (nln (Ne.symm (by simp[nd])) (Ne.symm (by simp[nd])));refine⟨_,rfl,M.m,_,rfl,pX mA,M.la,rfl,⟨_,SqL.of laA⟩,fun lc hlc=>?_⟩;refine cZ (J:=Itl K M.la) (l:=lc) al.length (fun i σ' H'=>∃ v:Option V,σ'=[some (mkT x),v]/\Same HA H'/\H' lc=some (.lst (((al.take i).filter fun y=>decide (y≠x)).map mkT))) ⟨none,rfl,ao hlc _,ak⟩ ?_ ?_
 rotate_left
 ·rintro i σ' H' hi ⟨v,rfl,s3,e3⟩;have hat':(al.map mkT)[i]?=some (mkT al[i]):=by rw[W8,bZ hi];rfl
  refine⟨⟨_,_,SqL.of (s3 _ _ laA),hat'⟩,?_⟩;rintro N hN y H'' ⟨rfl,hy⟩;have ey:y=mkT al[i]:=WT ((hy _ (SqL.of (s3 _ _ laA))).symm.trans hat');have htk:=take_one (bZ hi);generalize al[i]=z at ey htk;subst ey;refine gN ⟨_,rfl,_,rfl,rfl,_,rfl,?_⟩;rw[QW];refine eU (fun hz=>?_) (fun hz=>?_)
  ·have hz:z≠x:=by simpa using hz
   refine⟨_,rfl,_,e3,aH ?_,hN _ _ ⟨_,rfl,cg s3 hlc,?_⟩⟩
   ·rw[Xa];refine W7 (length_filter_le _ _) ?_;rw[length_take];lia
   ·rw[ak,htk,filter_append,map_append,filter_cons_of_pos (by simpa using hz)]
    rfl
  ·have hz:z=x:=by simpa using hz
   refine hN _ _ ⟨_,rfl,s3,?_⟩;rw[e3,htk,filter_append,filter_cons_of_neg (by simpa using hz),filter_nil,append_nil]
 rintro σ' HB ⟨v,rfl,s3,e3⟩;rw[take_length] at e3;refine⟨⟨_,SqL.of (s3 _ _ laA),by rw[Xa];exact Wu _⟩,?_⟩;refine⟨_,rfl,M.m,_,rfl,rW.k (k:=(Sum.inr "alone" : Key)) (s3 _ _ mA) (aH (show 5<=1000 by lia)),?_⟩;rw[CQ];have hlc1:H1 lc=none:=fA lc hlc;have kC:∀ z o,H1 z=some o->z≠M.ln n->z≠M.m->(upd HB M.m (.dK (mdK { M with la:=lc }))) z=some o:=fun z o hz h1 h2=>by rw[aF h2];exact s3 _ _ (kA _ _ hz h1)
 have lcm:lc≠M.m:=fun z=>by rw[z,hM1.m] at hlc1;cases hlc1
 obtain⟨W',hMC⟩:=hM1.rowOut (x:=x) (fun a ha=>by obtain⟨o,ho⟩:=hS a ha;exact⟨o,s1 _ _ ho⟩) hnd hxm hlc1 (by rw[hnn];exact kC) (by rw[hnn,aF (fun z=>by have:=nln (z:=M.m) (by simp[nd]) (by simp[nd]);exact this z.symm)];exact s3 _ _ eA) (by rw[aF lcm];exact e3) ak;have hSC:rA (upd HB M.m (.dK (mdK { M with la:=lc }))) { M with la:=lc,W:=W' }:=⟨us,kC _ _ (s1 _ _ eu) (nln (Ne.symm (by simp[nd])) (Ne.symm (by simp[nd]))) (Ne.symm (by simp[nd])),hM.sep_sub hSp eu (List.Sublist.refl _) fun a o ha hn'=>kC _ _ (s1 _ _ ha) (fun z=>hn' (by rw[z];exact hlnm)) fun z=>hn' (by rw[z];simp[Md.all])⟩
 have kXC:rB S H (upd HB M.m (.dK (mdK { M with la:=lc }))):=⟨fun b vs hb=>kC _ _ (s1 _ _ hb) (fun z=>by have:=s1 _ _ hb;rw[z,hrow] at this;cases this) (fun z=>by have:=s1 _ _ hb;rw[z,hM1.m] at this;cases this),fun b hb o ho=>kC _ _ (s1 _ _ ho) (fun z=>hM.off _ hlnm (by rw[← z];exact hb)) fun z=>hM.off M.m (by simp[Md.all]) (by rw[← z];exact hb)⟩
 have kU:∀ z o,H1 z=some o->z ∉ M.all->(upd HB M.m (.dK (mdK { M with la:=lc }))) z=some o:=fun z o hz hne=>kC _ _ hz (fun w=>hne (by rw[w];exact hlnm)) fun w=>hne (by rw[w];simp[Md.all])
 have euC:(upd HB M.m (.dK (mdK { M with la:=lc }))) M.lk=some (.lst us):=kC _ _ (s1 _ _ eu) (nln (Ne.symm (by simp[nd])) (Ne.symm (by simp[nd]))) (Ne.symm (by simp[nd]));generalize upd HB M.m (.dK (mdK { M with la:=lc }))=HC at hMC hSC kXC kU euC ⊢;clear kC kA eA fA s3 e3 hlc mA laA;refine⟨_,rfl,rfl,_,rfl,?_⟩;rcases hu with⟨rfl,hno⟩ | ⟨i,us',k,hus',hui,hk,hin,hno⟩
 ·refine eU (fun z=>by simp at z) (fun _=>?_);exact k2 HC { M with la:=lc,W:=W' } ks ⟨rfl,rfl⟩ hMC hSC kXC (.inl ⟨hno,rfl⟩)
 obtain rfl:us'=us:=by
  have:=s1 _ _ eu;rw[hus'] at this;cases this
  rfl
 have hkm:k∈ks:=W2 hk;obtain⟨us2,eu2,hul2,hund2,hat2⟩:=hMC.lk.ex;have eu2:HC M.lk=some (.lst us2):=eu2;rw[euC] at eu2;cases eu2;have hL:=hat2 i u k hui hk;obtain⟨q,_,_,_,_,rfl,_⟩:=hL.ex;have hqu:V.ref q∈us':=W2 hui;obtain⟨usS,eS,sS⟩:=hSC.ex;have eS:HC M.lk=some (.lst usS):=eS;rw[euC] at eS;cases eS;obtain⟨l5,b,c,f1,fb,fc,eb,ec,mk⟩:=Ih hn hL;have ib:Inn HC (.ref q) n b:=⟨q,_,rfl,f1,fb⟩
 have ic:Inn HC (.ref q) (3+n) c:=⟨q,_,rfl,f1,fc⟩
 have hbc:b≠c:=fun z=>by have:=sS.on _ hqu n (3+n) b ib (by rw[z];exact ic);lia
 have qb:=Rv hL eb;have qc:=Rx hL ec;have hxk:=hkx k hkm hin;have hnk:=KD (hkn k hkm) n;have hbat:atI l5 ((n:Nat):Int)=some (.ref b):=aZ fb;have hcat:atI l5 (3+((n:Nat):Int))=some (.ref c):=by
  have:=aZ (xs:=l5) (j:=3+n) fc;rw[Int.natCast_add] at this;exact this
 obtain⟨j1,r1,r2,r3⟩:=Jh hxk hnk;have eb':=eb;rw[qC] at eb';refine eU (fun _=>?_) (fun z=>absurd (by simp) z);refine⟨_,rfl,_,rfl,q,_,_,_,rfl,rfl,SqL.of f1,hbat,.inl ⟨rfl,_,SqL.of eb'⟩,_,rfl,b,_,⟨x.toArray⟩,j1,rfl,rfl,eb',r1,r2,?_⟩;rw[r3];have kD:∀ z o,HC z=some o->z≠b->(upd HC b (.lst (((aK n k).filter fun y=>decide (y≠x)).map mkT))) z=some o:=fun z o hz hne=>by rw[aF hne];exact hz
 have eD:(upd HC b (.lst (((aK n k).filter fun y=>decide (y≠x)).map mkT))) b=some (.lst (((aK n k).filter fun y=>decide (y≠x)).map mkT)):=ak;generalize upd HC b (.lst (((aK n k).filter fun y=>decide (y≠x)).map mkT))=HD at kD eD ⊢;have ecD:=kD _ _ ec (Ne.symm hbc);refine⟨_,rfl,_,rfl,_,_,rfl,rfl,q,_,_,_,rfl,rfl,SqL.of (kD _ _ f1 qb),hcat,.inl ⟨rfl,_,SqL.of ecD⟩,_,rfl,c,_,.int t,rfl,rfl,ecD,aH (by rw[Xa];have:=hlo k hkm n;lia),?_⟩;have kE:∀ z o,HC z=some o->z≠b->z≠c->(upd HD c (.lst ((cj n k).map V.int++[.int t]))) z=some o:=fun z o hz h1 h2=>by rw[aF h2];exact kD _ _ hz h1
 have eEb:(upd HD c (.lst ((cj n k).map V.int++[.int t]))) b=some (.lst (((aK n k).filter fun y=>decide (y≠x)).map mkT)):=by rw[aF hbc];exact eD
 have eEc:(upd HD c (.lst ((cj n k).map V.int++[.int t]))) c=some (.lst ((cj n k++[t]).map V.int)):=by rw[ak,map_append];rfl
 generalize upd HD c (.lst ((cj n k).map V.int++[.int t]))=HE at kE eEb eEc ⊢;have bT:=(hL.inn ib).2;have cT:=(hL.inn ic).2;have nq:∀ v∈us',v≠.ref b/\v≠.ref c:=fun v hv=>by
  obtain⟨kv,_,hLv⟩:=hMC.lk.at euC hv;obtain⟨qa,_,_,_,_,rfl,_⟩:=hLv.ex;exact⟨fun z=>Rv hLv eb (by injection z),fun z=>Rx hLv ec (by injection z)⟩
 obtain⟨hME,hSE⟩:=hMC.linkOut (k':=dX k n x t) hSC euC hui hk f1 fb fc (by lia) (Ne.symm qb) (Ne.symm qc) eb ec nq kE fun _=>mk hbc (fun m ad hi hm z=>hm (sS.on _ hqu m n b (by rw[← z];exact hi) ib)) (fun m ad hi hm z=>hm (sS.on _ hqu m (3+n) c (by rw[← z];exact hi) ic)) kE qb qc eEb eEc
 have kXE:rB S H HE:=⟨fun z vs hz=>kE _ _ (kXC.t z vs hz) (fun w=>by have:=kXC.t z vs hz;rw[w,eb] at this;cases this) (fun w=>by have:=kXC.t z vs hz;rw[w,ec] at this;cases this),fun z hz o ho=>kE _ _ (kXC.s z hz o ho) (fun w=>bT (W4 _ (by rw[← w];exact hz))) fun w=>cT (W4 _ (by rw[← w];exact hz))⟩
 have f1E:=kE _ _ f1 qb qc;have euE:HE M.lk=some (.lst us'):=by
  obtain⟨us3,e3,_⟩:=hSE.ex;have:=kE M.lk _ euC (fun z=>bT (W5 _ (W5 _ (by rw[← z];simp[Md.all])))) fun z=>cT (W5 _ (W5 _ (by rw[← z];simp[Md.all])))
  exact this
 have hsd:aK n (dX k n x t)=(aK n k).filter fun y=>decide (y≠x):=mH ..
 clear kD eD kE mk sS hMC hSC kXC kU ib ic bT cT eb ec eb' ecD r1 r2 r3 hL hat2;refine⟨_,rfl,_,rfl,q,_,_,_,rfl,rfl,SqL.of f1E,hbat,smn 0,fun le hle=>?_⟩;have s5:=ao hle (.lst []);have e5:(upd HE le (.lst [])) le=some (.lst []):=ak;generalize upd HE le (.lst [])=HF at s5 e5 ⊢;refine⟨b,le,_,rfl,rfl,s5 _ _ eEb,e5,_,rfl,?_⟩;have hMF:=hME.same s5;have hSF:=hME.sep_same hSE s5;have kXF:=kXE.same s5;refine eU (fun z=>?_) (fun z=>?_)
 rotate_left
 ·have hne:aK n (dX k n x t)≠[]:=fun w=>z (by rw[← hsd,w];rfl)
  exact k2 HF { M with la:=lc,W:=W' } _ ⟨rfl,rfl⟩ hMF hSF kXF (.inr ⟨i,k,hk,hin,hno,(if_neg hne).symm⟩)
 have hem:aK n (dX k n x t)=[]:=by
  rw[hsd];exact List.map_eq_nil_iff.mp (List.isEmpty_iff.mp z)
 have euF:=s5 _ _ euE;have hu1:(ks.set i (dX k n x t)).length=ks.length:=length_set;have hT0:∀ ks',ks'=(ks.set i (dX k n x t)).filter (fun j=>decide (aK n j≠[]))->TkA ks n x t ks':=fun ks' e=>.inr ⟨i,k,hk,hin,hno,by rw[if_pos hem];exact e⟩
 clear hem hsd eEb eEc;generalize ks.set i (dX k n x t)=k2s at hMF hSF hu1 hT0 hME;obtain⟨us3,eu3,hul3,hund3,hat3⟩:=hMF.lk.ex;have eu3:HF M.lk=some (.lst us3):=eu3;rw[euF] at eu3;cases eu3;refine⟨_,rfl,M.m,_,rfl,qw (M:={ M with la:=lc,W:=W' }) hMF.m,M.lk,rfl,⟨_,SqL.of euF⟩,fun ln hln=>?_⟩;have hZl:(us'.zip k2s).length=us'.length:=by rw[length_zip];lia
 refine cZ (J:=Itl K M.lk) (l:=ln) us'.length (fun m σ' H'=>∃ v:Option V,σ'=[some (.int ((n:Nat):Int)),v]/\Same HF H'/\H' ln=some (.lst ((((us'.zip k2s).take m).filter fun p=>decide (aK n p.2≠[])).map (·.1)))) ⟨none,rfl,ao hln _,ak⟩ ?_ ?_
 rotate_left
 ·rintro m σ' H' hm ⟨v,rfl,s6,e6⟩;have hmk:m<k2s.length:=by lia
  have hmz:m<(us'.zip k2s).length:=by lia
  refine⟨⟨_,_,SqL.of (s6 _ _ euF),bZ hm⟩,?_⟩;rintro N hN y H'' ⟨rfl,hy⟩;have ey:y=us'[m]:=WT ((hy _ (SqL.of (s6 _ _ euF))).symm.trans (bZ hm));have htk:=take_one (bZ hmz);rw[getElem_zip] at htk;have hj:=hat3 m us'[m] k2s[m] (bZ hm) (bZ hmk);rw[← ey] at hj htk;generalize k2s[m]=j at hj htk;obtain⟨q',_,_,_,_,rfl,_⟩:=hj.ex;obtain⟨l6,b6,c6,g1,g2,_,g4,_⟩:=Ih hn hj;refine gN ⟨_,rfl,_,rfl,q',_,_,_,rfl,rfl,SqL.of (s6 _ _ g1),aZ g2,smn 0,fun le2 hle2=>?_⟩;have s7:=ao hle2 (.lst []);have e7:(upd H'' le2 (.lst [])) le2=some (.lst []):=ak;have nle:ln≠le2:=aD e6 hle2;generalize upd H'' le2 (.lst [])=HG at s7 e7 ⊢;refine⟨b6,le2,_,rfl,rfl,s7 _ _ (s6 _ _ g4),e7,_,rfl,?_⟩;have hise:((aK n j).map mkT).isEmpty=true↔aK n j=[]:=by rw[List.isEmpty_iff,List.map_eq_nil_iff]
  refine eU (fun z=>?_) (fun z=>?_)
  ·have z:aK n j≠[]:=fun w=>by rw[hise.mpr w] at z;cases z
   refine⟨_,rfl,_,s7 _ _ e6,aH ?_,hN _ _ ⟨_,rfl,cg (s6.trans s7) hln,?_⟩⟩
   ·rw[Xa];refine W7 (length_filter_le _ _) ?_;rw[length_take];lia
   ·rw[ak,htk,filter_append,map_append,filter_cons_of_pos (by simpa using z)]
    rfl
  ·have z:aK n j=[]:=Classical.byContradiction fun w=>z (by cases q:((aK n j).map mkT).isEmpty with | true=>exact absurd (hise.mp q) w | false=>rfl)
   refine hN _ _ ⟨_,rfl,s6.trans s7,?_⟩;rw[s7 _ _ e6,htk,filter_append,filter_cons_of_neg (by simpa using z),filter_nil,append_nil]
 rintro σ' H6 ⟨v,rfl,s6,e6⟩;rw[← hZl,take_length] at e6;refine⟨⟨_,SqL.of (s6 _ _ euF),Wu _⟩,?_⟩;refine⟨_,rfl,M.m,_,rfl,rW.k (k:=(Sum.inr "links" : Key)) (s6 _ _ hMF.m) (aH (show 5<=1000 by lia)),?_⟩;have hsnd:((us'.zip k2s).filter fun p=>decide (aK n p.2≠[])).map (·.2)=k2s.filter fun j=>decide (aK n j≠[]):=by
  have h1:(us'.zip k2s).map (·.2)=k2s:=List.map_snd_zip (by lia);have h2:=filter_map (p:=fun j:Lnk=>decide (aK n j≠[])) (f:=fun p:V × Lnk=>p.2) (l:=us'.zip k2s);rw[h1] at h2;exact h2.symm
 have hsub:(((us'.zip k2s).filter fun p=>decide (aK n p.2≠[])).map (·.1)).Sublist us':=by
  have h3:=(filter_sublist (p:=fun p:V × Lnk=>decide (aK n p.2≠[])) (l:=us'.zip k2s)).map (·.1);rw[map_fst_zip (by lia)] at h3;exact h3
 have hSlv:Liv S HF:=fun z hz=>by obtain⟨o,ho⟩:=hS z hz;exact⟨o,kXF.s z hz o ho⟩
 have hMn:=hMF.relink (ks':=k2s.filter fun j=>decide (aK n j≠[])) hSlv s6 hln e6 (by rw[← hsnd,Xa,Xa]) (hsub.nodup hund3) (fun m u j hu hj=>by
  rw[← hsnd,W8] at hj;rw[W8] at hu;cases hz:((us'.zip k2s).filter fun p=>decide (aK n p.2≠[]))[m]? with
  | none=>rw[hz] at hu;cases hu
  | some p =>
   rw[hz] at hu hj;cases hu;cases hj;obtain⟨m',hm'⟩:=mem_iff_getElem?.mp (mem_filter.mp (W2 hz)).1;obtain⟨h1,h2⟩:=getElem?_zip_eq_some.mp hm';exact hat3 m' _ _ h1 h2)
 have lnm:ln≠M.m:=fun z=>by rw[z,show HF M.m=_ from hMF.m] at hln;cases hln
 refine k2 _ { M with la:=lc,W:=W',lk:=ln } _ ⟨rfl,rfl⟩ hMn ⟨_,(aF lnm).trans e6,hMF.sep_sub hSF euF hsub fun a o ha hn'=>by rw[aF (fun z=>hn' (by rw[z];simp[Md.all]))];exact s6 _ _ ha⟩ ⟨fun z vs hz=>?_,fun z hz o ho=>?_⟩ (hT0 _ rfl)
 ·have h1:=kXF.t z vs hz;rw[aF (fun w=>by rw[w,show HF M.m=_ from hMF.m] at h1;cases h1)];exact s6 _ _ h1
 ·rw[aF (fun w=>hM.off M.m (by simp[Md.all]) (by rw[← w];exact hz))];exact s6 _ _ (kXF.s z hz o ho)
end
def KH:Sp:=fun vs H Q E=>uK vs H Q E\/mq vs H Q E
def doK(f g:Addr):List (Key × V):=[((Sum.inr "take" : Key),.ref f),((Sum.inr "loose" : Key),.ref g),((Sum.inr "step" : Key),.ref g)]
def dk1:(Sum.inr "take" : Key)≠(Sum.inr "loose" : Key):=by decide +kernel
def dk2:(Sum.inr "take" : Key)≠(Sum.inr "step" : Key):=by decide +kernel
def dk3:(Sum.inr "loose" : Key)≠(Sum.inr "step" : Key):=by decide +kernel
def Bo(f g:Addr):gP [] (doK f g)=doK f g:=by
 have e1:Str.ofString "take" ≠ Str.ofString "loose":=by decide +kernel
 have e2:Str.ofString "take" ≠ Str.ofString "step":=by decide +kernel
 have e3:Str.ofString "loose" ≠ Str.ofString "step":=by decide +kernel
 unfold doK;simp[gP,putK,e1,e2,e3,Ne.symm e1,Ne.symm e2,Ne.symm e3]
def DY(s:Same H H1)(h:uK vs H Q E):uK vs H1 Q E':=by
 obtain⟨S,M,L,R,ks,al,pd,t,x,e,hM,hSp,hS,hd,a1,a2,a3,a4,a5,a6,k1,k2⟩:=h;exact⟨S,M,L,R,ks,al,pd,t,x,e,hM.same s,hM.sep_same hSp s,fun a ha=>(hS a ha).imp fun o ho=>s _ _ ho,s _ _ hd,a1,a2,a3,a4,a5,a6,fun z H' s'=>k1 z H' (s.trans s'),fun z H' M' ks' hm m sp kx tk=>k2 z H' M' ks' hm m sp ⟨fun b vs e=>kx.t b vs (s _ _ e),fun b hb o e=>kx.s b hb o (s _ _ e)⟩ tk⟩
def yX(s:Same H H1)(h:mq vs H Q E):mq vs H1 Q E':=by
 obtain⟨S,M,L,R,ks,al,pd,t,x,d,e,hM,hS,hd,a1,a2,k1,k2⟩:=h;exact⟨S,M,L,R,ks,al,pd,t,x,d,e,hM.same s,fun a ha=>(hS a ha).imp fun o ho=>s _ _ ho,s _ _ hd,a1,a2,fun e z H' s'=>k1 e z H' (s.trans s'),fun z H' M' ks' al' hm sp kx m st=>k2 z H' M' ks' al' hm (fun q=>sp (hM.sep_same q s)) (fun a o ho h1 h2=>kx a o (s _ _ ho) h1 h2) m st⟩
section
variable {P:Program}{w:World}{K:W.Frag}{mg:Str->Option Value}{base:Heap}
def Qp:aR ["_law_model_here","_law_deed_here","_law_doers","_law_doer"] ["_law_model_here","_law_deed_here"] (aC sDo):=⟨rfl,rfl,rfl,by decide +kernel,rfl,by decide +kernel,by decide +kernel⟩
def RM(h:Has K mg "_law_do" sDo ["_law_model_here","_law_deed_here"])(Uy:mg "_law_stand" = some (.ref f_stand))(Fn_stand:Fn1 P w K mg base f_stand 2 ["_law_model_here","_law_deed_here"] mq)(Vd:mg "_law_take" = some (.ref f_take))(Fn_take:Fn1 P w K mg base f_take 2 ["_law_model_here","_law_deed_here"] uK):Cal P w K mg base "_law_do" 3 ["_law_model_here","_law_deed_here"] KH:=by
 refine h.mk' Qp (fun vs H Q E hs=>?_) (fun f cdv A outer s H vs Q E hr hs=>?_)
 ·rcases hs with⟨S,M,L,R,ks,al,pd,t,x,rfl,_⟩ | ⟨S,M,L,R,ks,al,pd,t,x,d,rfl,_⟩ <;> rfl
 refine⟨_,(au (aL (i:=2) Qp.nd rfl (Or.inl rfl) (uU (fM aG (fj (v:=.ref f_take) rfl Vd rfl) (fM aG (fj (v:=.ref f_stand) rfl Uy rfl) (fM aG (fj (v:=.ref f_stand) rfl Uy rfl) vR))) rfl rfl (by simp) (by decide +kernel)))
  (au (aL (i:=3) Qp.nd rfl (Or.inl rfl) (bw (bU hr) (pv 2) (bx bJ (pv 1) aA (fun _ _=>rfl)) (fun _ _=>rfl)))
  (aB (aW (Dl hr (pv 3) Jz (aj (pv 0) (aj (pv 1) aq))))))),?_⟩
 refine fun pw hpw=>⟨ak,doK f_take f_stand,rfl,by show 3<=15;decide,?_⟩
 rw[Bo];have s1:=ao hpw (.dK []);have s2:=cg (o:=.dK (doK f_take f_stand)) s1 hpw;have e2:(upd (upd H pw (.dK [])) pw (.dK (doK f_take f_stand))) pw=some (.dK (doK f_take f_stand)):=ak;generalize upd (upd H pw (.dK [])) pw (.dK (doK f_take f_stand))=H1 at s2 e2 ⊢;have dg:∀ {k:Str}{v:V},gk (doK f_take f_stand) (Sum.inr k:Key)=some v->iG H1 pw (.str k) (some v):=fun {k v} h=>by rw[← h];exact iG.k (k:=(Sum.inr k:Key)) e2
 rcases hs with hs | hs
 ·have h0:=hs;obtain⟨S,M,L,R,ks,al,pd,t,x,rfl,hM,hSp,hS,hd,_⟩:=hs;exact⟨_,rfl,_,rfl,pd,_,_,_,rfl,rfl,SqT.of (s2 _ _ hd),bC _ _,pw,_,rfl,dg (bD rfl),f_take,_,_,_,rfl,Fn_take,by decide,_,rfl,_,rfl,DY (E':=E) s2 h0⟩
 ·have h0:=hs;obtain⟨S,M,L,R,ks,al,pd,t,x,d,rfl,hM,hS,hd,_⟩:=hs;have hv:gk (doK f_take f_stand) (Sum.inr d.wd:Key)=some (.ref f_stand):=by
   cases d with
   | loose=>exact(aX dk1).trans (bD rfl)
   | step=>exact(aX dk2).trans ((aX dk3).trans (bD rfl))
  exact⟨_,rfl,_,rfl,pd,_,_,_,rfl,rfl,SqT.of (s2 _ _ hd),bC _ _,pw,_,rfl,dg hv,f_stand,_,_,_,rfl,Fn_stand,by decide,_,rfl,_,rfl,yX (E':=E) s2 h0⟩
end
def Ir:Sp:=fun vs H Q _=>∃ d lo l1 l2 xs ys,vs=[.ref d,.ref l1,.ref l2]/\bG d lo H/\H l1=some (.lst (xs.map mkT))/\H l2=some (.lst (ys.map mkT))/\l1≠lo/\l2≠lo/\ys≠[]/\xs.length<=900/\ys.length<=900 /\
 ∀(z:List Nat)(H':Hp),z∈xs++ys->bG d lo H'->Old d lo H H'->Q (mkT z) H'
def qx{d lo l:Addr}{H:Hp}{vs:List V}(hp:bG d lo H)(h:H l=some (.lst vs)):l≠d:=by
 obtain⟨cs,a,b,c,e1,e2,_⟩:=hp;exact j6 h e1
section
variable {P:Program}{w:World}{K:W.Frag}{mg:Str->Option Value}{base:Heap}
def IV:aR ["_law_pot_here","_law_some_here","_law_others"] ["_law_pot_here","_law_some_here","_law_others"] (aC FP):=⟨rfl,rfl,rfl,by decide +kernel,rfl,by decide +kernel,by decide +kernel⟩
def Nh(h:Has K mg "_law_pick" FP ["_law_pot_here","_law_some_here","_law_others"])(TV:Cal P w K mg base "_law_next" 1 ["_law_pot_here","_law_many"] iR)(Ux:mg "len" = none):Cal P w K mg base "_law_pick" 2 ["_law_pot_here","_law_some_here","_law_others"] Ir:=by
 refine h.mk' IV (fun vs H Q E hs=>?_) (fun f cdv A outer s H vs Q E hr hs=>?_)
 ·obtain⟨d,lo,l1,l2,xs,ys,rfl,_⟩:=hs
  rfl
 obtain⟨d,lo,l1,l2,xs,ys,rfl,hp,h1,h2,n1,n2,hy,hxl,hyl,k⟩:=hs;refine⟨_,(au (cF (PW.pt (vG (aO (Dz hr.units0) (pv 1) (bR aq) (bA _)) (mR (aO iZ (aM TV hr (by decide) rfl (aj (pv 0) (aj aA aq))) aA (bA _)))))
   (aB (aL (i:=1) IV.nd rfl (Or.inl rfl) (pv 2)))
   bB)
  (aB (aW (bx bI (pv 1) (aM TV hr (by decide) rfl (aj (pv 0) (aj (bh gK rfl Ux PySem.boot_len (aj (pv 1) aq)) aq))) (fun _ _=>rfl))))),?_⟩
 refine zK (fun σ H'=>∃ l zs,σ=[some (.ref d),some (.ref l),some (.ref l2)]/\bG d lo H'/\Old d lo H H'/\H' l=some (.lst (zs.map mkT))/\l≠lo/\zs≠[]/\zs.length<=900/\∀ z∈zs,z∈xs++ys) (fun N hN=>?_) ?_
 ·refine⟨_,rfl,smn 0,fun le hle=>?_⟩;have s1:=ao hle (.lst []);have e1:(upd H le (.lst [])) le=some (.lst []):=ak;generalize upd H le (.lst [])=H1 at s1 e1 ⊢;have oth:∀(H':Hp),bG d lo H'->Old d lo H H'->N [some (.ref d),some (.ref l2),some (.ref l2)] H':=fun H' p o=>hN _ _ ⟨l2,ys,rfl,p,o,o _ _ h2 (qx hp h2) n2,n2,hy,hyl,fun z hz=>W4 _ hz⟩
  refine⟨l1,le,_,rfl,rfl,s1 _ _ h1,e1,_,rfl,?_⟩;refine eU (fun z=>?_) (fun z=>?_)
  ·exact⟨_,rfl,oth H1 (hp.same s1) (.of s1)⟩
  ·have hx:xs≠[]:=fun e=>z (by rw[e];rfl)
   refine⟨_,rfl,d,lo,10,rfl,hp.same s1,by decide,by decide,fun r H2 r0 r1 p2 o2=>?_⟩;have o02:Old d lo H H2:=Old.trans (.of s1) o2;refine⟨rfl,_,rfl,?_⟩;refine eU (fun z=>?_) (fun z=>?_)
   ·exact⟨_,rfl,oth H2 p2 o02⟩
   ·exact hN _ _ ⟨l1,xs,rfl,p2,o02,o02 _ _ h1 (qx hp h1) n1,n1,hx,hxl,fun z hz=>W5 _ hz⟩
 rintro σ H1 ⟨l,zs,rfl,p1,o1,e1,nl,hz,hzl,hin⟩;have hpos:=List.length_pos_iff.mpr hz;refine⟨_,rfl,_,rfl,_,rfl,l,_,rfl,.inl (SqL.of e1),d,lo,_,rfl,p1,by rw[Xa];lia,by rw[Xa];lia,fun r H2 r0 r1 p2 o2=>?_⟩;rw[Xa] at r1;obtain⟨j,rfl⟩:=Int.eq_ofNat_of_zero_le r0;have hj:j<zs.length:=by lia
 have e2:=o2 _ _ e1 (qx p1 e1) nl;refine⟨l,_,_,_,rfl,rfl,SqL.of e2,aZ (j:=j) (by rw[W8,bZ hj];rfl),k _ H2 (hin _ (getElem_mem hj)) p2 (o1.trans o2)⟩
end
def Im:Sp:=fun vs H Q _=>∃ d lo ls M L R ks al sp,vs=[.ref d,.ref M.m,.ref ls]/\bG d lo H/\dO [d,lo] H M L R ks al/\H ls=some (.lst (sp.map mkT))/\ls≠lo/\sp≠[]/\sp.length<=100/\(L++R).length<=200 /\
 ∀(pd:Addr)(t:Int)(dd:Dd)(H':Hp),dd.nm∈(L++R).map (·.1)++sp->jt H' pd t dd->bG d lo H'->Old d lo H H'->Q (.ref pd) H'
def Tf(xs:List V)(r:Nat):u6 xs none (some (r:Int))=xs.take r:=by
 rcases Nat.le_total r xs.length with h | h
 ·exact Ry h
 ·unfold u6;rw[HT.vV,HT.rO,Nat.min_eq_right h,take_of_length_le (show xs.length<=r from h)];simp
def gQ{d lo l:Addr}{H H':Hp}{vs:List V}(hp:bG d lo H)(o:Old d lo H H')(h:H l=some (.lst vs))(n:l≠lo):H' l=some (.lst vs):=o _ _ h (qx hp h) n
def Qh(t:Int)(h:j<3):∃ t':Int,atI [V.int t,.int 7,.int 7] (j:Nat)=some (.int t'):=by
 match j,h with
 | 0,_=>exact⟨t,bC _ _⟩
 | 1,_=>exact⟨7,aZ (xs:=[V.int t,.int 7,.int 7]) (j:=1) rfl⟩
 | 2,_=>exact⟨7,aZ (xs:=[V.int t,.int 7,.int 7]) (j:=2) rfl⟩
def WL:List V:=[.str (Str.ofString "step"),.str (Str.ofString "step"),.str (Str.ofString "step"),.str (Str.ofString "loose")]
def Qd(h:j<4):∃ w:Sd,atI WL (j:Nat)=some (.str w.wd):=by
 match j,h with
 | 0,_=>exact⟨.step,bC _ _⟩
 | 1,_=>exact⟨.step,aZ (xs:=WL) (j:=1) rfl⟩
 | 2,_=>exact⟨.step,aZ (xs:=WL) (j:=2) rfl⟩
 | 3,_=>exact⟨.loose,aZ (xs:=WL) (j:=3) rfl⟩
section
variable {P:Program}{w:World}{K:W.Frag}{mg:Str->Option Value}{base:Heap}
def uD:aR ["_law_pot_here","_law_model_here","_law_spare","_law_t","_law_others","_law_linked","_law_word"] ["_law_pot_here","_law_model_here","_law_spare"] (aC Hw):=⟨rfl,rfl,rfl,by decide +kernel,rfl,by decide +kernel,by decide +kernel⟩
def Mz(h:Has K mg "_law_deed" Hw ["_law_pot_here","_law_model_here","_law_spare"])(T4:Cal P w K mg base "_law_moments" 2 ["_law_pot_here","_law_many"] jz)(TV:Cal P w K mg base "_law_next" 1 ["_law_pot_here","_law_many"] iR)(Uv:Cal P w K mg base "_law_standing" 2 ["_law_model_here","_law_which"] oX)(Ve:Cal P w K mg base "_law_pick" 2 ["_law_pot_here","_law_some_here","_law_others"] Ir):Cal P w K mg base "_law_deed" 4 ["_law_pot_here","_law_model_here","_law_spare"] Im:=by
 refine h.mk' uD (fun vs H Q E hs=>?_) (fun f cdv A outer s H vs Q E hr hs=>?_)
 ·obtain⟨d,lo,ls,M,L,R,ks,al,sp,rfl,_⟩:=hs
  rfl
 obtain⟨d,lo,ls,M,L,R,ks,al,sp,rfl,hp,hM,hls,nls,hsp,hspl,hlen,k1⟩:=hs;refine⟨_,(au (aL (i:=3) uD.nd rfl (Or.inl rfl) (bx bI (bR (aj (bx bJ (aM T4 hr (by decide) rfl (aj (pv 0) (aj aA aq))) aA (fun _ _=>rfl)) (aj aA (aj aA aq)))) (aM TV hr (by decide) rfl (aj (pv 0) (aj aA aq))) (fun _ _=>rfl)))
  (au (aL (i:=4) uD.nd rfl (Or.inl rfl) (bF j7 (bF j7 (bx bI (bw (bU hr) (pv 1) aG (fun _ _=>rfl)) aA (fun _ _=>rfl)) (bx bI (bw (bU hr) (pv 1) aG (fun _ _=>rfl)) aA (fun _ _=>rfl))) (gq JB (pv 2) iW (gY aA))))
  (au (aL (i:=5) uD.nd rfl (Or.inl rfl) (aM Uv hr (by decide) rfl (aj (pv 1) (aj aG aq))))
  (au (cF (PW.pt (vG (aO Kp (aM TV hr (by decide) rfl (aj (pv 0) (aj aA aq))) aA (bA _)) (mR (aO (Dz hr.units0) (pv 5) (bR aq) (bA _)))))
   (aB (aW (cu (aj aG (aj (pv 3) (aj (aM Ve hr (by decide) rfl (aj (pv 0) (aj (pv 4) (aj (pv 4) aq)))) aq))))))
   bB)
  (au (aL (i:=6) uD.nd rfl (Or.inl rfl) (bx bI (bR (aj aG (aj aG (aj aG (aj aG aq))))) (aM TV hr (by decide) rfl (aj (pv 0) (aj aA aq))) (fun _ _=>rfl)))
  (aB (aW (cu (aj (pv 6) (aj (pv 3) (aj (aM Ve hr (by decide) rfl (aj (pv 0) (aj (pv 5) (aj (pv 4) aq)))) aq))))))))))),?_⟩
 refine zK (fun σ H2=>∃ t:Int,σ=[some (.ref d),some (.ref M.m),some (.ref ls),some (.int t),none,none,none]/\bG d lo H2/\Old d lo H H2) (fun N hN=>?_) ?_
 ·refine⟨_,rfl,d,lo,1,rfl,hp,by decide,fun q ms H2 e2 g1 hl1 p2 o2=>?_⟩;obtain⟨t,rfl⟩:∃ t,ms=[t]:=by
   match ms,hl1 with
   | [t],_=>exact⟨t,rfl⟩
  refine⟨q,_,_,_,rfl,rfl,SqT.of e2,bC _ _,smn 3,fun lw hlw=>?_⟩;have s3:=ao hlw (.lst [.int t,.int 7,.int 7]);have e3:(upd H2 lw (.lst [.int t,.int 7,.int 7])) lw=some (.lst [.int t,.int 7,.int 7]):=ak;have nlo:lw≠lo:=(p2.ne hlw).2;have p3:=p2.same s3;refine⟨_,rfl,d,lo,3,rfl,p3,by decide,by decide,fun r H4 r0 r1 p4 o4=>?_⟩;obtain⟨j,rfl⟩:=Int.eq_ofNat_of_zero_le r0;obtain⟨t',ht'⟩:=Qh t (j:=j) (by lia);exact⟨lw,_,_,_,rfl,rfl,SqL.of (gQ p3 o4 e3 nlo),ht',gN (hN _ _ ⟨t',rfl,p4,(o2.trans (.of s3)).trans o4⟩)⟩
 rintro σ H2 ⟨t,rfl,p2,o2⟩;have hM2:=hM.keep (.old o2);have hl1':=hlen;rw[W0] at hl1';have hnl:∀ Z:List Prt,(bO Z).length=Z.length:=fun Z=>by unfold bO;rw[Xa]
 refine zK (fun σ H3=>∃(l2:Addr),σ=[some (.ref d),some (.ref M.m),some (.ref ls),some (.int t),some (.ref l2),none,none]/\bG d lo H3/\Old d lo H H3/\l2≠lo/\H3 l2=some (.lst (((L++R).map (·.1)++sp.take 2).map mkT))) (fun N hN=>?_) ?_
 ·refine⟨_,rfl,M.m,_,rfl,nQ hM2.m,M.lr,_,_,_,rfl,rfl,SqL.of hM2.lr,bC _ _,_,rfl,M.m,_,rfl,nQ hM2.m,M.lr,_,_,_,rfl,rfl,SqL.of hM2.lr,(mj hM2 (n:=1) (Wu _)).1,M.l0,M.l1,_,_,rfl,rfl,hM2.l0,hM2.l1,small (by rw[hnl,hnl];lia),fun l3 hl3=>?_⟩;have s3:=ao hl3 (.lst (bO L++bO R));have e3:(upd H2 l3 (.lst (bO L++bO R))) l3=some (.lst (bO L++bO R)):=ak;generalize upd H2 l3 (.lst (bO L++bO R))=H3 at s3 e3 ⊢;have els3:=s3 _ _ (gQ hp o2 hls nls);refine⟨_,rfl,_,rfl,ls,_,rfl,SqL.of els3,fun l4 hl4=>?_⟩;rw[show(2:Int)=((2:Nat):Int) from rfl,Tf];have s4:=ao hl4 (.lst ((sp.map mkT).take 2));have e4:(upd H3 l4 (.lst ((sp.map mkT).take 2))) l4=some (.lst ((sp.map mkT).take 2)):=ak;generalize upd H3 l4 (.lst ((sp.map mkT).take 2))=H4 at s4 e4 ⊢;refine⟨l3,l4,_,_,rfl,rfl,s4 _ _ e3,e4,small (by rw[W0,hnl,hnl,length_take];lia),fun l5 hl5=>?_⟩;have hoe:bO L++bO R++(sp.map mkT).take 2=((L++R).map (·.1)++sp.take 2).map mkT:=by
   rw[kJ,kJ,map_append,map_append,map_append,List.map_take]
  rw[hoe];have s5:=ao hl5 (.lst (((L++R).map (·.1)++sp.take 2).map mkT));have p4:=(p2.same s3).same s4;exact gN (hN _ _ ⟨l5,rfl,p4.same s5,o2.trans (.of ((s3.trans s4).trans s5)),(p4.ne hl5).2,ak⟩)
 rintro σ H3 ⟨l2,rfl,p3,o3,nl2,e3⟩;have hM3:=hM.keep (.old o3);have hne:(L++R).map (·.1)++sp.take 2≠[]:=fun z=>by
  have:=(List.append_eq_nil_iff.mp z).2;cases sp with
  | nil=>exact hsp rfl
  | cons a b=>cases this
 have hotl:((L++R).map (·.1)++sp.take 2).length<=900:=by
  rw[W0,Xa,length_take];lia
 have hsub:∀ x∈(L++R).map (·.1)++sp.take 2,x∈(L++R).map (·.1)++sp:=fun x hx=>by
  rcases mem_append.mp hx with h | h
  ·exact W5 _ h
  ·exact W4 _ (List.mem_of_mem_take h)
 refine zK (fun σ H4=>∃(l6:Addr)(xs:Nms),σ=[some (.ref d),some (.ref M.m),some (.ref ls),some (.int t),some (.ref l2),some (.ref l6),none]/\Same H3 H4/\l6≠lo/\H4 l6=some (.lst (xs.map mkT))/\xs.length<=900/\∀ x∈xs,x∈(L++R).map (·.1)) (fun N hN=>?_) ?_
 ·refine⟨_,rfl,[d,lo],M,L,R,ks,al,.linked,rfl,hM3,hlen,fun l6 H6 s6 hl6 e6=>?_⟩;have hxl:(((L++R).map (·.1)).filter fun x=>stB ks al x .linked).length<=900:=W7 (length_filter_le _ _) (by rw[Xa];lia);exact gN (hN _ _ ⟨l6,_,rfl,s6,(p3.ne hl6).2,e6,hxl,fun x hx=>(mem_filter.mp hx).1⟩)
 rintro σ H4 ⟨l6,xs,rfl,s4,nl6,e6,hxl,hxs⟩;have p4:=p3.same s4;have o4:Old d lo H H4:=o3.trans (.of s4);have e34:=s4 _ _ e3;refine⟨_,rfl,d,lo,3,rfl,p4,by decide,by decide,fun r H5 r0 r1 p5 o5=>?_⟩;have e35:=gQ p4 o5 e34 nl2;have e65:=gQ p4 o5 e6 nl6;have o05:=o4.trans o5;refine⟨_,_,rfl,rfl,_,rfl,?_⟩;refine eU (fun _=>?_) (fun _=>?_)
 ·refine⟨_,rfl,_,rfl,_,rfl,_,rfl,d,lo,l2,l2,_,_,rfl,p5,e35,e35,nl2,nl2,hne,hotl,hotl,fun z H7 hz p7 o7=>⟨smn 3,fun pd hpd=>?_⟩⟩;have s8:=ao hpd (.tup [.str (Str.ofString "take"),.int t,mkT z]);exact k1 pd t (.take z) _ (hsub z (by rcases mem_append.mp hz with h | h <;> exact h)) ak (p7.same s8) (o05.trans (o7.trans (.of s8)))
 refine⟨_,rfl,smn 0,fun le hle=>?_⟩;have s6:=ao hle (.lst []);have e7:(upd H5 le (.lst [])) le=some (.lst []):=ak;generalize upd H5 le (.lst [])=H6 at s6 e7 ⊢;have p6:=p5.same s6;have o06:Old d lo H H6:=o05.trans (.of s6);refine⟨l6,le,_,rfl,rfl,s6 _ _ e65,e7,_,rfl,?_⟩;refine eU (fun _=>?_) (fun _=>?_)
 ·refine⟨_,rfl,_,rfl,_,rfl,_,rfl,d,lo,l2,l2,_,_,rfl,p6,s6 _ _ e35,s6 _ _ e35,nl2,nl2,hne,hotl,hotl,fun z H7 hz p7 o7=>⟨smn 3,fun pd hpd=>?_⟩⟩;have s8:=ao hpd (.tup [.str (Str.ofString "take"),.int t,mkT z]);exact k1 pd t (.take z) _ (hsub z (by rcases mem_append.mp hz with h | h <;> exact h)) ak (p7.same s8) (o06.trans (o7.trans (.of s8)))
 refine nxP (fun σ H7=>∃ sd:Sd,σ=[some (.ref d),some (.ref M.m),some (.ref ls),some (.int t),some (.ref l2),some (.ref l6),some (.str sd.wd)]/\bG d lo H7/\Old d lo H6 H7) (fun N hN=>?_) ?_
 ·refine⟨smn 4,fun lw hlw=>?_⟩;have s1:=ao hlw (.lst WL);have e1:(upd H6 lw (.lst WL)) lw=some (.lst WL):=ak;have nlo:lw≠lo:=(p6.ne hlw).2;have p1:=p6.same s1;refine⟨_,rfl,d,lo,4,rfl,p1,by decide,by decide,fun r H2 r0 r1 p2 o2=>?_⟩;obtain⟨j,rfl⟩:=Int.eq_ofNat_of_zero_le r0;obtain⟨w',hw'⟩:=Qd (j:=j) (by lia);have e2:=gQ p1 o2 e1 nlo;exact⟨lw,_,_,_,rfl,rfl,SqL.of e2,hw',gN (hN _ _ ⟨w',rfl,p2,(Old.of s1).trans o2⟩)⟩
 rintro σ H7 ⟨sd,rfl,p7,o7⟩;have e37:=gQ p6 o7 (s6 _ _ e35) nl2;have e67:=gQ p6 o7 (s6 _ _ e65) nl6;refine⟨_,rfl,_,rfl,_,rfl,_,rfl,_,rfl,d,lo,l6,l2,_,_,rfl,p7,e67,e37,nl6,nl2,hne,hxl,hotl,fun z H8 hz p8 o8=>⟨smn 3,fun pd hpd=>?_⟩⟩;have s9:=ao hpd (.tup [.str sd.wd,.int t,mkT z]);have hz':z∈(L++R).map (·.1)++sp:=by
  rcases mem_append.mp hz with h | h
  ·exact W5 _ (hxs z h)
  ·exact hsub z h
 have of:Old d lo H (upd H8 pd (.tup [.str sd.wd,.int t,mkT z])):=(o06.trans o7).trans (o8.trans (.of s9));cases sd with
 | loose=>exact k1 pd t (.loose z) _ hz' ak (p8.same s9) of
 | step=>exact k1 pd t (.step z) _ hz' ak (p8.same s9) of
end
structure Nrm(k j:Lnk):Prop where
 p1:j.1.Perm k.1
 u1:UpD (j.1.map sD)
 p2:j.2.1.Perm k.2.1
 u2:UpD (j.2.1.map sD)
 t:j.2.2.1=k.2.2.1
 s3:j.2.2.2.1.Pairwise (· < ·)
 m3:∀ n,n∈j.2.2.2.1↔n∈k.2.2.2.1
 s4:j.2.2.2.2.Pairwise (· < ·)
 m4:∀ n,n∈j.2.2.2.2↔n∈k.2.2.2.2
theorem map_inj{α β:Type}{f:α->β}(hf:∀ {x y},f x=f y->x=y):∀ {xs ys:List α},xs.map f=ys.map f->xs=ys
 | [],[],_=>rfl
 | x::xs,y::ys,h=>by
  rw[map_cons,map_cons] at h;injection h with h1 h2;rw[hf h1,map_inj hf h2]
 | [],_::_,h=>by cases h
 | _::_,[],h=>by cases h
def rK{xs a b:Nms}(ha:a.Perm xs)(ua:UpD (a.map sD))(hb:b.Perm xs)(ub:UpD (b.map sD)):a=b:=map_inj xr (oZ ua ub ((ha.trans hb.symm).map sD))
def CW{a b:List Int}(ha:a.Pairwise (· < ·))(hb:b.Pairwise (· < ·))(h:∀ k,k∈a↔k∈b):a=b:=zX hb (ha.imp fun h=>Int.le_of_lt h) (ha.imp fun h=>Int.ne_of_lt h) h
def Nrm.uniq{k i j:Lnk}(h:Nrm k i)(g:Nrm k j):i=j :=
 Prod.ext (rK h.p1 h.u1 g.p1 g.u1) (Prod.ext (rK h.p2 h.u2 g.p2 g.u2) (Prod.ext (h.t.trans g.t.symm) (Prod.ext (CW h.s3 g.s3 fun n=>(h.m3 n).trans (g.m3 n).symm) (CW h.s4 g.s4 fun n=>(h.m4 n).trans (g.m4 n).symm))))
def rZ(h:aV a=aV b):a=b:=by
 unfold aV dZ zY at h;injection h with h;injection h with h1 h;injection h with h2 h;injection h with h3 h;injection h with h4 _;injection h1 with h1;injection h2 with h2;injection h3 with h3;injection h4 with h4;injection h4 with h5 h4;injection h4 with h6 _;injection h5 with h5;injection h6 with h6;have i:∀ {x y:Int},D.int x=D.int y->x=y:=fun h=>by injection h
 exact Prod.ext (map_inj xr h1) (Prod.ext (map_inj xr h2) (Prod.ext h3 (Prod.ext (map_inj i h5) (map_inj i h6))))
def lg:List Lnk->List Lnk->Prop
 | [],[]=>True
 | k::ks,j::js=>Nrm k j/\lg ks js
 | _,_=>False
theorem lg.uniq:∀ {ks is js:List Lnk},lg ks is->lg ks js->is=js
 | [],[],[],_,_=>rfl
 | _::_,_::_,_::_,h,g=>by rw[h.1.uniq g.1,h.2.uniq g.2]
 | [],_::_,_,h,_=>h.elim
 | _::_,[],_,h,_=>h.elim
 | [],[],_::_,_,g=>g.elim
 | _::_,_::_,[],_,g=>g.elim
theorem lg.app:∀ {ks js ks' js':List Lnk},lg ks js->lg ks' js'->lg (ks++ks') (js++js')
 | [],[],_,_,_,g=>g
 | _::_,_::_,_,_,h,g=>⟨h.1,h.2.app g⟩
 | [],_::_,_,_,h,_=>h.elim
 | _::_,[],_,_,h,_=>h.elim
theorem lg.mem:∀ {ks js:List Lnk}{j:Lnk},lg ks js->j∈js->∃ k∈ks,Nrm k j
 | _::_,_::_,j,h,hj=>by
  rcases mem_cons.mp hj with e | hj
  ·exact⟨_,.head _,by rw[e];exact h.1⟩
  ·obtain⟨k,hk,hn⟩:=h.2.mem hj;exact⟨k,.tail _ hk,hn⟩
 | [],_::_,_,h,_=>h.elim
 | _,[],_,_,hj=>nomatch hj
theorem lg.has:∀ {ks js:List Lnk}{k:Lnk},lg ks js->k∈ks->∃ j∈js,Nrm k j
 | _::_,_::_,k,h,hk=>by
  rcases mem_cons.mp hk with e | hk
  ·exact⟨_,.head _,by rw[e];exact h.1⟩
  ·obtain⟨j,hj,hn⟩:=h.2.has hk;exact⟨j,.tail _ hj,hn⟩
 | _::_,[],_,h,_=>h.elim
 | [],_,_,_,hk=>nomatch hk
theorem lg.len:∀ {ks js:List Lnk},lg ks js->js.length=ks.length
 | [],[],_=>rfl
 | _::_,_::_,h=>by rw[length_cons,length_cons,h.2.len]
 | [],_::_,h=>h.elim
 | _::_,[],h=>h.elim
def lg.perm(h:ks.Perm ks'):∀ {js:List Lnk},lg ks js->∃ js':List Lnk,js.Perm js'/\lg ks' js':=by
 induction h with
 | nil=>exact fun {js} h=>⟨js,.refl _,h⟩
 | cons x _ ih =>
  intro js h
  match js,h with
  | j::js,h =>
   obtain⟨js',p,g⟩:=ih h.2;exact⟨j::js',p.cons j,h.1,g⟩
 | swap x y l =>
  intro js h
  match js,h with
  | a::b::js,h=>exact⟨b::a::js,.swap b a js,h.2.1,h.1,h.2.2⟩
 | trans _ _ ih1 ih2 =>
  intro js h;obtain⟨j1,p1,g1⟩:=ih1 h;obtain⟨j2,p2,g2⟩:=ih2 g1;exact⟨j2,p1.trans p2,g2⟩
theorem lg.filter{p q:Lnk->Bool}:∀ {ks js:List Lnk},lg ks js->(∀ k∈ks,∀ j,Nrm k j->p k=q j)->lg (ks.filter p) (js.filter q)
 | [],[],_,_=>trivial
 | k::ks,j::js,h,g=>by
  have e:=g k (.head _) j h.1;have ih:=h.2.filter fun k hk=>g k (.tail _ hk)
  rw[List.filter_cons,List.filter_cons,e];split
  ·exact⟨h.1,ih⟩
  ·exact ih
 | [],_::_,h,_=>h.elim
 | _::_,[],h,_=>h.elim
theorem lg.pw{r:Lnk->Lnk->Prop}{s:Lnk->Lnk->Prop}(hr:∀ a b c d,Nrm a c->Nrm b d->r a b->s c d):∀ {ks js:List Lnk},lg ks js->ks.Pairwise r->js.Pairwise s
 | [],[],_,_=>.nil
 | k::ks,j::js,h,g=>by
  obtain⟨g1,g2⟩:=pairwise_cons.mp g;refine .cons (fun j' hj'=>?_) (h.2.pw hr g2);obtain⟨k',hk',hn⟩:=h.2.mem hj';exact hr _ _ _ _ h.1 hn (g1 k' hk')
 | [],_::_,h,_=>h.elim
 | _::_,[],h,_=>h.elim
structure ou(ks kb:List Lnk):Prop where
 ex:∃ js,lg ks js/\kb.Perm js
 up:UpD (kb.map aV)
def ou.uniq(h:ou ks a)(g:ou ks b):a=b:=by
 obtain⟨js,h1,h2⟩:=h.ex;obtain⟨is,g1,g2⟩:=g.ex;rw[← h1.uniq g1] at g2;exact map_inj rZ (oZ h.up g.up ((h2.trans g2.symm).map aV))
def ou.perm(h:ou ks kb)(p:ks.Perm ks'):ou ks' kb:=by
 obtain⟨js,h1,h2⟩:=h.ex;obtain⟨js',g1,g2⟩:=h1.perm p;exact⟨⟨js',g2,h2.trans g1⟩,h.up⟩
def ou.put(h:ou ks kb)(hn:Nrm k j)(p:kb'.Perm (kb++[j]))(u:UpD (kb'.map aV)):ou (ks++[k]) kb':=by
 obtain⟨js,h1,h2⟩:=h.ex;exact⟨⟨js++[j],h1.app ⟨hn,trivial⟩,p.trans (h2.append_right _)⟩,u⟩
def ou.mem(h:ou ks kb)(hj:j∈kb):∃ k∈ks,Nrm k j:=by
 obtain⟨js,h1,h2⟩:=h.ex;exact h1.mem (h2.mem_iff.mp hj)
def ou.has(h:ou ks kb)(hk:k∈ks):∃ j∈kb,Nrm k j:=by
 obtain⟨js,h1,h2⟩:=h.ex;obtain⟨j,hj,hn⟩:=h1.has hk;exact⟨j,h2.mem_iff.mpr hj,hn⟩
def ou.len(h:ou ks kb):kb.length=ks.length:=by
 obtain⟨js,h1,h2⟩:=h.ex;rw[h2.length_eq,h1.len]
def ou.cut{p q:Lnk->Bool}(h:ou ks kb)(e:∀ k∈ks,∀ j,Nrm k j->p k=q j):ou (ks.filter p) (kb.filter q):=by
 obtain⟨js,h1,h2⟩:=h.ex;exact⟨⟨js.filter q,h1.filter e,h2.filter q⟩,List.Pairwise.sublist (filter_sublist.map _) h.up⟩
structure MF(al ab:Nms):Prop where
 p:ab.Perm al
 up:UpD (ab.map sD)
def MF.uniq(h:MF al a)(g:MF al b):a=b:=rK h.p h.up g.p g.up
structure Wk(L R:List Prt)(ks:List Lnk)(al:Nms)(kb:List Lnk)(ab sp:Nms)(m:Nat):Prop where
 mo:∀ p∈L++R,p.2.2.Pairwise (· < ·)/\p.2.2.length<=60/\p.1.length<=400
 nd:((L++R).map (·.1)).Nodup
 lL:L.length<=12
 lR:R.length<=12
 sl:sp≠[]
 su:sp.length<=70
 sm:∀ x∈sp,x.length<=400
 sd:∀ x∈sp,x ∉ (L++R).map (·.1)
 on:∀ k∈ks,∀ x∈k.1,x∈L.map (·.1)
 off:∀ k∈ks,∀ x∈k.2.1,x∈R.map (·.1)
 ne:∀ k∈ks,k.1≠[]/\k.2.1≠[]
 nn:∀ k∈ks,k.1.Nodup/\k.2.1.Nodup
 p0:ks.Pairwise fun a b=>∀ x∈a.1,x ∉ b.1
 p1:ks.Pairwise fun a b=>∀ x∈a.2.1,x ∉ b.2.1
 kn:∀ k∈ks,k.1.length<=60/\k.2.1.length<=60/\k.2.2.2.1.length<=20+m/\k.2.2.2.2.length<=20+m
 an:al.Nodup
 ai:∀ x∈al,x∈(L++R).map (·.1)
 nl:ou ks kb
 na:MF al ab
theorem nM{α:Type}[DecidableEq α]:∀ {xs ys:List α},xs.Nodup->(∀ x∈xs,x∈ys)->xs.length<=ys.length
 | [],_,_,_=>Nat.zero_le _
 | x::xs,ys,h,s=>by
  obtain⟨hx,h'⟩:=nodup_cons.mp h;have hm:=s x (.head _);have:=nM (xs:=xs) (ys:=ys.erase x) h' fun y hy=>(mem_erase_of_ne (fun e:y=x=>hx (by rw[← e];exact hy))).mpr (s y (.tail _ hy))
  rw[List.length_erase_of_mem hm] at this;have:=length_pos_of_mem hm;rw[length_cons];lia
def BW{ks:List Lnk}{xs:Nms}(hn:∀ k∈ks,k.1≠[])(hp:ks.Pairwise fun a b=>∀ x∈a.1,x ∉ b.1)(hi:∀ k∈ks,∀ x∈k.1,x∈xs):ks.length<=xs.length:=by
 have hh:∀ k∈ks,k.1.headD []∈k.1:=fun k hk=>by
  cases z:k.1 with
  | nil=>exact absurd z (hn k hk)
  | cons x r=>exact .head _
 have:=nM (xs:=ks.map fun k=>k.1.headD []) (ys:=xs) (by
  rw[nodup_iff_pairwise_ne,pairwise_map];exact hp.imp_of_mem fun {a b} ha hb h e=>h _ (hh a ha) (by rw[e];exact hh b hb)) fun x hx=>by
   obtain⟨k,hk,rfl⟩:=mem_map.mp hx;exact hi k hk _ (hh k hk)
 rwa [Xa] at this
def Wk.lk{L R:List Prt}{ks kb:List Lnk}{al ab sp:Nms}{m:Nat}(h:Wk L R ks al kb ab sp m):ks.length<=12:=by
 have:=BW (fun k hk=>(h.ne k hk).1) h.p0 h.on;rw[Xa] at this;have:=h.lL;lia
def Wk.la(h:Wk L R ks al kb ab sp m):al.length<=24:=by
 have:=nM h.an h.ai;rw[Xa,W0] at this;have:=h.lL;have:=h.lR;lia
def Wk.sides(h:Wk L R ks al kb ab sp m)(h0:x∈L.map (·.1))(h1:x∈R.map (·.1)):False:=by
 have:=h.nd;rw[map_append,nodup_append] at this;exact this.2.2 x h0 x h1 rfl
def sU(h:eV x k=true):x∈k.1\/x∈k.2.1:=by
 unfold eV at h;rw[Bool.or_eq_true,decide_eq_true_eq,decide_eq_true_eq] at h;exact h
def in_of(h:x∈k.1\/x∈k.2.1):eV x k=true:=by
 unfold eV;rw[Bool.or_eq_true,decide_eq_true_eq,decide_eq_true_eq];exact h
def Wk.one(h:Wk L R ks al kb ab sp m)(ha:a∈ks)(hb:b∈ks)(ia:eV x a=true)(ib:eV x b=true):a=b:=Classical.byContradiction fun hne=>by
 rcases sU ia with ia | ia
 ·rcases sU ib with ib | ib
  ·rcases pK h.p0 ha hb hne with g | g
   ·exact g x ia ib
   ·exact g x ib ia
  ·exact h.sides (h.on a ha x ia) (h.off b hb x ib)
 ·rcases sU ib with ib | ib
  ·exact h.sides (h.on b hb x ib) (h.off a ha x ia)
  ·rcases pK h.p1 ha hb hne with g | g
   ·exact g x ia ib
   ·exact g x ib ia
def uP(h:x∈L.map (·.1)):jg L x=0:=by
 unfold jg;rw[bW,W9 h]
 rfl
def rR(h:x ∉ L.map (·.1)):jg L x=1:=by
 unfold jg;rw[bW,WX h]
 rfl
def Nrm.inl(h:Nrm k j)(x:List Nat):eV x j=eV x k:=by
 unfold eV;rw[decide_eq_decide.mpr h.p1.mem_iff,decide_eq_decide.mpr h.p2.mem_iff]
def Wk.found(h:Wk L R ks al kb ab sp m)(hl:cH L kb x=some l):∃ k∈ks,Nrm k l/\eV x k=true:=by
 obtain⟨k,hk,hn⟩:=h.nl.mem (jo hl);refine⟨k,hk,hn,?_⟩;have hx:x∈aK (jg L x) l:=by
  have:=find?_some (p:=fun k=>decide (x∈aK (jg L x) k)) hl;exact W3 this
 rw[← hn.inl];unfold aK at hx;split at hx
 ·exact in_of (.inl hx)
 ·exact in_of (.inr hx)
def Wk.find(h:Wk L R ks al kb ab sp m)(x:List Nat):(cH L kb x).isSome=ks.any (eV x):=by
 cases hl:cH L kb x with
 | some l =>
  obtain⟨k,hk,_,hi⟩:=h.found hl;exact(any_eq_true.mpr ⟨k,hk,hi⟩).symm
 | none =>
  refine(Bool.eq_false_iff.mpr fun z=>?_).symm;obtain⟨k,hk,hi⟩:=any_eq_true.mp z;obtain⟨j,hj,hn⟩:=h.nl.has hk;have hno:=yQ hl hj;rcases sU hi with hi | hi
  ·rw[uP (h.on k hk x hi)] at hno;exact hno (hn.p1.mem_iff.mpr hi)
  ·rw[rR (fun z=>h.sides z (h.off k hk x hi))] at hno;exact hno (hn.p2.mem_iff.mpr hi)
def Jb{α:Type}(f:α->Bool)(xs:List α):xs.all (fun x=>!f x)=!xs.any f:=by
 induction xs with
 | nil=>rfl
 | cons x xs ih=>rw[all_cons,any_cons,ih,Bool.not_or]
def mE(L R:List Prt)(ks:List Lnk)(al:Nms):Dd->Option Nat
 | .take x=>if isP L R x then none else some 0
 | .loose x=>Hq L R ks al x .loose
 | .step x=>Hq L R ks al x .step
def Dd.out(Z:List Prt):Dd->List Prt
 | .take x=>fZ Z x
 | .loose _=>Z
 | .step _=>Z
def MAf(L:List Prt)(ks:List Lnk)(al:Nms)(t:Int)(ks':List Lnk)(al':Nms):Dd->Prop
 | .take x=>TkA ks (bf L x) x t ks'/\al'=al.filter fun y=>decide (y≠x)
 | .loose x=>StA ks al x t ks' al' .loose
 | .step x=>StA ks al x t ks' al' .step
def Wk.err(h:Wk L R ks al kb ab sp m)(d:Dd):dE L R kb ab d=mE L R ks al d:=by
 have hl:∀ x,(if (cH L kb x).isSome=true then none else some 4:Option Nat)=if (ks.all fun k=>!eV x k)=true then some 4 else none:=fun x=>by
  rw[Jb,← h.find x];cases(cH L kb x).isSome <;> rfl
 cases d with
 | take x=>rfl
 | loose x =>
  show(if isP L R x=true then (if (cH L kb x).isSome=true then none else some 4) else some 0)=(if isP L R x=true then (if (ks.all fun k=>!eV x k)=true then some 4 else none) else some 0);rw[hl]
 | step x =>
  show(if isP L R x=true then (if (cH L kb x).isSome=true then none else some 4) else some 0)=(if isP L R x=true then (if (ks.all fun k=>!eV x k)=true then some 4 else none) else some 0);rw[hl]
def Nrm.lens(hn:Nrm k j)(h:k.1.length<=60/\k.2.1.length<=60/\k.2.2.2.1.length<=m/\k.2.2.2.2.length<=m):j.1.length<=60/\j.2.1.length<=60/\j.2.2.2.1.length<=m/\j.2.2.2.2.length<=m:=by
 have l3:j.2.2.2.1.length<=k.2.2.2.1.length:=nM (nodup_iff_pairwise_ne.mpr (hn.s3.imp fun h=>Int.ne_of_lt h)) fun n hn'=>(hn.m3 n).mp hn'
 have l4:j.2.2.2.2.length<=k.2.2.2.2.length:=nM (nodup_iff_pairwise_ne.mpr (hn.s4.imp fun h=>Int.ne_of_lt h)) fun n hn'=>(hn.m4 n).mp hn'
 exact⟨by rw[hn.p1.length_eq];lia,by rw[hn.p2.length_eq];lia,by lia,by lia⟩
def Wk.fit(h:Wk L R ks al kb ab sp m)(hm:m<=40):Fit L R kb ab:=by
 have h1:=h.lL;have h2:=h.lR;have h3:=h.lk;have h4:=h.la;have ln:∀ k∈kb,k.1.length<=60/\k.2.1.length<=60/\k.2.2.2.1.length<=20+m/\k.2.2.2.2.length<=20+m:=fun k hk=>by
  obtain⟨k',hk',hn⟩:=h.nl.mem hk;exact hn.lens (h.kn k' hk')
 refine⟨⟨by lia,by lia,fun p hp=>by have:=(h.mo p hp).2.1;lia⟩,h.nd,fun k hk=>by have:=ln k hk;exact⟨by lia,by lia,by lia,by lia⟩,fun k hk n=>?_,fun k hk e=>?_,?_,by rw[h.nl.len];lia,h.na.p.nodup_iff.mpr h.an,by rw[h.na.p.length_eq];lia⟩
 ·obtain⟨k',hk',hn⟩:=h.nl.mem hk;have:=ln k hk;unfold cj aK;split
  ·exact⟨hn.s3,by lia,by lia⟩
  ·exact⟨hn.s4,by lia,by lia⟩
 ·obtain⟨k',hk',hn⟩:=h.nl.mem hk;have:=hn.p1.length_eq;rw[e] at this;exact(h.ne k' hk').1 (List.eq_nil_of_length_eq_zero this.symm)
 ·obtain⟨js,h1,h2⟩:=h.nl.ex;have:js.Pairwise fun a b=>∀ x∈a.1,x ∉ b.1:=h1.pw (r:=fun a b=>∀ x∈a.1,x ∉ b.1) (fun a b c d hc hd g x hx hy=>g x (hc.p1.mem_iff.mp hx) (hd.p1.mem_iff.mp hy)) h.p0
  exact(h2.pairwise_iff (R:=fun a b:Lnk=>∀ x∈a.1,x ∉ b.1) fun {a b} g x hx hy=>g x hy hx).mpr this
def Ny{ks:List Lnk}(hn:∀ k∈ks,k.1≠[])(hp:ks.Pairwise fun a b=>∀ x∈a.1,x ∉ b.1):ks.Nodup:=by
 rw[nodup_iff_pairwise_ne];refine hp.imp_of_mem fun {a b} ha hb h e=>?_
 cases z:a.1 with
 | nil=>exact hn a ha z
 | cons x r=>exact h x (by rw[z];exact .head _) (by rw[← e,z];exact .head _)
theorem qd{α:Type}[DecidableEq α]:∀ {xs:List α}{i:Nat}{a:α} (b:α),xs.Nodup->xs[i]?=some a->(xs.set i b).Perm (xs.filter (fun x=>decide (x≠a))++[b])
 | x::xs,0,a,b,hn,h=>by
  have e:x=a:=WT h;subst e;obtain⟨h1,_⟩:=nodup_cons.mp hn;rw[List.set_cons_zero,filter_cons_of_neg (by simp),(filter_eq_self (p:=fun y=>decide (y≠x))).mpr fun y hy=>W9 fun e:y=x=>h1 (by rw[← e];exact hy)];exact(List.perm_append_comm (l₁:=xs) (l₂:=[b])).symm
 | x::xs,i+1,a,b,hn,h=>by
  obtain⟨h1,h2⟩:=nodup_cons.mp hn;have h:xs[i]?=some a:=h;have:x≠a:=fun e=>h1 (by rw[e];exact W2 h)
  rw[List.set_cons_succ,filter_cons_of_pos (by simpa using this)];exact(qd b h2 h).cons x
 | [],_,_,_,_,h=>by simp at h
def Hh{ks:List Lnk}{p:Lnk->Bool}(h:ks.any p=true):∃(i:Nat)(k:Lnk),ks[i]?=some k/\p k=true/\∀ j∈ks.take i,p j=false:=by
 induction ks with
 | nil=>cases h
 | cons a ks ih =>
  by_cases ha:p a=true
  ·exact⟨0,a,rfl,ha,fun j hj=>by rw[take_zero] at hj;cases hj⟩
  ·rw[any_cons,Bool.eq_false_iff.mpr ha,Bool.false_or] at h;obtain⟨i,k,h1,h2,h3⟩:=ih h;refine⟨i+1,k,h1,h2,fun j hj=>?_⟩;rw[take_succ_cons] at hj;rcases mem_cons.mp hj with e | hj
   ·rw[e];exact Bool.eq_false_iff.mpr ha
   ·exact h3 j hj
def O4(a b:Lnk):neD (some a) (some b)=decide (a≠b):=by
 show(!eqD (aV a) (aV b))=_;by_cases h:a=b
 ·rw[h,jG];simp
 ·rw[W9 h];cases z:eqD (aV a) (aV b) with
  | false=>rfl
  | true=>exact absurd (rZ (dW.mp z)) h
def Wk.sub(h:Wk L R ks al kb ab sp m)(hs:ks'.Sublist ks)(hn:ou ks' kb'):Wk L R ks' al kb' ab sp m :=
 ⟨h.mo,h.nd,h.lL,h.lR,h.sl,h.su,h.sm,h.sd,fun k hk=>h.on k (hs.subset hk),fun k hk=>h.off k (hs.subset hk),fun k hk=>h.ne k (hs.subset hk),fun k hk=>h.nn k (hs.subset hk),h.p0.sublist hs,h.p1.sublist hs,fun k hk=>h.kn k (hs.subset hk),h.an,h.ai,hn,h.na⟩
def Wk.app(h:Wk L R ks al kb ab sp m)(h0:∀ x∈k.1,x∈L.map (·.1))(h1:∀ x∈k.2.1,x∈R.map (·.1))(hne:k.1≠[]/\k.2.1≠[])(hnn:k.1.Nodup/\k.2.1.Nodup)(g0:∀ a∈ks,∀ x∈a.1,x ∉ k.1)(g1:∀ a∈ks,∀ x∈a.2.1,x ∉ k.2.1)(hk:k.1.length<=60/\k.2.1.length<=60/\k.2.2.2.1.length<=20+m/\k.2.2.2.2.length<=20+m)(hn:ou (ks++[k]) kb'):Wk L R (ks++[k]) al kb' ab sp m:=by
 have ap:∀ {P:Lnk->Prop},(∀ a∈ks,P a)->P k->∀ a∈ks++[k],P a:=fun hP hk a ha=>by
  rcases mem_append.mp ha with ha | ha
  ·exact hP a ha
  ·rw[mem_singleton.mp ha];exact hk
 refine⟨h.mo,h.nd,h.lL,h.lR,h.sl,h.su,h.sm,h.sd,ap h.on h0,ap h.off h1,ap h.ne hne,ap h.nn hnn,pairwise_append.mpr ⟨h.p0,pairwise_singleton _ _,fun a ha b hb=>?_⟩,pairwise_append.mpr ⟨h.p1,pairwise_singleton _ _,fun a ha b hb=>?_⟩,ap h.kn hk,h.an,h.ai,hn,h.na⟩
 ·rw[mem_singleton.mp hb];exact g0 a ha
 ·rw[mem_singleton.mp hb];exact g1 a ha
def Wk.perm(h:Wk L R ks al kb ab sp m)(p:ks.Perm ks'):Wk L R ks' al kb ab sp m :=
 ⟨h.mo,h.nd,h.lL,h.lR,h.sl,h.su,h.sm,h.sd,fun k hk=>h.on k (p.mem_iff.mpr hk),fun k hk=>h.off k (p.mem_iff.mpr hk),fun k hk=>h.ne k (p.mem_iff.mpr hk),fun k hk=>h.nn k (p.mem_iff.mpr hk),(p.pairwise_iff (R:=fun a b:Lnk=>∀ x∈a.1,x ∉ b.1) fun {a b} g x hx hy=>g x hy hx).mp h.p0,(p.pairwise_iff (R:=fun a b:Lnk=>∀ x∈a.2.1,x ∉ b.2.1) fun {a b} g x hx hy=>g x hy hx).mp h.p1,fun k hk=>h.kn k (p.mem_iff.mpr hk),h.an,h.ai,h.nl.perm p,h.na⟩
def Wk.loosed(h:Wk L R ks al kb ab sp m)(hl:cH L kb x=some l)(hk:k∈ks)(hi:eV x k=true):Wk L R (ks.filter fun j=>decide (j≠k)) al (woL kb (some l)) ab sp m:=by
 obtain⟨k',hk',hn,hi'⟩:=h.found hl;have e:=h.one hk hk' hi hi';subst e;refine h.sub filter_sublist (h.nl.cut fun a ha j hj=>?_);show decide (a≠k)=neD (some j) (some l);rw[O4];refine decide_eq_decide.mpr ⟨fun g e=>g (h.one (x:=x) ha hk ?_ hi),fun g e=>g ?_⟩
 ·rw[← hj.inl,e,hn.inl];exact hi
 ·subst e;exact hj.uniq hn
def Wk.more(h:Wk L R ks al kb ab sp m):Wk L R ks al kb ab sp (m+1):=⟨h.mo,h.nd,h.lL,h.lR,h.sl,h.su,h.sm,h.sd,h.on,h.off,h.ne,h.nn,h.p0,h.p1,fun k hk=>by have:=h.kn k hk;exact⟨this.1,this.2.1,by lia,by lia⟩,h.an,h.ai,h.nl,h.na⟩
def jQ(h:y∈Z.map (·.1))(hne:y≠x):y∈(fZ Z x).map (·.1):=by
 obtain⟨p,hp,rfl⟩:=mem_map.mp h;exact mem_map.mpr ⟨p,mem_filter.mpr ⟨hp,W9 hne⟩,rfl⟩
def qY(Z:List Prt)(x:List Nat):(fZ Z x).Sublist Z:=filter_sublist
def Wk.outx(h:Wk L R ks al kb ab sp m)(hx:∀ k∈ks,eV x k=false):Wk (fZ L x) (fZ R x) ks (al.filter fun y=>decide (y≠x)) kb (ab.filter fun y=>decide (y≠x)) sp m:=by
 have hsub:=(qY L x).append (qY R x);have ne:∀ {k:Lnk}{y:List Nat},k∈ks->(y∈k.1\/y∈k.2.1)->y≠x:=fun hk hy e=>by
  have:=hx _ hk;rw[← e,in_of hy] at this;cases this
 refine⟨fun p hp=>h.mo p (hsub.subset hp),h.nd.sublist (hsub.map _),W7 (qY L x).length_le h.lL,W7 (qY R x).length_le h.lR,h.sl,h.su,h.sm,fun y hy z=>h.sd y hy ((hsub.map _).subset z),fun k hk y hy=>jQ (h.on k hk y hy) (ne hk (.inl hy)),fun k hk y hy=>jQ (h.off k hk y hy) (ne hk (.inr hy)),h.ne,h.nn,h.p0,h.p1,h.kn,h.an.sublist filter_sublist,fun y hy=>?_,h.nl,⟨h.na.p.filter _,List.Pairwise.sublist (filter_sublist.map _) h.na.up⟩⟩;obtain⟨h1,h2⟩:=mem_filter.mp hy;have:=h.ai y h1;rw[map_append,mem_append] at this ⊢;exact this.imp (fun z=>jQ z (W3 h2)) fun z=>jQ z (W3 h2)
def ux(h:Nrm k l)(n:Nat):(aK n l).Perm (aK n k):=by
 unfold aK;split
 ·exact h.p1
 ·exact h.p2
def Ea{xs:Nms}{x:List Nat}(hn:xs.Nodup)(hx:x∈xs):(xs.filter fun y=>decide (y≠x))=[]↔xs=[x]:=by
 constructor
 ·intro h
  match xs,hn,hx,h with
  | [a],_,hx,_=>rw[mem_singleton.mp hx]
  | a::b::r,hn,hx,h =>
   have ha:=List.filter_eq_nil_iff.mp h a (.head _);have hb:=List.filter_eq_nil_iff.mp h b (.tail _ (.head _));have e1:a=x:=by simpa using ha
   have e2:b=x:=by simpa using hb
   rw[e1,e2] at hn;exact absurd (List.Mem.head _) (nodup_cons.mp hn).1
 ·intro h;rw[h];simp
def wH(p:xs.Perm ys):xs=[x]↔ys=[x]:=⟨fun h=>List.perm_singleton.mp (by rw[← h];exact p.symm),fun h=>List.perm_singleton.mp (by rw[← h];exact p)⟩
def Gj(h:Nrm k l)(hr:rs.Pairwise (· < ·))(hm:∀ z,z∈rs↔z∈cj n l\/z=t):Nrm (dX k n x t) (fX l n x rs):=by
 have up:∀ {xs:Nms},UpD (xs.map sD)->UpD ((xs.filter fun y=>decide (y≠x)).map sD):=fun h=>List.Pairwise.sublist (filter_sublist.map _) h
 have mm:∀ z,z∈rs↔z∈cj n k++[t]:=fun z=>by
  rw[hm z,mem_append,mem_singleton];have:z∈cj n l↔z∈cj n k:=by
   unfold cj;split
   ·exact h.m3 z
   ·exact h.m4 z
  rw[this]
 unfold dX fX;split
 ·exact⟨h.p1.filter _,up h.u1,h.p2,h.u2,h.t,hr,mm,h.s4,h.m4⟩
 ·exact⟨h.p1,h.u1,h.p2.filter _,up h.u2,h.t,h.s3,h.m3,hr,mm⟩
def Wk.at_side(h:Wk L R ks al kb ab sp m)(hk:k∈ks)(hi:eV x k=true):x∈aK (bf L x) k:=by
 rcases sU hi with z | z
 ·rw[show bf L x=0 from uP (h.on k hk x z)];exact z
 ·rw[show bf L x=1 from rR fun w=>h.sides w (h.off k hk x z)];exact z
def Wk.loss_l(h:Wk L R ks al kb ab sp m)(hk:k∈ks)(hy:y∈(dX k (bf L x) x t).1):y∈k.1/\y≠x:=by
 unfold dX fX at hy;split at hy
 ·have:=mem_filter.mp hy;exact⟨this.1,W3 this.2⟩
 ·rename_i z;exact⟨hy,fun e=>z (uP (by rw[← e];exact h.on k hk y hy))⟩
def Wk.loss_r(h:Wk L R ks al kb ab sp m)(hk:k∈ks)(hp:isP L R x=true)(hy:y∈(dX k (bf L x) x t).2.1):y∈k.2.1/\y≠x:=by
 unfold dX fX at hy;split at hy
 ·rename_i z;refine⟨hy,fun e=>?_⟩;have h1:jg L x=0:=z;rw[rR fun w=>h.sides w (by rw[← e];exact h.off k hk y hy)] at h1;cases h1
 ·have:=mem_filter.mp hy;exact⟨this.1,W3 this.2⟩
def Wk.took{L R:List Prt}{ks kb:List Lnk}{al ab sp:Nms}{m:Nat}(h:Wk L R ks al kb ab sp m){x:List Nat}{t:Int}(hp:isP L R x=true){ks' kb':List Lnk}(hT:TkA ks (bf L x) x t ks')(h0:cH L kb x=none->kb'=kb)(h1:∀ l,cH L kb x=some l->∃ rs:List Int,rs.Pairwise (· < ·)/\(∀ k,k∈rs↔k∈cj (bf L x) l\/k=t)/\RelK kb kb' (some l) (yP l (bf L x) x rs)):Wk (fZ L x) (fZ R x) ks' (al.filter fun y=>decide (y≠x)) kb' (ab.filter fun y=>decide (y≠x)) sp (m+1):=by
 rcases hT with⟨hno,e⟩ | ⟨i,k,hk,hin,_,e⟩
 ·have hn:cH L kb x=none:=by
   cases z:cH L kb x with
   | none=>rfl
   | some l =>
    obtain⟨k,hk,_,hi⟩:=h.found z;rw[hno k hk] at hi;cases hi
  rw[e,h0 hn];exact(h.outx hno).more
 ·have hkm:=W2 hk;obtain⟨l,hl⟩:=Option.isSome_iff_exists.mp (show(cH L kb x).isSome=true by rw[h.find x];exact any_eq_true.mpr ⟨k,hkm,hin⟩);obtain⟨rs,r1,r2,hR⟩:=h1 l hl;obtain⟨k0,hk0,hn,hi0⟩:=h.found hl;rw[← h.one hkm hk0 hin hi0] at hn;have w1:=h.loosed hl hkm hin;have nin:∀ j∈ks.filter (fun j=>decide (j≠k)),eV x j=false:=fun j hj=>by
   cases z:eV x j with
   | false=>rfl
   | true=>exact absurd (h.one (mem_filter.mp hj).1 hkm z hin) (W3 (mem_filter.mp hj).2)
  have w2:=(w1.outx nin).more;have hle:=lJ L x;have hxs:x∈aK (bf L x) k:=h.at_side hkm hin;have nds:(aK (bf L x) k).Nodup:=by
   unfold aK;split
   ·exact(h.nn k hkm).1
   ·exact(h.nn k hkm).2
  have sp1:=qd (dX k (bf L x) x t) (Ny (fun k hk=>(h.ne k hk).1) h.p0) hk;by_cases z:aK (bf L x) l=[x]
  ·have ke:aK (bf L x) (dX k (bf L x) x t)=[]:=by
    rw[show aK (bf L x) (dX k (bf L x) x t)=_ from mH ..];exact(Ea nds hxs).mpr ((wH (ux hn _)).mp z)
   have eR:kb'=woL kb (some l):=by
    have:=hR;unfold yP at this;rw[if_pos z] at this;exact this
   rw[if_pos ke] at e;rw[e,eR];refine w2.perm ?_;have:=(sp1.filter fun j=>decide (aK (bf L x) j≠[]))
   rw[filter_append,filter_cons_of_neg (by simpa using ke),filter_nil,append_nil,(filter_eq_self (l:=ks.filter fun j=>decide (j≠k))).mpr (fun j hj=>?_)] at this
   ·exact this.symm
   ·have hj:=h.ne j (mem_filter.mp hj).1;refine W9 ?_;unfold aK;split
    ·exact hj.1
    ·exact hj.2
  ·have kne:aK (bf L x) (dX k (bf L x) x t)≠[]:=fun w=>by
    rw[show aK (bf L x) (dX k (bf L x) x t)=_ from mH ..] at w;exact z ((wH (ux hn _)).mpr ((Ea nds hxs).mp w))
   obtain⟨hRp,hRu⟩:kb'.Perm (woL kb (some l)++[fX l (bf L x) x rs])/\UpD (kb'.map aV):=by
    have:=hR;unfold yP at this;rw[if_neg z] at this;exact this
   rw[if_neg kne] at e;rw[e];refine(w2.app (k:=dX k (bf L x) x t) (kb':=kb') ?_ ?_ ?_ ?_ ?_ ?_ ?_ (w2.nl.put (Gj hn r1 r2) hRp hRu)).perm sp1.symm
   all_goals have kn:=h.kn k hkm;have ks1:=h.nn k hkm;have kne':=h.ne k hkm
   ·intro y hy;obtain⟨y1,y2⟩:=h.loss_l hkm (t:=t) hy;exact jQ (h.on k hkm y y1) y2
   ·intro y hy;obtain⟨y1,y2⟩:=h.loss_r hkm hp (t:=t) hy;exact jQ (h.off k hkm y y1) y2
   ·revert kne
    unfold dX fX aK;split
    ·exact fun q=>⟨q,kne'.2⟩
    ·exact fun q=>⟨kne'.1,q⟩
   ·unfold dX fX;split
    ·exact⟨ks1.1.sublist filter_sublist,ks1.2⟩
    ·exact⟨ks1.1,ks1.2.sublist filter_sublist⟩
   ·intro a ha y hya hyk;have:=nin a ha;exact(W3 (mem_filter.mp ha).2:a≠k) (h.one (mem_filter.mp ha).1 hkm (in_of (.inl hya)) (in_of (.inl (h.loss_l hkm (t:=t) hyk).1)))
   ·intro a ha y hya hyk;exact(W3 (mem_filter.mp ha).2:a≠k) (h.one (mem_filter.mp ha).1 hkm (in_of (.inr hya)) (in_of (.inr (h.loss_r hkm hp (t:=t) hyk).1)))
   ·have f1:=length_filter_le (fun y=>decide (y≠x)) k.1;have f2:=length_filter_le (fun y=>decide (y≠x)) k.2.1;unfold dX fX cj;split
    ·exact⟨by show(k.1.filter _).length<=60;lia,kn.2.1,by show(k.2.2.2.1++[t]).length<=_;rw[W0,length_singleton];lia,by show k.2.2.2.2.length<=_;lia⟩
    ·exact⟨kn.1,by show(k.2.1.filter _).length<=60;lia,by show k.2.2.2.1.length<=_;lia,by show(k.2.2.2.2++[t]).length<=_;rw[W0,length_singleton];lia⟩
def Wk.next{L R:List Prt}{ks kb:List Lnk}{al ab sp:Nms}{m:Nat}(h:Wk L R ks al kb ab sp m){d:Dd}{t:Int}(hE:mE L R ks al d=none){L' R':List Prt}{ks' kb':List Lnk}{al' ab':Nms}(hA:Aft L R kb ab t L' R' kb' ab' d)(hM:MAf L ks al t ks' al' d):L'=d.out L/\R'=d.out R/\Wk (d.out L) (d.out R) ks' al' kb' ab' sp (m+1):=by
 have lnk:∀ {x:List Nat},(if isP L R x=true then (if (ks.all fun k=>!eV x k)=true then some 4 else none) else some 0:Option Nat)=none->∃ l k i,cH L kb x=some l/\ks[i]?=some k/\eV x k=true/\(∀ j∈ks.take i,eV x j=false)/\Nrm k l:=fun {x} hx=>by
  have ha:ks.any (eV x)=true:=by
   cases z:ks.any (eV x) with
   | true=>rfl
   | false =>
    rw[Jb,z] at hx;split at hx <;> cases hx
  obtain⟨i,k,h1,h2,h3⟩:=Hh ha;have:=h.find x;rw[ha] at this;obtain⟨l,hl⟩:=Option.isSome_iff_exists.mp this;obtain⟨k',hk',hn,hi'⟩:=h.found hl;rw[← h.one (W2 h1) hk' h2 hi'] at hn;exact⟨l,k,i,hl,h1,h2,h3,hn⟩
 cases d with
 | take x =>
  obtain⟨e1,e2,e3,h0,h1⟩:=hA;obtain⟨hT,e4⟩:=hM;have hE:(if isP L R x=true then none else some 0:Option Nat)=none:=hE;split at hE
  ·rename_i hp;rw[e1,e2,e3,e4];exact⟨rfl,rfl,h.took hp hT h0 h1⟩
  ·cases hE
 | loose x =>
  obtain⟨l,k,i,hl,h1,h2,h3,hn⟩:=lnk (x:=x) hE;obtain⟨e1,e2,e3,hA⟩:=hA;obtain⟨e4,hM⟩:=hM;rw[e1,e2,e3,e4,hM i k h1 h2 h3,show kb'=woL kb (some l) from hA l hl];exact⟨rfl,rfl,(h.loosed hl (W2 h1) h2).more⟩
 | step x =>
  obtain⟨l,k,i,hl,h1,h2,h3,hn⟩:=lnk (x:=x) hE;obtain⟨e1,e2,e3,hA⟩:=hA;obtain⟨e4,hM⟩:=hM;obtain⟨hp,hu⟩:=hA l hl;have hk:=W2 h1;have w1:=h.loosed hl hk h2;rw[e1,e2,e3,e4,hM i k h1 h2 h3];have hkn:=h.kn k hk;have ne:∀ a∈ks.filter (fun j=>decide (j≠k)),a∈ks/\a≠k:=fun a ha=>⟨(mem_filter.mp ha).1,W3 (mem_filter.mp ha).2⟩
  exact⟨rfl,rfl,((w1.app (k:=(k.1,k.2.1,t,[],[])) (kb':=kb') (h.on k hk) (h.off k hk) (h.ne k hk) (h.nn k hk) (fun a ha x hxa hxx=>(ne a ha).2 (h.one (ne a ha).1 hk (in_of (.inl hxa)) (in_of (.inl hxx)))) (fun a ha x hxa hxx=>(ne a ha).2 (h.one (ne a ha).1 hk (in_of (.inr hxa)) (in_of (.inr hxx)))) ⟨hkn.1,hkn.2.1,Nat.zero_le _,Nat.zero_le _⟩ (w1.nl.put (j:=(l.1,l.2.1,t,[],[])) ⟨hn.p1,hn.u1,hn.p2,hn.u2,rfl,.nil,fun _=>Iff.rfl,.nil,fun _=>Iff.rfl⟩ hp hu)).perm (qd _ (Ny (fun k hk=>(h.ne k hk).1) h.p0) h1).symm).more⟩
def mQ:bootBuiltins "ValueError" = some (.type "ValueError"):=by decide +kernel
def a7(a b c d e f g:Addr):Nat->Addr
 | 0=>a
 | 1=>b
 | 2=>c
 | 3=>d
 | 4=>e
 | 5=>f
 | _=>g
structure KB(K:W.Frag)(c te:Addr):Prop where
 ek:Ga K c
 un:W.subIn K (.ref c) (.ref te)=some true
 ii:W.isIn K (.ref c) c=true
 iv:W.subIn K (.ref c) (.type "ValueError")=some true
structure KC(K:W.Frag)(te:Addr)(A:Nat->Addr)(e:Nat):Prop where
 ek:Ga K (A e)
 un:W.subIn K (.ref (A e)) (.ref te)=some true
 ii:W.isIn K (.ref (A e)) (A e)=true
 iv:W.subIn K (.ref (A e)) (.type "ValueError")=some true
 no:∀ i,i<7->i≠e->W.kin_not K (A e) (A i)=true
def KC.isx{K:W.Frag}{te:Addr}{A:Nat->Addr}{e:Nat}(h:KC K te A e){i:Nat}(hi:i<7):IsX K (A e) (.ref (A i)) (decide (i=e)):=by
 by_cases z:i=e
 ·rw[W9 z,z];exact .inl ⟨_,rfl,.inl ⟨rfl,h.ii⟩⟩
 ·rw[WX z];exact .inl ⟨_,rfl,.inr ⟨rfl,h.ek,h.no i hi z⟩⟩
def mks(e:Nat):List V:=[.bl (decide (0=e)),.bl (decide (1=e)),.bl (decide (2=e)),.bl (decide (3=e)),.bl (decide (4=e)),.bl (decide (5=e)),.bl (decide (6=e))]
def wds:List V:=[.str "NoPart",.str "NoPlace",.str "Twice",.str "Linked",.str "Apart",.str "NoDeed",.str "NoText"]
def Mp(h:e<=4):(mks e).all fu=true/\(mks e).countP (fun z=>eqV z (.bl true))=1/\(mks e)[e]?=some (.bl true)/\(∀ i z,i<e->(mks e)[i]?=some z->eqV z (.bl true)=false)/\atI wds (e:Nat)=some (.str (wdE (some e))):=by
 have no:∀(e i:Nat)(z:V),e<=4->i<e->(mks e)[i]?=some z->eqV z (.bl true)=false:=fun e i z he hi hz=>by
  match e,i,he,hi,hz with
  | 1,0,_,_,hz=>cases hz;rfl
  | 2,0,_,_,hz=>cases hz;rfl
  | 2,1,_,_,hz=>cases hz;rfl
  | 3,0,_,_,hz=>cases hz;rfl
  | 3,1,_,_,hz=>cases hz;rfl
  | 3,2,_,_,hz=>cases hz;rfl
  | 4,0,_,_,hz=>cases hz;rfl
  | 4,1,_,_,hz=>cases hz;rfl
  | 4,2,_,_,hz=>cases hz;rfl
  | 4,3,_,_,hz=>cases hz;rfl
 match e,h with
 | 0,_=>exact⟨rfl,rfl,rfl,fun i z hi hz=>no 0 i z (by decide) hi hz,aZ (xs:=wds) (j:=0) rfl⟩
 | 1,_=>exact⟨rfl,rfl,rfl,fun i z hi hz=>no 1 i z (by decide) hi hz,aZ (xs:=wds) (j:=1) rfl⟩
 | 2,_=>exact⟨rfl,rfl,rfl,fun i z hi hz=>no 2 i z (by decide) hi hz,aZ (xs:=wds) (j:=2) rfl⟩
 | 3,_=>exact⟨rfl,rfl,rfl,fun i z hi hz=>no 3 i z (by decide) hi hz,aZ (xs:=wds) (j:=3) rfl⟩
 | 4,_=>exact⟨rfl,rfl,rfl,fun i z hi hz=>no 4 i z (by decide) hi hz,aZ (xs:=wds) (j:=4) rfl⟩
def CN(K:W.Frag)(te:Addr)(A:Nat->Addr)(C:Nat->Addr):Sp:=fun vs H Q _=>∃(v:V)(pd:Addr)(o:Option Nat)(Bp:D->Prop),vs=[v,.ref pd]/\(∀ e,o=some e->e<=4/\KC K te A e/\C e=A e) /\
 (∀ Q' E',(o=none->∀(u:V)(B:D)(H':Hp),Same H H'->Den H' u B->Bp B->Q' u H')->(∀ e,o=some e->dR (C e) H E')->uG C vs H Q' E') /\
 (o=none->∀(t:Addr)(u:V)(B:D)(H':Hp),Same H H'->H' t=some (.tup [u,.str (wdE none)])->Den H' u B->Bp B->Q (.ref t) H')/\(∀ e,o=some e->∀(t:Addr)(H':Hp),Same H H'->H' t=some (.tup [.non,.str (wdE (some e))])->Q (.ref t) H')
section
variable {P:Program}{w:World}{K:W.Frag}{mg:Str->Option Value}{base:Heap}{Tn Tv Tp Tt Tq Tr Tz TF:Addr}
def fO:aR ["_law_book_here","_law_deed_here","_law_caught","_law_made","e","_law_words","_law_marks"] ["_law_book_here","_law_deed_here"] (aC xZ):=⟨rfl,rfl,rfl,by decide +kernel,rfl,by decide +kernel,by decide +kernel⟩
def Jv(h:Has K mg "_law_tried" xZ ["_law_book_here","_law_deed_here"])(Uj:mg "TwainError" = some (.ref Tv))(x_TwainError:W.excIn K Tv vBm "ValueError.__new__" = true)(Vf:mg "Twice" = some (.ref Tt))(UJ:mg "NoPlace" = some (.ref Tp))(Ue:mg "NoPart" = some (.ref Tn))(Ur:mg "Apart" = some (.ref Tr))(U4:mg "Linked" = some (.ref Tq))(U5:mg "NoText" = some (.ref TF))(U6:mg "NoDeed" = some (.ref Tz))(Vn:lu P w K mg base "done" 7 ["book","deed"] (uG (c5 Tn Tp Tt Tq Tr)))(TQ:mg "isinstance" = none)(Uk:mg "ValueError" = none):Cal P w K mg base "_law_tried" 8 ["_law_book_here","_law_deed_here"] (CN K Tv (a7 Tn Tp Tt Tq Tr Tz TF) (c5 Tn Tp Tt Tq Tr)):=by
 refine h.mk' fO (fun vs H Q E hs=>?_) (fun f cdv A outer s H vs Q E hr hs=>?_)
 ·obtain⟨v,pd,o,Bp,rfl,_⟩:=hs
  rfl
 obtain⟨v,pd,o,Bp,rfl,hc,hsp,k1,k2⟩:=hs;refine⟨_,(au (aL (i:=2) fO.nd rfl (Or.inl rfl) cU)
  (au (aL (i:=3) fO.nd rfl (Or.inl rfl) cU)
  (au (Ao (i:=4) (fun pins R=>(aB (aL (i:=3) fO.nd rfl (Or.inl rfl) (G9 Vn hr (by decide) rfl (aj (pv 0) (aj (pv 1) aq)))))) (fun e=>(aB (aL (i:=2) fO.nd rfl (Or.inl rfl) (pv 4)))) rfl Uj x_TwainError fO.nd rfl rfl rfl rfl)
  (au (cF (aO nZ (pv 2) cU (bA _))
   (aB (aW (cu (aj (pv 3) (aj aG aq)))))
   bB)
  (au (aL (i:=5) fO.nd rfl (Or.inl rfl) (bR (aj aG (aj aG (aj aG (aj aG (aj aG (aj aG (aj aG aq)))))))))
  (au (aL (i:=6) fO.nd rfl (Or.inl rfl) (bR (aj (bh cA rfl TQ boot_isinstance (aj (pv 2) (aj (fj (v:=.ref Tn) rfl Ue rfl) aq))) (aj (bh cA rfl TQ boot_isinstance (aj (pv 2) (aj (fj (v:=.ref Tp) rfl UJ rfl) aq))) (aj (bh cA rfl TQ boot_isinstance (aj (pv 2) (aj (fj (v:=.ref Tt) rfl Vf rfl) aq))) aq)))))
  (au (aL (i:=6) fO.nd rfl (Or.inl rfl) (bF j7 (pv 6) (bR (aj (bh cA rfl TQ boot_isinstance (aj (pv 2) (aj (fj (v:=.ref Tq) rfl U4 rfl) aq))) (aj (bh cA rfl TQ boot_isinstance (aj (pv 2) (aj (fj (v:=.ref Tr) rfl Ur rfl) aq))) aq)))))
  (au (aL (i:=6) fO.nd rfl (Or.inl rfl) (bF j7 (pv 6) (bR (aj (bh cA rfl TQ boot_isinstance (aj (pv 2) (aj (fj (v:=.ref Tz) rfl U6 rfl) aq))) (aj (bh cA rfl TQ boot_isinstance (aj (pv 2) (aj (fj (v:=.ref TF) rfl U5 rfl) aq))) aq)))))
  (au (cF (PW.pt (vG (aO yK (gC PySem.F.plainAttrs_list PySem.F.slot_list_count PySem.F.type_list_count DK (pv 6) (aj yC aq)) aA (bA _)) (mR (Dg (sO (bh cA rfl TQ boot_isinstance (aj (pv 2) (aj (mU (v:=.ty "ValueError") rfl Uk mQ rfl) aq))))))))
   (aB (aW (cu (aj cU (aj aG aq)))))
   bB)
  (aB (aW (cu (aj cU (aj (bx bI (pv 5) (gC PySem.F.plainAttrs_list PySem.F.slot_list_index PySem.F.type_list_index Dq (pv 6) (aj yC aq)) (fun _ _=>rfl)) aq)))))))))))))),?_⟩
 refine⟨_,rfl,_,rfl,hsp _ _ (fun ho u B H1 s1 d1 hB=>?_) (fun e ho=>yJ fun ex T H1 s1 hex hx=>?_)⟩
 ·refine⟨_,rfl,rfl,_,rfl,rY ⟨_,rfl,smn 2,fun t ht=>?_⟩⟩;have s2:=ao ht (.tup [u,.str (wdE none)]);exact k1 ho t u B _ (s1.trans s2) ak (d1.same s2) hB
 obtain⟨he2,kc,hce⟩:=hc e ho;rw[hce] at hx ⊢;refine⟨⟨_,rfl,kc.un⟩,fun T' hT' hn=>?_⟩;have sx:Same H (xH H1 T' ex (.ref (a7 Tn Tp Tt Tq Tr Tz TF e))):=vC s1 hex hn;have ee:xH H1 T' ex (.ref (a7 Tn Tp Tt Tq Tr Tz TF e)) ex=some (oV (.ref (a7 Tn Tp Tt Tq Tr Tz TF e)) T' ex):=ak;generalize xH H1 T' ex (.ref (a7 Tn Tp Tt Tq Tr Tz TF e))=H2 at sx ee;refine⟨_,rfl,_,rfl,rfl,_,rfl,?_⟩;refine eU (fun z=>by have:=W3 z;cases this) (fun _=>?_);refine⟨smn 7,fun lw hlw=>?_⟩;have w0:=ao hlw (.lst wds);have ew:(upd H2 lw (.lst wds)) lw=some (.lst wds):=ak;have ex0:=w0 _ _ ee;generalize hH3:upd H2 lw (.lst wds)=H3 at w0 ew ex0;have hH3:upd H2 lw (.lst [.str "NoPart",.str "NoPlace",.str "Twice",.str "Linked",.str "Apart",.str "NoDeed",.str "NoText"])=H3:=hH3;rw[hH3];obtain⟨m1,m2,m3,m4,m5⟩:=Mp he2;refine⟨_,rfl,ex,T',_,_,_,rfl,ex0,kc.isx (i:=0) (by lia),_,rfl,ex,T',_,_,_,rfl,ex0,kc.isx (i:=1) (by lia),_,rfl,ex,T',_,_,_,rfl,ex0,kc.isx (i:=2) (by lia),smn 3,fun l1 hl1=>?_⟩;have w1:=ao hl1 (.lst [.bl (decide (0=e)),.bl (decide (1=e)),.bl (decide (2=e))]);have e1:(upd H3 l1 (.lst [.bl (decide (0=e)),.bl (decide (1=e)),.bl (decide (2=e))])) l1=some (.lst [.bl (decide (0=e)),.bl (decide (1=e)),.bl (decide (2=e))]):=ak;generalize upd H3 l1 (.lst [.bl (decide (0=e)),.bl (decide (1=e)),.bl (decide (2=e))])=H4 at w1 e1 ⊢;have ex1:=w1 _ _ ex0;refine⟨_,rfl,_,rfl,ex,T',_,_,_,rfl,ex1,kc.isx (i:=3) (by lia),_,rfl,ex,T',_,_,_,rfl,ex1,kc.isx (i:=4) (by lia),smn 2,fun l2 hl2=>?_⟩;have w2:=ao hl2 (.lst [.bl (decide (3=e)),.bl (decide (4=e))]);have e2:(upd H4 l2 (.lst [.bl (decide (3=e)),.bl (decide (4=e))])) l2=some (.lst [.bl (decide (3=e)),.bl (decide (4=e))]):=ak;generalize upd H4 l2 (.lst [.bl (decide (3=e)),.bl (decide (4=e))])=H5 at w2 e2 ⊢;refine⟨l1,l2,_,_,rfl,rfl,w2 _ _ e1,e2,smn 5,fun l3 hl3=>?_⟩;have w3:=ao hl3 (.lst ([.bl (decide (0=e)),.bl (decide (1=e)),.bl (decide (2=e))]++[.bl (decide (3=e)),.bl (decide (4=e))]));have e3:(upd H5 l3 (.lst ([.bl (decide (0=e)),.bl (decide (1=e)),.bl (decide (2=e))]++[.bl (decide (3=e)),.bl (decide (4=e))]))) l3=some (.lst ([.bl (decide (0=e)),.bl (decide (1=e)),.bl (decide (2=e))]++[.bl (decide (3=e)),.bl (decide (4=e))])):=ak;generalize upd H5 l3 (.lst ([.bl (decide (0=e)),.bl (decide (1=e)),.bl (decide (2=e))]++[.bl (decide (3=e)),.bl (decide (4=e))]))=H6 at w3 e3 ⊢;have ex3:=w3 _ _ (w2 _ _ ex1);refine⟨_,rfl,_,rfl,ex,T',_,_,_,rfl,ex3,kc.isx (i:=5) (by lia),_,rfl,ex,T',_,_,_,rfl,ex3,kc.isx (i:=6) (by lia),smn 2,fun l4 hl4=>?_⟩;have w4:=ao hl4 (.lst [.bl (decide (5=e)),.bl (decide (6=e))]);have e4:(upd H6 l4 (.lst [.bl (decide (5=e)),.bl (decide (6=e))])) l4=some (.lst [.bl (decide (5=e)),.bl (decide (6=e))]):=ak;generalize upd H6 l4 (.lst [.bl (decide (5=e)),.bl (decide (6=e))])=H7 at w4 e4 ⊢;refine⟨l3,l4,_,_,rfl,rfl,w4 _ _ e3,e4,smn 7,fun l5 hl5=>?_⟩;have w5:=ao hl5 (.lst (mks e));have e5:(upd H7 l5 (.lst (mks e))) l5=some (.lst (mks e)):=ak;generalize hH8:upd H7 l5 (.lst (mks e))=H8 at w5 e5;have hH8:upd H7 l5 (.lst (([.bl (decide (0=e)),.bl (decide (1=e)),.bl (decide (2=e))]++[.bl (decide (3=e)),.bl (decide (4=e))])++[.bl (decide (5=e)),.bl (decide (6=e))]))=H8:=hH8;rw[hH8];have s38:=w1.trans (w2.trans (w3.trans (w4.trans w5)));have ex5:=s38 _ _ ex0;have ew5:=s38 _ _ ew;refine⟨_,rfl,.inl ⟨rfl,_,SqL.of e5⟩,l5,_,.bl true,rfl,rfl,e5,rfl,m1,?_⟩;rw[m2];refine⟨rfl,_,rfl,?_⟩;refine eU (fun z=>absurd z (by decide)) (fun _=>?_);refine⟨_,rfl,ex,T',_,_,_,rfl,ex5,.inr ⟨_,rfl,rfl,by kernel_rfl,kc.iv⟩,_,rfl,?_⟩;refine eU (fun z=>absurd z (by decide)) (fun _=>?_);refine⟨_,rfl,_,rfl,.inl ⟨rfl,_,SqL.of e5⟩,l5,_,.bl true,.bl true,e,rfl,rfl,e5,rfl,m1,m3,rfl,m4,lw,_,_,_,rfl,rfl,SqL.of ew5,m5,smn 2,fun t ht=>?_⟩;have s9:=ao ht (.tup [.non,.str (wdE (some e))]);exact k2 e ho t _ ((sx.trans (w0.trans s38)).trans s9) ak
end
def Pl:Nat->D->Prop
 | _,.int _=>True
 | _,.str _=>True
 | n+1,.tup ds=>ds.length<=1000/\∀ d∈ds,Pl n d
 | _,_=>False
theorem Df:∀ n:Nat,(List.replicate n true).all id=true
 | 0=>rfl
 | n+1=>by rw[replicate_succ,all_cons,Df n];rfl
def Ar:Nat->Sp
 | 0=>fun _ _ _ _=>False
 | n+1=>fun vs H Q _=>∃ v d,vs=[v]/\Den H v d/\Pl n d/\∀ H',Same H H'->Q (.bl true) H'
section
variable {P:Program}{w:World}{K:W.Frag}{mg:Str->Option Value}{base:Heap}
def Kh:aR ["_law_thing"] ["_law_thing"] (aC sE):=⟨rfl,rfl,rfl,by decide +kernel,rfl,by decide +kernel,by decide +kernel⟩
theorem Br(h:Has K mg "_law_kinds" sE ["_law_thing"])(TQ:mg "isinstance" = none)(Tw:mg "tuple" = none)(Vu:mg "all" = none)(Vg:mg "bool" = none)(Uq:mg "int" = none)(Vv:mg "str" = none) :
  ∀ n:Nat,Cal P w K mg base "_law_kinds" n ["_law_thing"] (Ar n)
 | 0=>h.never fun _ _ _ _ z=>z
 | n+1=>by
  have Uz:=Br h TQ Tw Vu Vg Uq Vv n;refine h.mk' Kh (fun vs H Q E hs=>?_) (fun f cdv A outer s H vs Q E hr hs=>?_)
  ·obtain⟨v,d,rfl,_⟩:=hs
   rfl
  obtain⟨v,d,rfl,hv,hsh,k⟩:=hs;refine⟨_,(au (cF (sO (bh gB rfl TQ boot_isinstance (aj (pv 0) (aj (mU (v:=.ty "tuple") rfl Tw boot_tuple rfl) aq))))
   (aB (aW (bh (Bg rfl) rfl Vu boot_all (aj (cD ["_law_thing"] (aC sE) ["_law_one"] [none] rfl rfl rfl (fY (pv 0)) rfl (by decide +kernel) (by decide +kernel) (by decide +kernel) (by decide +kernel) (hg:=fun cl C s H ex pn E=>(aP (i:=0) (by decide +kernel:(["_law_one"]:List Str).Nodup) rfl (Or.inl rfl))) (ht:=fun cl C s H ex pn E=>dI) (he:=fun cl C s H ex pn E=>(aM Uz hr (Wu _) rfl (aj (pv 0) aq)))) aq))))
   bB)
  (aB (aW (QK (bh gB rfl TQ boot_isinstance (aj (pv 0) (aj (mU (v:=.ty "str") rfl Vv boot_str rfl) aq))) (HW (M5 (bh gB rfl TQ boot_isinstance (aj (pv 0) (aj (mU (v:=.ty "int") rfl Uq boot_int rfl) aq))) (HW (Oe (bh gB rfl TQ boot_isinstance (aj (pv 0) (aj (mU (v:=.ty "bool") rfl Vg boot_bool rfl) aq))))))))))),?_⟩
  cases d with
  | non=>cases n <;> exact hsh.elim
  | bl b=>cases n <;> exact hsh.elim
  | int i =>
   have e1:v=.int i:=hv;subst e1;refine⟨_,rfl,_,_,_,false,rfl,.int _,rE K,_,rfl,Fb ?_⟩;refine⟨_,rfl,_,_,_,false,rfl,.int _,vP K,?_⟩;refine⟨_,rfl,Fb ⟨_,rfl,_,_,_,true,rfl,.int _,wA K,_,rfl,rY ⟨_,rfl,_,_,_,false,rfl,.int _,tY K,?_⟩⟩⟩;exact⟨_,rfl,k H (Same.refl _)⟩
  | str x =>
   have e1:v=.str x:=hv;subst e1;refine⟨_,rfl,_,_,_,false,rfl,.str _,qM K,_,rfl,Fb ?_⟩;refine⟨_,rfl,_,_,_,true,rfl,.str _,uV K,?_⟩;exact⟨_,rfl,rY (k H (Same.refl _))⟩
  | tup ds =>
   obtain⟨p,vs,rfl,hp,hd1⟩:=aN hv;cases n with
   | zero=>exact hsh.elim
   | succ m =>
   obtain⟨hlen,hin⟩:=hsh;have l1:=hd1.len;refine⟨_,rfl,_,_,_,true,rfl,.tup hp,mz K,_,rfl,rY ?_⟩;refine⟨_,rfl,p,rfl,⟨_,SqT.of hp⟩,fun l hl=>?_⟩;refine cZ (J:=Itt K p) (l:=l) ds.length (fun i σ' H'=>∃ v0:Option V,σ'=[v0]/\Same H H'/\H' l=some (.lst ((List.replicate i true).map V.bl))) ⟨none,rfl,ao hl _,ak⟩ ?_ ?_
   ·rintro σ' H' ⟨v0,rfl,hs,hl'⟩;refine⟨⟨_,SqT.of (hs _ _ hp),by rw[l1];exact Wu _⟩,l,List.replicate ds.length true,rfl,SqL.of hl',?_⟩;rw[Df];exact k H' hs
   ·rintro i σ' H' hi ⟨v0,rfl,hs,hl'⟩;have hx1:vs[i]?=some vs[i]:=Wr (by lia);refine⟨⟨_,_,SqT.of (hs _ _ hp),hx1⟩,?_⟩;rintro N hN y H'' ⟨rfl,h1⟩;have e1:y=vs[i]:=WT ((h1 _ (SqT.of (hs _ _ hp))).symm.trans hx1);obtain⟨d1,g1,b1⟩:=hd1.at_ hx1;rw[← e1] at b1;refine gN (Fe (rY ⟨_,rfl,_,d1,rfl,b1.same hs,hin d1 (W2 g1),fun H3 s3=>?_⟩));have hl3:=s3 _ _ hl';refine⟨_,hl3,by rw[Xa,length_replicate];exact aH (by lia),hN _ _ ⟨_,rfl,cg (hs.trans s3) hl,?_⟩⟩;rw[ak,List.replicate_succ',map_append]
    rfl
end
structure RG(L R:List Prt)(ks:List Lnk)(al:Nms):Prop where
 mo:∀ p∈L++R,p.2.2.Pairwise (· < ·)/\p.2.2.length<=60
 lL:L.length<=60
 lR:R.length<=60
 lk:ks.length<=60
 kn:∀ k∈ks,k.1.length<=60/\k.2.1.length<=60/\k.2.2.2.1.length<=60/\k.2.2.2.2.length<=60
 la:al.length<=60
def DG{ms ns:List Int}(hm:ms.Nodup)(hp:ns.Perm ms)(hs:ns.Pairwise (· <= ·)):ns.Pairwise (· < ·) :=
 (List.Pairwise.and hs (nodup_iff_pairwise_ne.mp (hp.nodup_iff.mpr hm))).imp fun {x y} h=>by lia
def Qa(M:Md)(n:Nat):M.ln n=M.l0\/M.ln n=M.l1:=by
 unfold Md.ln;split
 ·exact .inl rfl
 ·exact .inr rfl
def Mw(h:p∈sdP n L R):p∈L++R:=by
 unfold sdP at h;split at h
 ·exact W5 _ h
 ·exact W4 _ h
theorem MK:∀ {ms ks:List Int},ms.Nodup->(∀ k∈ms,k∈ks)->ms.length<=ks.length
 | [],_,_,_=>Nat.zero_le _
 | a::r,ks,h,s=>by
  have h':=nodup_cons.mp h;have ih:=MK (ks:=ks.erase a) h'.2 fun k hk=>(mem_erase_of_ne (fun(z:k=a)=>h'.1 (by rw[← z];exact hk))).mpr (s k (.tail _ hk))
  rw[List.length_erase_of_mem (s a (.head _))] at ih;have:0<ks.length:=length_pos_of_mem (s a (.head _));rw[length_cons];lia
def dO.grow(h:dO S H M L R ks al)(ha:H a=none):dO (a::S) H M L R ks al:=by
 have ne:∀ {b:Addr}{o:HO},H b=some o->b≠a:=fun e=>aD e ha
 have tt:∀ {b:Addr}{o:HO},H b=some o->b ∉ M.all++M.W++S->b ∉ M.all++M.W++(a::S):=fun e n z=>by
  rcases mem_append.mp z with z | z
  ·exact n (W5 _ z)
  ·rcases mem_cons.mp z with z | z
   ·exact ne e z
   ·exact n (W4 _ z)
 obtain⟨us,eu,hul,hund,hus⟩:=h.lk.ex;have lv:=h.live;refine⟨h.m,h.t,h.w,h.lr,h.l0,h.l1,⟨us,eu,hul,hund,fun i u k hu hk=>?_⟩,h.la,fun b hb z=>?_,h.nd,fun b hb=>⟨fun z=>?_,(h.wo b hb).2⟩,h.wn⟩
 ·obtain⟨q,c1,c2,c3,c4,e,n1,n2,n3,n4,n5,e1,e2,e3,e4,e5⟩:=(hus i u k hu hk).ex;exact⟨q,c1,c2,c3,c4,e,tt e1 n1,tt e2 n2,tt e3 n3,tt e4 n4,tt e5 n5,e1,e2,e3,e4,e5⟩
 ·rcases mem_cons.mp z with z | z
  ·obtain⟨o,ho⟩:=lv b (W5 _ hb);exact ne ho z
  ·exact h.off b hb z
 ·rcases mem_cons.mp z with z | z
  ·obtain⟨o,ho⟩:=lv b (W4 _ hb);exact ne ho z
  ·exact(h.wo b hb).1 z
def yH{ms ns:List Int}{ks:List Int}(hm:ms.Nodup)(hi:∀ k,k∈ms↔k∈ks)(hp:ns.Perm ms)(hs:ns.Pairwise (· <= ·))(hk:ks.Pairwise (· < ·)):ns=ks :=
 zX hk hs (hp.nodup_iff.mpr hm) fun k=>(hp.mem_iff).trans (hi k)
def wO:Sp:=fun vs H Q _=>∃ S M L R ks al,vs=[.ref M.m]/\dO S H M L R ks al/\M.b<=500/\RG L R ks al/\∀(u:V)(kb:List Lnk)(ab:Nms)(H':Hp),Same H H'->Den H' u (eE L R kb ab)->ou ks kb->MF al ab->Q u H'
section
variable {P:Program}{w:World}{K:W.Frag}{mg:Str->Option Value}{base:Heap}
def cI:aR ["_law_model_here","_law_sides_here","_law_row","_law_parts","_law_name","_law_moments_here","_law_links","_law_ones","_law_others","_law_told","_law_left","_law_right","_law_lost"] ["_law_model_here"] (aC qL):=⟨rfl,rfl,rfl,by decide +kernel,rfl,by decide +kernel,by decide +kernel⟩
def CG(h:Has K mg "_law_as_book" qL ["_law_model_here"])(Tw:mg "tuple" = none)(TX:mg "sorted" = none)(UW:mg "set" = none):Cal P w K mg base "_law_as_book" 1 ["_law_model_here"] wO:=by
 refine h.mk' cI (fun vs H Q E hs=>?_) (fun f cdv A outer s H vs Q E hr hs=>?_)
 ·obtain⟨S,M,L,R,ks,al,rfl,_⟩:=hs
  rfl
 obtain⟨S,M,L,R,ks,al,rfl,hM,hB,hT,k⟩:=hs;refine⟨_,(au (aL (i:=1) cI.nd rfl (Or.inl rfl) (bR aq))
  (au (dU PassesOwn.never rfl (fB (bw (bU hr) (pv 0) aG (fun _ _=>rfl))) (aP (i:=2) cI.nd rfl (Or.inl rfl))
   (au (aL (i:=3) cI.nd rfl (Or.inl rfl) (bR aq))
  (au (dU PassesOwn.never rfl (fB (pv 2)) (aP (i:=4) cI.nd rfl (Or.inl rfl))
   (au (aL (i:=5) cI.nd rfl (Or.inl rfl) (aQ aU rfl Tw boot_tuple (aj (bh (fU (w:=w) rfl rfl hr.units) rfl TX boot_sorted (aj (aQ (jN (w:=w) rfl rfl) rfl UW boot_set (aj (bw (bU hr) (bw (bU hr) (pv 0) aG (fun _ _=>rfl)) (pv 4) (fun _ _=>rfl)) aq)) aq)) aq)))
  (aB (cQ (gC PySem.F.plainAttrs_list PySem.F.slot_list_append PySem.F.type_list_append bY (pv 3) (aj (cu (aj (pv 4) (aj (bw (bU hr) (bw (bU hr) (pv 0) aG (fun _ _=>rfl)) (pv 4) (fun _ _=>rfl)) (aj (pv 5) aq)))) aq))))))
  (aB (cQ (gC PySem.F.plainAttrs_list PySem.F.slot_list_append PySem.F.type_list_append bY (pv 1) (aj (aQ aU rfl Tw boot_tuple (aj (pv 3) aq)) aq)))))))
  (au (aL (i:=6) cI.nd rfl (Or.inl rfl) (bR aq))
  (au (dU PassesOwn.never rfl (fB (bw (bU hr) (pv 0) aG (fun _ _=>rfl))) (Pg rfl (bN (aP (i:=7) cI.nd rfl (Or.inl rfl)) (bN (aP (i:=8) cI.nd rfl (Or.inl rfl)) (bN (aP (i:=9) cI.nd rfl (Or.inl rfl)) (bN (aP (i:=10) cI.nd rfl (Or.inl rfl)) (bN (aP (i:=11) cI.nd rfl (Or.inl rfl)) jR))))))
   (au (aL (i:=12) cI.nd rfl (Or.inl rfl) (cu (aj (aQ aU rfl Tw boot_tuple (aj (bh (fU (w:=w) rfl rfl hr.units) rfl TX boot_sorted (aj (aQ (jN (w:=w) rfl rfl) rfl UW boot_set (aj (pv 10) aq)) aq)) aq)) (aj (aQ aU rfl Tw boot_tuple (aj (bh (fU (w:=w) rfl rfl hr.units) rfl TX boot_sorted (aj (aQ (jN (w:=w) rfl rfl) rfl UW boot_set (aj (pv 11) aq)) aq)) aq)) aq))))
  (aB (cQ (gC PySem.F.plainAttrs_list PySem.F.slot_list_append PySem.F.type_list_append bY (pv 6) (aj (cu (aj (aQ aU rfl Tw boot_tuple (aj (bh (cG hr.units) rfl TX boot_sorted (aj (pv 7) aq)) aq)) (aj (aQ aU rfl Tw boot_tuple (aj (bh (cG hr.units) rfl TX boot_sorted (aj (pv 8) aq)) aq)) (aj (pv 9) (aj (pv 12) aq))))) aq))))))
  (aB (aW (cu (aj (bx bI (pv 1) aA (fun _ _=>rfl)) (aj (bx bI (pv 1) aA (fun _ _=>rfl)) (aj (aQ aU rfl Tw boot_tuple (aj (bh (cG hr.units) rfl TX boot_sorted (aj (pv 6) aq)) aq)) (aj (aQ aU rfl Tw boot_tuple (aj (bh (cG hr.units) rfl TX boot_sorted (aj (bw (bU hr) (pv 0) aG (fun _ _=>rfl)) aq)) aq)) aq))))))))))),?_⟩
 refine⟨smn 0,fun ls hls=>gN ?_⟩;have s1:=ao hls (.lst []);have e1:(upd H ls (.lst [])) ls=some (.lst []):=ak;generalize upd H ls (.lst [])=H1 at s1 e1 ⊢;have hM1:=(hM.grow hls).same s1;refine⟨_,rfl,M.m,_,rfl,nQ hM1.m,M.lr,rfl,⟨_,SqL.of hM1.lr⟩,?_⟩;have nlr:M.lr≠ls:=fun z=>hM1.off M.lr (by simp[Md.all]) (by rw[z];exact .head _)
 refine iM (K:=K) (a:=M.lr) (xs:=[V.ref M.l0,V.ref M.l1]) (fun i σ H2=>∃ v2 v3 v4 v5 us,σ=[some (.ref M.m),some (.ref ls),v2,v3,v4,v5,none,none,none,none,none,none,none]/\But ls H1 H2/\H2 ls=some (.lst us)/\us.length=i/\bL H2 us ([D.tup (L.map bH),D.tup (R.map bH)].take i)) ⟨_,_,_,_,[],rfl,.of (Same.refl _),e1,rfl,trivial⟩ ?_ ?_ ?_
 ·rintro i σ H2 _ ⟨_,_,_,_,_,_,b2,_⟩;exact SqL.of (b2 _ _ hM1.lr nlr)
 ·rintro i y σ H2 hi ⟨v2,v3,v4,v5,us,rfl,b2,e2,hul,d2⟩;obtain⟨hi1,rfl⟩:i<=1/\y=.ref (M.ln i):=by
   match i,hi with
   | 0,hi=>exact⟨by lia,(WT hi).symm⟩
   | 1,hi=>exact⟨by lia,(WT hi).symm⟩
  have hM2:=hM1.keep b2.keep;refine LC fun E1 hE1=>gN ⟨smn 0,fun lp hlp=>gN ?_⟩
  have s3:=ao hlp (.lst []);have e3:(upd H2 lp (.lst [])) lp=some (.lst []):=ak;have nlp:ls≠lp:=aD e2 hlp;generalize upd H2 lp (.lst [])=H3 at s3 e3 ⊢;have hM3:=(hM2.grow hlp).same s3;obtain⟨_,hrow⟩:=mj hM3 hi1;have hZl:(sdP i L R).length<=60:=by have:=hT.lL;have:=hT.lR;unfold sdP;split <;> lia
  have nrow:M.ln i≠lp:=fun z=>by
   rcases Qa M i with e | e
   ·exact hM3.off M.l0 (by simp[Md.all]) (by rw[← e,z];exact .head _)
   ·exact hM3.off M.l1 (by simp[Md.all]) (by rw[← e,z];exact .head _)
  obtain⟨kt,et,_,hkt⟩:=hM3.t.ex;obtain⟨kw,ew,_,_,hkw⟩:=hM3.w.ex;have hsub:∀ p∈sdP i L R,p∈L++R:=fun p h=>Mw h
  refine⟨_,rfl,M.ln i,rfl,⟨_,SqL.of hrow⟩,?_⟩;generalize hZ:sdP i L R=Z at *;refine iM (K:=K) (a:=M.ln i) (xs:=bO Z) (fun j σ H4=>∃ v4 v5 ps,σ=[some (.ref M.m),some (.ref ls),some (.ref (M.ln i)),some (.ref lp),v4,v5,none,none,none,none,none,none,none]/\But lp H3 H4/\H4 lp=some (.lst ps)/\ps.length=j/\bL H4 ps ((Z.take j).map bH)) ⟨_,_,[],rfl,.of (Same.refl _),e3,rfl,trivial⟩ ?_ ?_ ?_
  ·rintro j σ H4 _ ⟨_,_,_,_,b4,_⟩;exact SqL.of (b4 _ _ hrow nrow)
  ·rintro j y σ H4 hj ⟨v4,v5,ps,rfl,b4,e4,hpl,d4⟩;have hjl:j<Z.length:=by
    have:=(Wt.mp hj).1;unfold bO at this
    rwa [Xa] at this
   have ey:y=mkT Z[j].1:=by
    unfold bO at hj;rw[W8,bZ hjl] at hj;exact(WT hj).symm
   have hq:=hsub _ (getElem_mem hjl);have htk:=take_one (bZ hjl);generalize Z[j]=q at ey hq htk;subst ey;have hM4:=hM3.keep b4.keep;have hmo:=hT.mo q hq;obtain⟨iq,hiq⟩:=mem_iff_getElem?.mp hq;obtain⟨lw,ws,w0,w1,w3,w4,w5⟩:=hkw iq q hiq;have w2:=(hM3.wo lw (W2 w0)).1;have ew4:=b4 _ _ ew (fun z=>hM3.off M.dw (by simp[Md.all]) (by rw[z];exact .head _));have et4:=b4 _ _ et (fun z=>hM3.off M.dt (by simp[Md.all]) (by rw[z];exact .head _));have w34:=b4 _ _ w3 (fun z=>w2 (by rw[z];exact .head _));have hgw:iG H4 M.dw (mkT q.1) (some (.ref lw)):=by rw[← w1];exact iG.k (k:=nk q.1) ew4
   refine LC fun E2 hE2=>gN ⟨_,rfl,M.m,_,rfl,Nv hM4.m,_,rfl,M.dw,_,rfl,hgw,lw,ws,rfl,SqL.of w34,by lia,fun sa ms hsa hnd hmem hml=>⟨sa,ms,rfl,ak,(by have:=MK hnd fun k hk=>(w5 k).mp ((hmem k).mp hk);lia),fun lo ns hlo hperm hsort=>⟨lo,_,rfl,.inl ⟨SqL.of ak,fun tq htq=>?_⟩⟩⟩⟩
   have hns:ns=q.2.2:=yH hnd (fun k=>(hmem k).trans (w5 k)) hperm hsort hmo.1;subst hns;have s5:=((ao hsa (.ext (intΦ w sa ms))).trans (ao hlo (.lst (q.2.2.map V.int)))).trans (ao htq (.tup (q.2.2.map V.int)));have e5:(upd (upd (upd H4 sa (.ext (intΦ w sa ms))) lo (.lst (q.2.2.map V.int))) tq (.tup (q.2.2.map V.int))) tq=some (.tup (q.2.2.map V.int)):=ak;generalize upd (upd (upd H4 sa (.ext (intΦ w sa ms))) lo (.lst (q.2.2.map V.int))) tq (.tup (q.2.2.map V.int))=H5 at s5 e5 ⊢;have hM5:=hM4.same s5;have hgt:iG H5 M.dt (mkT q.1) (some (mkT q.2.1)):=by rw[← hkt q hq];exact iG.k (k:=nk q.1) (s5 _ _ et4)
   refine⟨_,rfl,.inl ⟨rfl,_,SqL.of (s5 _ _ e4)⟩,_,rfl,_,rfl,M.m,_,rfl,O7 hM5.m,_,rfl,M.dt,_,rfl,hgt,_,rfl,smn 3,fun t ht=>?_⟩;have s6:=ao ht (.tup [mkT q.1,mkT q.2.1,.ref tq]);have e6:(upd H5 t (.tup [mkT q.1,mkT q.2.1,.ref tq])) t=some (.tup [mkT q.1,mkT q.2.1,.ref tq]):=ak;generalize upd H5 t (.tup [mkT q.1,mkT q.2.1,.ref tq])=H6 at s6 e6 ⊢;have e46:=s6 _ _ (s5 _ _ e4);refine⟨lp,ps,_,rfl,rfl,e46,aH (by lia),hE2.n _ _ ⟨_,_,ps++[.ref t],rfl,(b4.trans (.of (s5.trans s6))).trans (.upd _),ak,by rw[W0,hpl];rfl,?_⟩⟩;rw[htk,map_append];exact eG (((d4.same s5).same s6).keepT (lC e46)) ⟨⟨t,_,rfl,lC e46 _ _ e6,rfl,rfl,⟨tq,_,rfl,lC e46 _ _ (s6 _ _ e5),eZ _ _⟩,trivial⟩,trivial⟩
  ·rintro σ H4 ⟨v4,v5,ps,rfl,b4,e4,hpl,d4⟩;have hnl:(bO Z).length=Z.length:=by unfold bO;rw[Xa]
   rw[hnl,take_length] at d4;have e24:=b4 _ _ (s3 _ _ e2) nlp;refine⟨_,rfl,.inl ⟨rfl,_,SqL.of e24⟩,_,rfl,lp,_,rfl,.inl ⟨SqL.of e4,fun tp htp=>?_⟩⟩;have s5:=ao htp (.tup ps);have e5:(upd H4 tp (.tup ps)) tp=some (.tup ps):=ak;generalize upd H4 tp (.tup ps)=H5 at s5 e5 ⊢;have e25:=s5 _ _ e24;have d25:bL H5 us ([D.tup (L.map bH),D.tup (R.map bH)].take i):=(((d2.same s3).keepT (b4.tup e3)).same s5)
   have htk:[D.tup (L.map bH),D.tup (R.map bH)].take (i+1)=[D.tup (L.map bH),D.tup (R.map bH)].take i++[D.tup (Z.map bH)]:=by
    rw[← hZ]
    match i,hi1 with
    | 0,_=>rfl
    | 1,_=>rfl
   refine⟨ls,us,_,rfl,rfl,e25,aH (by lia),hE1.n _ _ ⟨_,_,_,_,us++[.ref tp],rfl,fun c o e n=>?_,ak,by rw[W0,hul];rfl,?_⟩⟩
   ·rw[aF n];have h2:=b2 c o e n;exact s5 _ _ (b4 _ _ (s3 _ _ h2) (aD h2 hlp))
   ·rw[htk];exact eG (d25.keepT (lC e25)) ⟨⟨tp,_,rfl,lC e25 _ _ e5,(d4.same s5).keepT (lC e25)⟩,trivial⟩
 ·rintro σ H2 ⟨v2,v3,v4,v5,us,rfl,b2,e2,hul,d2⟩;obtain⟨u0,u1,rfl⟩:∃ u0 u1,us=[u0,u1]:=by
   match us,hul with
   | [u0,u1],_=>exact⟨u0,u1,rfl⟩
  have d0:Den H2 u0 (.tup (L.map bH)):=d2.1;have d1:Den H2 u1 (.tup (R.map bH)):=d2.2.1;have hM2:=hM1.keep b2.keep;have s02:Same H H2:=But.same s1 hls b2;clear d2 b2;refine⟨smn 0,fun lk hlk=>gN ?_⟩;have s3:=ao hlk (.lst []);have e3:(upd H2 lk (.lst [])) lk=some (.lst []):=ak;have nlk:ls≠lk:=aD e2 hlk;generalize upd H2 lk (.lst [])=H3 at s3 e3 ⊢;have hM3:=(hM2.grow hlk).same s3;obtain⟨ws,ewl,hwl,_,hws⟩:=hM3.lk.ex;have nMlk:M.lk≠lk:=fun z=>hM3.off M.lk (by simp[Md.all]) (by rw[z];exact .head _)
  refine⟨_,rfl,M.m,_,rfl,qw hM3.m,M.lk,rfl,⟨_,SqL.of ewl⟩,?_⟩;refine iM (K:=K) (a:=M.lk) (xs:=ws) (fun i σ H4=>∃ v7 v8 v9 v10 v11 v12 ps kn,σ=[some (.ref M.m),some (.ref ls),v2,v3,v4,v5,some (.ref lk),v7,v8,v9,v10,v11,v12]/\But lk H3 H4/\H4 lk=some (.lst ps)/\ps.length=i/\lg (ks.take i) kn/\bL H4 ps (kn.map aV)) ⟨_,_,_,_,_,_,[],[],rfl,.of (Same.refl _),e3,rfl,trivial,trivial⟩ ?_ ?_ ?_
  ·rintro i σ H4 _ ⟨_,_,_,_,_,_,_,_,_,b4,_⟩;exact SqL.of (b4 _ _ ewl nMlk)
  ·rintro i y σ H4 hi ⟨v7,v8,v9,v10,v11,v12,ps,kn,rfl,b4,e4,hpl,nk4,d4⟩;have hil:i<ks.length:=by
    have:=(Wt.mp hi).1;lia
   obtain⟨q,a,b,c,d,rfl,n1,n2,n3,n4,n5,f1,f2,f3,f4,f5⟩:=(hws i y _ hi (bZ hil)).ex;have hkn:=hT.kn _ (getElem_mem hil);have htk:=take_one (bZ hil);generalize ks[i]=kk at f1 f2 f3 f4 f5 hkn htk;have kp:∀ {x:Addr}{o:HO},H3 x=some o->x ∉ M.all++M.W++lk::ls::S->H4 x=some o:=fun e n=>b4 _ _ e fun z=>n (by rw[z];simp)
   have f1:=kp f1 n1;have f2:=kp f2 n2;have f3:=kp f3 n3;have f4:=kp f4 n4;have f5:=kp f5 n5;refine LC fun E1 hE1=>⟨q,_,rfl,SqL.of f1,rfl,_,_,rfl,_,_,rfl,_,_,rfl,_,_,rfl,_,_,rfl,rfl,?_⟩
   refine⟨_,rfl,c,_,rfl,SqL.of f4,by lia,fun sa ms hsa hnd hmem hml=>⟨sa,ms,rfl,ak,by lia,fun lo ns hlo hperm hsort=>⟨lo,_,rfl,.inl ⟨SqL.of ak,fun t1 ht1=>?_⟩⟩⟩⟩;have u3:=DG hnd hperm hsort;have m3:∀ n,n∈ns↔n∈kk.2.2.2.1:=fun n=>hperm.mem_iff.trans (hmem n)
   have s5:=((ao hsa (.ext (intΦ w sa ms))).trans (ao hlo (.lst (ns.map V.int)))).trans (ao ht1 (.tup (ns.map V.int)));have e5:(upd (upd (upd H4 sa (.ext (intΦ w sa ms))) lo (.lst (ns.map V.int))) t1 (.tup (ns.map V.int))) t1=some (.tup (ns.map V.int)):=ak;generalize upd (upd (upd H4 sa (.ext (intΦ w sa ms))) lo (.lst (ns.map V.int))) t1 (.tup (ns.map V.int))=H5 at s5 e5 ⊢;clear hsa hlo ht1 hnd hmem hml hperm hsort;refine⟨_,rfl,d,_,rfl,SqL.of (s5 _ _ f5),by lia,fun sa ms hsa hnd hmem hml=>⟨sa,ms,rfl,ak,by lia,fun lo ns2 hlo hperm hsort=>⟨lo,_,rfl,.inl ⟨SqL.of ak,fun t2 ht2=>?_⟩⟩⟩⟩;have u4:=DG hnd hperm hsort;have m4:∀ n,n∈ns2↔n∈kk.2.2.2.2:=fun n=>hperm.mem_iff.trans (hmem n)
   have s6:=((ao hsa (.ext (intΦ w sa ms))).trans (ao hlo (.lst (ns2.map V.int)))).trans (ao ht2 (.tup (ns2.map V.int)));have e6:(upd (upd (upd H5 sa (.ext (intΦ w sa ms))) lo (.lst (ns2.map V.int))) t2 (.tup (ns2.map V.int))) t2=some (.tup (ns2.map V.int)):=ak;generalize upd (upd (upd H5 sa (.ext (intΦ w sa ms))) lo (.lst (ns2.map V.int))) t2 (.tup (ns2.map V.int))=H6 at s6 e6 ⊢;clear hsa hlo ht2 hnd hmem hml hperm hsort;refine⟨smn 2,fun t3 ht3=>?_⟩;have s7:=ao ht3 (.tup [.ref t1,.ref t2]);have e7:(upd H6 t3 (.tup [.ref t1,.ref t2])) t3=some (.tup [.ref t1,.ref t2]):=ak;generalize upd H6 t3 (.tup [.ref t1,.ref t2])=H7 at s7 e7 ⊢;have s47:=(s5.trans s6).trans s7;have dl:Den H7 (.ref t3) (.tup [zY ns,zY ns2]):=⟨t3,_,rfl,e7,⟨t1,_,rfl,(s6.trans s7) _ _ e5,eZ _ _⟩,⟨t2,_,rfl,s7 _ _ e6,eZ _ _⟩,trivial⟩
   refine⟨_,rfl,.inl ⟨rfl,_,SqL.of (s47 _ _ e4)⟩,_,rfl,a,_,_,rfl,.inl (SqL.of (s47 _ _ f2)),cC _ kk.1,iD kk.1,by rw[Xa];lia,fun x hx=>?_,fun l8 us8 ds8 hl8 pm8 up8 dn8=>⟨l8,_,rfl,.inl ⟨SqL.of ak,fun t4 ht4=>?_⟩⟩⟩
   ·obtain⟨y,_,rfl⟩:=mem_map.mp hx;exact cV (n:=0) (eF _) 50
   obtain⟨x8,hx8,rfl⟩:=ST.fQ pm8.symm rfl;have hu8:=zF dn8;subst hu8;have s8:=(ao hl8 (.lst (x8.map mkT))).trans (ao ht4 (.tup (x8.map mkT)));have e8:(upd (upd H7 l8 (.lst (x8.map mkT))) t4 (.tup (x8.map mkT))) t4=some (.tup (x8.map mkT)):=ak;generalize upd (upd H7 l8 (.lst (x8.map mkT))) t4 (.tup (x8.map mkT))=H8 at s8 e8 ⊢;have s48:=s47.trans s8;refine⟨_,rfl,b,_,_,rfl,.inl (SqL.of (s48 _ _ f3)),cC _ kk.2.1,iD kk.2.1,by rw[Xa];lia,fun x hx=>?_,fun l9 us9 ds9 hl9 pm9 up9 dn9=>⟨l9,_,rfl,.inl ⟨SqL.of ak,fun t5 ht5=>?_⟩⟩⟩
   ·obtain⟨y,_,rfl⟩:=mem_map.mp hx;exact cV (n:=0) (eF _) 50
   obtain⟨x9,hx9,rfl⟩:=ST.fQ pm9.symm rfl;have hu9:=zF dn9;subst hu9;have s9:=(ao hl9 (.lst (x9.map mkT))).trans (ao ht5 (.tup (x9.map mkT)));have e9:(upd (upd H8 l9 (.lst (x9.map mkT))) t5 (.tup (x9.map mkT))) t5=some (.tup (x9.map mkT)):=ak;generalize upd (upd H8 l9 (.lst (x9.map mkT))) t5 (.tup (x9.map mkT))=H9 at s9 e9 ⊢;refine⟨_,rfl,_,rfl,smn 4,fun t6 ht6=>?_⟩;have sa:=ao ht6 (.tup [.ref t4,.ref t5,.int kk.2.2.1,.ref t3]);have ea:(upd H9 t6 (.tup [.ref t4,.ref t5,.int kk.2.2.1,.ref t3])) t6=some (.tup [.ref t4,.ref t5,.int kk.2.2.1,.ref t3]):=ak;generalize upd H9 t6 (.tup [.ref t4,.ref t5,.int kk.2.2.1,.ref t3])=Ha at sa ea ⊢;have s9a:=s9.trans sa;have s4a:=s48.trans s9a;have e4a:=s4a _ _ e4;have dk:Den Ha (.ref t6) (aV (x8,x9,kk.2.2.1,ns,ns2)):=⟨t6,_,rfl,ea,⟨t4,_,rfl,s9a _ _ e8,cC _ _⟩,⟨t5,_,rfl,sa _ _ e9,cC _ _⟩,rfl,dl.same (s8.trans s9a),trivial⟩
   refine⟨lk,ps,_,rfl,rfl,e4a,aH (by have:=hT.lk;lia),hE1.n _ _ ⟨_,_,_,_,_,_,ps++[.ref t6],kn++[(x8,x9,kk.2.2.1,ns,ns2)],rfl,(b4.trans (.of s4a)).trans (.upd _),ak,by rw[W0,hpl];rfl,?_,?_⟩⟩
   ·rw[htk];exact nk4.app ⟨⟨hx8,up8,hx9,up9,rfl,u3,m3,u4,m4⟩,trivial⟩
   rw[map_append];exact eG ((d4.same s4a).keepT (lC e4a)) ⟨dk.keepT (lC e4a),trivial⟩
  ·rintro σ H4 ⟨v7,v8,v9,v10,v11,v12,ps,kn,rfl,b4,e4,hpl,nk4,d4⟩;rw[hwl,take_length] at nk4;have hknl:=nk4.len;have hlks:=hT.lk;have els:=b4 _ _ (s3 _ _ e2) nlk;have hM4:=hM3.keep b4.keep;have k4:∀(b:Addr)(vs:List V),H2 b=some (.tup vs)->H4 b=some (.tup vs):=fun b vs e=>b4.tup e3 _ _ (s3 _ _ e)
   have s04:Same H H4:=fun x o e=>b4 _ _ (s3 _ _ (s02 _ _ e)) (aD (s02 _ _ e) hlk)
   refine⟨_,rfl,ls,_,_,_,rfl,rfl,SqL.of els,bC _ _,_,rfl,ls,_,_,_,rfl,rfl,SqL.of els,aZ (xs:=[u0,u1]) (j:=1) rfl,?_⟩;refine⟨_,rfl,lk,ps,_,rfl,.inl (SqL.of e4),d4,IW kn,by rw[Xa];lia,fun x hx=>?_,fun l5 us5 ds5 hl5 pm5 up5 dn5=>⟨l5,_,rfl,.inl ⟨SqL.of ak,fun t5 ht5=>?_⟩⟩⟩
   ·obtain⟨y,hy,rfl⟩:=mem_map.mp hx;obtain⟨k',hk',hn'⟩:=nk4.mem hy;have hly:=hn'.lens (hT.kn k' hk');exact show cN 50 _ from cV (n:=3) (ji (k:=y) ⟨by lia,by lia,by lia,by lia⟩) 47
   obtain⟨kb,hkb,rfl⟩:=ST.fQ pm5.symm rfl;have s5:=(ao hl5 (.lst us5)).trans (ao ht5 (.tup us5));have e5:(upd (upd H4 l5 (.lst us5)) t5 (.tup us5)) t5=some (.tup us5):=ak;generalize upd (upd H4 l5 (.lst us5)) t5 (.tup us5)=H5 at s5 e5 ⊢;have hM5:=hM4.same s5;have hala:=hT.la;refine⟨_,rfl,M.m,_,rfl,pX hM5.m,M.la,_,_,rfl,.inl (SqL.of hM5.la),cC _ al,iD al,by rw[Xa];lia,fun x hx=>?_,fun l6 us6 ds6 hl6 pm6 up6 dn6=>⟨l6,_,rfl,.inl ⟨SqL.of ak,fun t6 ht6=>⟨smn 4,fun t ht=>?_⟩⟩⟩⟩
   ·obtain⟨y,_,rfl⟩:=mem_map.mp hx;exact cV (n:=0) (eF _) 50
   obtain⟨ab,hab,rfl⟩:=ST.fQ pm6.symm rfl;have hu6:=zF dn6;subst hu6;have s6:=(ao hl6 (.lst (ab.map mkT))).trans (ao ht6 (.tup (ab.map mkT)));have e6:(upd (upd H5 l6 (.lst (ab.map mkT))) t6 (.tup (ab.map mkT))) t6=some (.tup (ab.map mkT)):=ak;generalize upd (upd H5 l6 (.lst (ab.map mkT))) t6 (.tup (ab.map mkT))=H6 at s6 e6 ht ⊢;have s7:=ao ht (.tup [u0,u1,.ref t5,.ref t6]);have s67:=s6.trans s7;have s47:=s5.trans s67;exact k (.ref t) kb ab _ (s04.trans s47) ⟨t,_,rfl,ak,(d0.keepT k4).same s47,(d1.keepT k4).same s47,⟨t5,_,rfl,s67 _ _ e5,(dn5.same s5).same s67⟩,⟨t6,_,rfl,s7 _ _ e6,cC _ _⟩,trivial⟩ ⟨⟨kn,nk4,hkb⟩,up5⟩ ⟨hab,up6⟩
end
def M4:(!decide (V.str (wdE o)=V.str (Str.ofString "")))=true↔o≠none:=by
 match o with
 | none=>exact⟨fun z=>absurd z (by decide +kernel),fun z=>absurd rfl z⟩
 | some 0=>exact⟨fun _ z=>(nomatch z),fun _=>by decide +kernel⟩
 | some 1=>exact⟨fun _ z=>(nomatch z),fun _=>by decide +kernel⟩
 | some 2=>exact⟨fun _ z=>(nomatch z),fun _=>by decide +kernel⟩
 | some 3=>exact⟨fun _ z=>(nomatch z),fun _=>by decide +kernel⟩
 | some (n+4)=>exact⟨fun _ z=>(nomatch z),fun _=>by show(!decide (V.str (Str.ofString "Apart")=V.str (Str.ofString "")))=true;decide +kernel⟩
def sY(h:Fit L R ks al):cN 5 (eE L R ks al):=by
 have h1:=h.sm.1;have h2:=h.sm.2.1;have h3:=h.kl;have h4:=h.sl;refine cO (by show 4<=100000;lia) fun d hd=>?_
 simp only[mem_cons,not_mem_nil,or_false] at hd;rcases hd with rfl | rfl | rfl | rfl
 ·refine cO (by rw[Xa];lia) fun d hd=>?_
  obtain⟨p,hp,rfl⟩:=mem_map.mp hd;exact(jA (by have:=h.sm.2.2 p (W5 _ hp);lia)).up
 ·refine cO (by rw[Xa];lia) fun d hd=>?_
  obtain⟨p,hp,rfl⟩:=mem_map.mp hd;exact(jA (by have:=h.sm.2.2 p (W4 _ hp);lia)).up
 ·refine cO (by rw[Xa];lia) fun d hd=>?_
  obtain⟨k,hk,rfl⟩:=mem_map.mp hd;exact ji (h.lk k hk)
 ·exact(dH (by lia)).up.up.up
def Ay(n:Nat)(x:List Nat):Pl n (sD x):=by cases n <;> exact trivial
def Ie(n:Nat)(x:Int):Pl n (.int x):=by cases n <;> exact trivial
def Bf(h:ms.length<=1000):Pl (n+1) (zY ms):=⟨by rw[Xa];exact h,fun d hd=>by
 obtain⟨i,_,rfl⟩:=mem_map.mp hd;exact Ie _ _⟩
def qt(h:ns.length<=1000):Pl (n+1) (dZ ns):=⟨by rw[Xa];exact h,fun d hd=>by
 obtain⟨i,_,rfl⟩:=mem_map.mp hd;exact Ay _ _⟩
def Eo(h:p.2.2.length<=1000):Pl (n+2) (bH p):=⟨by show 3<=1000;lia,fun d hd=>by
 simp only[mem_cons,not_mem_nil,or_false] at hd;rcases hd with rfl | rfl | rfl
 ·exact Ay _ _
 ·exact Ay _ _
 ·exact Bf h⟩
def Js(h:LkS k):Pl 3 (aV k):=⟨by show 4<=1000;lia,fun d hd=>by
 obtain⟨h1,h2,h3,h4⟩:=h;simp only[mem_cons,not_mem_nil,or_false] at hd;rcases hd with rfl | rfl | rfl | rfl
 ·exact qt (by lia)
 ·exact qt (by lia)
 ·exact Ie _ _
 ·refine⟨by show 2<=1000;lia,fun d hd=>?_⟩;simp only[mem_cons,not_mem_nil,or_false] at hd;rcases hd with rfl | rfl
  ·exact Bf (by lia)
  ·exact Bf (by lia)⟩
def KY(h:Fit L R ks al):Pl 5 (eE L R ks al):=⟨by show 4<=1000;lia,fun d hd=>by
 simp only[mem_cons,not_mem_nil,or_false] at hd;have h1:=h.sm.1;have h2:=h.sm.2.1;have h3:=h.kl;have h4:=h.sl;rcases hd with rfl | rfl | rfl | rfl
 ·refine⟨by rw[Xa];lia,fun d hd=>?_⟩;obtain⟨p,hp,rfl⟩:=mem_map.mp hd;exact Eo (h.sm.2.2 p (W5 _ hp))
 ·refine⟨by rw[Xa];lia,fun d hd=>?_⟩;obtain⟨p,hp,rfl⟩:=mem_map.mp hd;exact Eo (h.sm.2.2 p (W4 _ hp))
 ·refine⟨by rw[Xa];lia,fun d hd=>?_⟩;obtain⟨k,hk,rfl⟩:=mem_map.mp hd;exact Js (h.lk k hk)
 ·exact qt (by lia)⟩
def dO.shrink(h:dO S H M L R ks al)(hs:∀ a∈T,a∈S):dO T H M L R ks al:=by
 have tt:∀ {b:Addr},b ∉ M.all++M.W++S->b ∉ M.all++M.W++T:=fun n z=>by
  rcases mem_append.mp z with z | z
  ·exact n (W5 _ z)
  ·exact n (W4 _ (hs _ z))
 obtain⟨us,eu,hul,hund,hus⟩:=h.lk.ex;refine⟨h.m,h.t,h.w,h.lr,h.l0,h.l1,⟨us,eu,hul,hund,fun i u k hu hk=>?_⟩,h.la,fun b hb z=>h.off b hb (hs _ z),h.nd,fun a ha=>⟨fun z=>(h.wo a ha).1 (hs _ z),(h.wo a ha).2⟩,h.wn⟩;obtain⟨q,c1,c2,c3,c4,e,n1,n2,n3,n4,n5,e1,e2,e3,e4,e5⟩:=(hus i u k hu hk).ex;exact⟨q,c1,c2,c3,c4,e,tt n1,tt n2,tt n3,tt n4,tt n5,e1,e2,e3,e4,e5⟩
def jt.keepT(h:jt H pd t d)(s:∀(b:Addr)(vs:List V),H b=some (.tup vs)->H' b=some (.tup vs)):jt H' pd t d:=by
 cases d <;> exact s _ _ h
def MP[Decidable a][Decidable b](hn:n<=4)(h:(if a then (if b then none else some n) else some 0:Option Nat)=some e):e<=4:=by
 by_cases ha:a
 ·by_cases hb:b
  ·rw[if_pos ha,if_pos hb] at h;cases h
  ·rw[if_pos ha,if_neg hb] at h;cases h;exact hn
 ·rw[if_neg ha] at h;cases h;lia
def QB(h:dE L R ks al d=some e):e<=4:=by
 cases d with
 | take x =>
  have h:(if isP L R x=true then none else some 0:Option Nat)=some e:=h;split at h
  ·cases h
  ·cases h;lia
 | loose x=>exact MP (by decide) (show(if isP L R x=true then (if (cH L ks x).isSome=true then none else some 4) else some 0:Option Nat)=some e from h)
 | step x=>exact MP (by decide) (show(if isP L R x=true then (if (cH L ks x).isSome=true then none else some 4) else some 0:Option Nat)=some e from h)
def dO.no_tup(h:dO S H M L R ks al)(ha:H a=some (.tup vs)):a ∉ M.all:=fun z=>by
 obtain⟨kt,et,_⟩:=h.t.ex;obtain⟨kw,ew,_⟩:=h.w.ex;obtain⟨us,eu,_⟩:=h.lk.ex;have no:∀ {o:HO},H a=some o->(∀ vs,o≠.tup vs)->False:=fun e n=>by
  rw[ha] at e;exact n vs (WT e).symm
 simp only[Md.all,mem_cons,not_mem_nil,or_false] at z;rcases z with rfl | rfl | rfl | rfl | rfl | rfl | rfl | rfl
 ·exact no h.m fun _ q=>by cases q
 ·exact no et fun _ q=>by cases q
 ·exact no ew fun _ q=>by cases q
 ·exact no h.lr fun _ q=>by cases q
 ·exact no h.l0 fun _ q=>by cases q
 ·exact no h.l1 fun _ q=>by cases q
 ·exact no eu fun _ q=>by cases q
 ·exact no h.la fun _ q=>by cases q
def RQ(hW:Wk L R ks al kb ab sp m)(hm:m<=40)(hM:dO S H M L R ks al)(hSp:rA H M)(hS:Liv S H)(hS5:∀ a∈S,∀ o,H a=some o->∀ a' b' t c d,o≠.lst [.ref a',.ref b',.int t,.ref c,.ref d])(hd:jt H pd t d)(k1:∀ e,mE L R ks al d=some e->∀ H',Same H H'->Q (.str (wdE (some e))) H')
  (k2:mE L R ks al d=none->∀(H':Hp)(M':Md)(ks':List Lnk)(al':Nms),M'.m=M.m/\M'.b=M.b->rA H' M'->rB S H H'->dO S H' M' (d.out L) (d.out R) ks' al'->MAf L ks al t ks' al' d->Q (.str (wdE none)) H'):KH [.ref M.m,.ref pd] H Q E:=by
 have hlk:=hW.lk;have hla:=hW.la;have kx:∀ {H':Hp},Ox M H H'->rB S H H':=fun k=>⟨fun b vs hb=>k b _ hb (hM.no_tup hb) (by intros;intro z;cases z),fun b hb o ho=>k b o ho (fun z=>hM.off b z hb) (hS5 b hb o ho)⟩
 cases d with
 | take x =>
  refine .inl ⟨S,M,L,R,ks,al,pd,t,x,rfl,hM,hSp,hS,hd,by lia,by lia,hW.nd,hW.nn,fun k hk hi=>hW.at_side hk hi,fun k hk n=>?_,fun z H' s'=>k1 0 (by show(if isP L R x=true then none else some 0:Option Nat)=_;rw[z];rfl) H' s',fun z H' M' ks' h1 h2 h3 h4 h5=>k2 (by show(if isP L R x=true then none else some 0:Option Nat)=_;rw[z];rfl) H' M' ks' _ h1 h3 h4 h2 ⟨h5,rfl⟩⟩;have:=hW.kn k hk;unfold cj;split
  ·lia
  ·lia
 | loose x=>exact .inr ⟨S,M,L,R,ks,al,pd,t,x,.loose,rfl,hM,hS,hd,by lia,by lia,k1,fun z H' M' ks' al' h1 h2 h3 h4 h5=>k2 z H' M' ks' al' h1 (h2 hSp) (kx h3) h4 h5⟩
 | step x=>exact .inr ⟨S,M,L,R,ks,al,pd,t,x,.step,rfl,hM,hS,hd,by lia,by lia,k1,fun z H' M' ks' al' h1 h2 h3 h4 h5=>k2 z H' M' ks' al' h1 (h2 hSp) (kx h3) h4 h5⟩
def DR:decide (gA L R z=V.non)=decide (z ∉ (L++R).map (·.1)):=by
 have h:(cJ (L++R) z).isSome=decide (z∈(L++R).map (·.1)):=bW;by_cases hz:z∈(L++R).map (·.1)
 ·have h1:gA L R z≠.non:=by
   unfold gA;rw[if_pos (h.trans (W9 hz))];intro q;cases q
  rw[WX h1,WX (show ¬ z ∉ (L++R).map (·.1) from fun q=>q hz)]
 ·have h1:gA L R z=.non:=by
   unfold gA;rw[if_neg (by rw[h,WX hz];decide)]
  rw[W9 h1,W9 hz]
def dO.sep_old{S:List Addr}{H H':Hp}{M:Md}{L R:List Prt}{ks:List Lnk}{al:Nms}{d lo:Addr}(h:dO S H M L R ks al)(hs:rA H M)(o:Old d lo H H')(hd:d∈S)(hl:lo∈S):rA H' M:=by
 obtain⟨us0,e0,s0⟩:=hs.ex;have ne:∀ {z:Addr},z ∉ S->z≠d/\z≠lo:=fun hz=>⟨fun e=>hz (by rw[e];exact hd),fun e=>hz (by rw[e];exact hl)⟩
 have hlk:=ne (h.off M.lk (by simp[Md.all]));refine⟨us0,o _ _ e0 hlk.1 hlk.2,s0.keep (List.Sublist.refl _) fun q hq m ad hin=>?_⟩;obtain⟨_,_,hL⟩:=h.lk.at e0 hq;obtain⟨qa,a,b,c,d',rfl,n1,_,_,_,_,e1,_⟩:=hL.ex;have hq:=ne fun z=>n1 (W4 _ z)
 exact iQ e1 (o _ _ e1 hq.1 hq.2) hin
def wM(K:W.Frag)(te:Addr)(A C:Nat->Addr):Sp:=fun vs H Q _=>∃ d lo ls v L R kb ab sp,vs=[.ref d,v,.ref ls,.int 30]/\bG d lo H/\Den H v (eE L R kb ab)/\H ls=some (.lst (sp.map mkT))/\ls≠lo/\Wk L R kb ab kb ab sp 0/\(∀ e,e<=4->KC K te A e/\C e=A e)/\∀ H',Q (.bl true) H'
section
variable {P:Program}{w:World}{K:W.Frag}{mg:Str->Option Value}{base:Heap}{Tn Tv Tp Tt Tq Tr Tz TF:Addr}
def fK:aR ["_law_pot_here","_law_book_here","_law_spare","_law_many","_law_model_here","_law_k","_law_deed_here","_law_told","_law_word"] ["_law_pot_here","_law_book_here","_law_spare","_law_many"] (aC oh):=⟨rfl,rfl,rfl,by decide +kernel,rfl,by decide +kernel,by decide +kernel⟩
def Fw(h:Has K mg "_law_walked" oh ["_law_pot_here","_law_book_here","_law_spare","_law_many"])(Vh:Cal P w K mg base "_law_model" 1 ["_law_book_here"] CK)(Vo:Cal P w K mg base "_law_deed" 4 ["_law_pot_here","_law_model_here","_law_spare"] Im)(U3:Cal P w K mg base "_law_tried" 8 ["_law_book_here","_law_deed_here"] (CN K Tv (a7 Tn Tp Tt Tq Tr Tz TF) (c5 Tn Tp Tt Tq Tr)))(V5:Cal P w K mg base "_law_do" 3 ["_law_model_here","_law_deed_here"] KH)(Uz:Cal P w K mg base "_law_kinds" 6 ["_law_thing"] (Ar 6))(UL:Cal P w K mg base "_law_as_book" 1 ["_law_model_here"] wO)(Ui:Cal P w K mg base "_law_side" 1 ["_law_model_here","_law_name"] wZ)(TY:mg "range" = none):Cal P w K mg base "_law_walked" 9 ["_law_pot_here","_law_book_here","_law_spare","_law_many"] (wM K Tv (a7 Tn Tp Tt Tq Tr Tz TF) (c5 Tn Tp Tt Tq Tr)):=by
 refine h.mk' fK (fun vs H Q E hs=>?_) (fun f cdv A outer s H vs Q E hr hs=>?_)
 ·obtain⟨d,lo,ls,v,L,R,kb,ab,sp,rfl,_⟩:=hs
  rfl
 obtain⟨d,lo,ls,v,L,R,kb,ab,sp,rfl,hp,hv,hls,nls,hw,hkc,k⟩:=hs;refine⟨_,(au (aL (i:=4) fK.nd rfl (Or.inr rfl) (aM Vh hr (by decide) rfl (aj (pv 1) aq)))
  (au (dU PassesOwn.never rfl (cW rfl TY (aj (pv 3) aq)) (aP (i:=5) fK.nd rfl (Or.inl rfl))
   (au (aL (i:=6) fK.nd rfl (Or.inl rfl) (aM Vo hr (by decide) rfl (aj (pv 0) (aj (pv 4) (aj (pv 2) aq)))))
  (au (ud (aM U3 hr (by decide) rfl (aj (pv 1) (aj (pv 6) aq))) (tX (n:=2) rfl (bN (aP (i:=7) fK.nd rfl (Or.inl rfl)) (bN (aP (i:=8) fK.nd rfl (Or.inl rfl)) jR))))
  (au (cF (aO yK (pv 8) (aM V5 hr (by decide) rfl (aj (pv 4) (aj (pv 6) aq))) (bA _))
   (aB (aW yC))
   bB)
  (au (cF (aO iZ (pv 8) aG (bA _))
   (au (cF (PW.pt (vG (aO (Ia hr.units) (pv 7) (aM UL hr (by decide) rfl (aj (pv 4) aq)) (bA _)) (mR (Dg (sO (aM Uz hr (by decide) rfl (aj (pv 7) aq)))))))
   (aB (aW yC))
   bB)
  (au (cF (aO (Ia hr.units) (aM U3 hr (by decide) rfl (aj (pv 1) (aj (pv 6) aq))) (cu (aj (pv 7) (aj aG aq))) (bA _))
   (aB (aW yC))
   bB)
  (aB (aL (i:=1) fK.nd rfl (Or.inl rfl) (pv 7)))))
   bB)
  (aB (wB (ix:=2) fK.nd rfl rfl ["_law_pot_here","_law_book_here","_law_spare","_law_many","_law_model_here","_law_k","_law_deed_here","_law_told","_law_word"] (aC oh) ["_law_model_here","_law_name"] [some 4,none] rfl rfl rfl (fB (pv 2)) rfl (by decide +kernel) (by decide +kernel) (by decide +kernel) (by decide +kernel) (hg:=fun cl C s H ex pn E=>(aP (i:=1) (by decide +kernel:(["_law_model_here","_law_name"]:List Str).Nodup) rfl (Or.inl rfl))) (ht:=fun cl C s H ex pn E=>(gw (aO nZ (aM Ui hr (by decide) rfl (aj (pv 0) (aj (pv 1) aq))) cU (bA _)))) (he:=fun cl C s H ex pn E=>(pv 1)))))))))
  (aB (aW yC)))),?_⟩
 have hpS:∀ {H':Hp}{l:Addr}{vs:List V},bG d lo H'->H' l=some (.lst vs)->Liv [l,d,lo] H':=fun h hl a ha=>by
  obtain⟨cs,x,y,z,e1,e2,_⟩:=h;simp only[mem_cons,not_mem_nil,or_false] at ha;rcases ha with rfl | rfl | rfl
  ·exact⟨_,hl⟩
  ·exact⟨_,e1⟩
  ·exact⟨_,e2⟩
 have w1:=hw.lL;have w2:=hw.lR;have w3:=hw.lk;refine⟨_,rfl,[ls,d,lo],v,L,R,kb,ab,rfl,hv,hpS hp hls,by lia,by lia,by lia,hw.nd,fun p hp=>(hw.mo p hp).2.1,fun M H1 s1 hMb hM hSp=>?_⟩;refine⟨_,rfl,30,rfl,by lia,by lia,?_⟩;refine gW (lo:=0) (n:=(30:Int).toNat) (fun i σ H'=>∃ v5 v6 v7 v8 v ls M L R ks kb al ab,σ=[some (.ref d),some v,some (.ref ls),some (.int 30),some (.ref M.m),v5,v6,v7,v8]/\bG d lo H'/\Den H' v (eE L R kb ab)/\dO [ls,d,lo] H' M L R ks al/\M.b=60/\rA H' M/\H' ls=some (.lst (sp.map mkT))/\ls≠lo/\Wk L R ks al kb ab sp i) ⟨_,_,_,_,v,ls,M,L,R,kb,kb,ab,ab,rfl,hp.same s1,hv.same s1,hM,hMb,hSp,s1 _ _ hls,nls,hw⟩ ?_ ?_
 ·clear hp hv hls nls hw hM hSp s1 hMb H1 v ls M kb ab L R w1 w2 w3;rintro i σ H1 hi ⟨v5,v6,v7,v8,v,ls,M,L,R,ks,kb,al,ab,rfl,p1,dv,hM1,hMb,hSp1,els,nls,hw⟩;have hi30:i<30:=hi;have w1:=hw.lL;have w2:=hw.lR;have w3:=hw.lk;have w4:=hw.la;have wsu:=hw.su;have hlen:(L++R).length<=200:=by rw[W0];lia
  have hfit:=hw.fit (by lia);have hMd:dO [d,lo] H1 M L R ks al:=hM1.shrink fun a ha=>WR _ ha
  have hnm:∀ z∈(L++R).map (·.1)++sp,z.length<=400:=fun z hz=>by
   rcases mem_append.mp hz with h | h
   ·obtain⟨p,hp,e⟩:=mem_map.mp h;rw[← e];exact(hw.mo p hp).2.2
   ·exact hw.sm z h
  refine LC fun E hE=>gN ?_
  refine zK (fun σ H'=>∃ pd dd t,σ=[some (.ref d),some v,some (.ref ls),some (.int 30),some (.ref M.m),some (.int (0+(i:Nat))),some (.ref pd),v7,v8]/\bG d lo H'/\Old d lo H1 H'/\jt H' pd t dd/\dd.nm.length<=400) (fun N hN=>?_) ?_
  ·exact⟨_,rfl,_,rfl,_,rfl,d,lo,ls,M,L,R,ks,al,sp,rfl,p1,hMd,els,nls,hw.sl,by lia,hlen,fun pd t dd H2 hx hpd p2 o2=>hN _ _ ⟨pd,dd,t,rfl,p2,o2,hpd,hnm _ hx⟩⟩
  rintro σ H2 ⟨pd,dd,t,rfl,p2,o2,hdd,hsm⟩;have dv2:=dv.keepT (cX p1 o2);have hM2:=hM1.keep ((Keep.old o2).mono fun a ha=>WR _ ha);have els2:=gQ p1 o2 els nls;have herr:=hw.err dd;have hle:∀ e,dE L R kb ab dd=some e->e<=4:=fun e he=>QB he
  generalize ho:dE L R kb ab dd=o at herr hle;have hkc':∀ e,o=some e->e<=4/\KC K Tv (a7 Tn Tp Tt Tq Tr Tz TF) e/\c5 Tn Tp Tt Tq Tr e=a7 Tn Tp Tt Tq Tr Tz TF e:=fun e he=>⟨hle e he,hkc e (hle e he)⟩
  have hdone:∀ {Q':VK}{E':XK}{G:Hp},Den G v (eE L R kb ab)->jt G pd t dd->(o=none->∀(u:V)(B:D)(H':Hp),Same G H'->Den H' u B->(∃ L' R' kb' ab',B=eE L' R' kb' ab'/\Aft L R kb ab t L' R' kb' ab' dd)->Q' u H')->(∀ e,o=some e->dR (c5 Tn Tp Tt Tq Tr e) G E')->uG (c5 Tn Tp Tt Tq Tr) [v,.ref pd] G Q' E':=fun g1 g2 h1 h2=>⟨dd.ix,v,pd,t,dd,L,R,kb,ab,rfl,g1,g2,rfl,hfit,hsm,fun he u L' R' kb' ab' H' s' d' ha=>h1 (ho.symm.trans he) u _ H' s' d' ⟨L',R',kb',ab',rfl,ha⟩,fun e he=>h2 e (ho.symm.trans he)⟩
  refine zK (fun σ H'=>∃ u:V,σ=[some (.ref d),some v,some (.ref ls),some (.int 30),some (.ref M.m),some (.int (0+(i:Nat))),some (.ref pd),some u,some (.str (wdE o))]/\Same H2 H'/\(o=none->∃ L' R' kb' ab',Den H' u (eE L' R' kb' ab')/\Aft L R kb ab t L' R' kb' ab' dd)) (fun N hN=>?_) ?_
  ·refine⟨_,rfl,_,rfl,v,pd,o,fun B=>∃ L' R' kb' ab',B=eE L' R' kb' ab'/\Aft L R kb ab t L' R' kb' ab' dd,rfl,hkc',fun Q' E' h1 h2=>hdone dv2 hdd h1 h2,fun ho t u B H3 s3 et du hB=>?_,fun e ho t H3 s3 et=>?_⟩
   ·subst ho;obtain⟨L',R',kb',ab',rfl,ha⟩:=hB;exact⟨t,_,rfl,SqT.of et,rfl,_,_,rfl,_,_,rfl,rfl,hN _ _ ⟨u,rfl,s3,fun _=>⟨L',R',kb',ab',du,ha⟩⟩⟩
   ·subst ho;exact⟨t,_,rfl,SqT.of et,rfl,_,_,rfl,_,_,rfl,rfl,hN _ _ ⟨.non,rfl,s3,fun z=>nomatch z⟩⟩
  rintro σ H3 ⟨u,rfl,s3,du⟩;have p3:=p2.same s3;have hM3:=hM2.same s3;have els3:=s3 _ _ els2;have dv3:=dv2.same s3;have hd3:=hdd.keepT fun b vs h=>s3 _ _ h
  have hSp3:=hM2.sep_same (hM1.sep_old hSp1 o2 (by simp) (by simp)) s3;refine zK (fun σ H'=>σ=[some (.ref d),some v,some (.ref ls),some (.int 30),some (.ref M.m),some (.int (0+(i:Nat))),some (.ref pd),some u,some (.str (wdE o))]/\rB [ls,d,lo] H3 H'/\∃ M' L' R' ks' al',M'.m=M.m/\M'.b=60/\rA H' M'/\dO [ls,d,lo] H' M' L' R' ks' al'/\(o=none->MAf L ks al t ks' al' dd/\L'=dd.out L/\R'=dd.out R)/\(o≠none->L'=L/\R'=R/\ks'=ks/\al'=al)) (fun N hN=>?_) ?_
  ·refine⟨_,rfl,_,rfl,_,rfl,RQ hw (by lia) hM3 hSp3 (hpS p3 els3) (fun a ha o' ho'=>?_) hd3 (fun e he H4 s4=>?_) (fun he H4 M' ks' al' hm sp4 k4 m4 ma=>?_)⟩
   ·obtain⟨cs,x1,y1,z1,g1,g2,_⟩:=p3;simp only[mem_cons,not_mem_nil,or_false] at ha;intro a' b' t' c' d' z;rcases ha with rfl | rfl | rfl
    ·rw[els3] at ho';cases ho';exact mW z.symm
    ·rw[g1] at ho';cases ho';cases z
    ·rw[g2] at ho';cases ho';exact rU z.symm
   ·rw[← herr] at he;subst he;exact⟨rfl,_,rfl,eU (fun z=>by simp at z) fun _=>hN _ _ ⟨rfl,⟨fun b vs h=>s4 _ _ h,fun b _ o h=>s4 _ _ h⟩,M,L,R,ks,al,rfl,hMb,hM3.sep_same hSp3 s4,hM3.same s4,(fun z=>nomatch z),fun _=>⟨rfl,rfl,rfl,rfl⟩⟩⟩
   ·rw[← herr] at he;subst he;exact⟨rfl,_,rfl,eU (fun z=>by simp at z) fun _=>hN _ _ ⟨rfl,k4,M',_,_,ks',al',hm.1,hm.2.trans hMb,sp4,m4,(fun _=>⟨ma,rfl,rfl⟩),fun z=>absurd rfl z⟩⟩
  rintro σ H4 ⟨rfl,k4,M',L',R',ks',al',hm,hMb',hSp4,hM4,ha4,hb4⟩;have kT:=k4.t;have els4:H4 ls=some (.lst (sp.map mkT)):=k4.s _ (by simp) _ els3;have p4:bG d lo H4:=by
   obtain⟨cs,x,y,z,e1,e2,r⟩:=p3;exact⟨cs,x,y,z,k4.s _ (by simp) _ e1,k4.s _ (by simp) _ e2,r⟩
  refine zK (fun σ H'=>∃ v' kb' ab',σ=[some (.ref d),some v',some (.ref ls),some (.int 30),some (.ref M.m),some (.int (0+(i:Nat))),some (.ref pd),some u,some (.str (wdE o))]/\Same H4 H'/\Den H' v' (eE L' R' kb' ab')/\Wk L' R' ks' al' kb' ab' sp (i+1)) (fun N hN=>?_) ?_
  ·refine⟨_,rfl,rfl,_,rfl,?_⟩;cases o with
   | some e =>
    obtain⟨e1,e2,e3,e4⟩:=hb4 (fun z=>nomatch z);refine eU (fun z=>?_) (fun _=>hN _ _ ⟨v,kb,ab,rfl,Same.refl _,by rw[e1,e2];exact dv3.keepT kT,by rw[e1,e2,e3,e4];exact hw.more⟩);exact absurd (W3 z) fun q=>(M4 (o:=some e)).mpr (fun y=>nomatch y) |> fun r=>by rw[W9 q] at r;cases r
   | none =>
    refine rY ?_;obtain⟨L2,R2,kb',ab',du3,hA⟩:=du rfl;obtain⟨ma,eL,eR⟩:=ha4 rfl;obtain⟨q1,q2,hW⟩:=hw.next herr.symm hA ma;rw[← eL,← eR] at hW;rw[q1,q2,← eL,← eR] at du3;have du4:Den H4 u (eE L' R' kb' ab'):=du3.keepT kT;have hF:=hW.fit (by lia);have lL':=hW.lL;have lR':=hW.lR;have hl':=hW.lk;have hla':=hW.la;have hTl:RG L' R' ks' al':=⟨fun p hp=>⟨(hW.mo p hp).1,(hW.mo p hp).2.1⟩,by lia,by lia,by lia,fun k hk=>by have:=hW.kn k hk;exact⟨this.1,this.2.1,by lia,by lia⟩,by lia⟩
    refine⟨_,rfl,_,rfl,[ls,d,lo],M',L',R',ks',al',congrArg (fun a=>[V.ref a]) hm.symm,hM4,by lia,hTl,fun bk kb2 ab2 H5 s5 db n1 n2=>?_⟩;have ek:=hW.nl.uniq n1;have ea:=hW.na.uniq n2;subst ek;subst ea;refine⟨_,5,du4.same s5,db,sY hF,by lia,_,rfl,Fb ?_⟩;refine⟨_,rfl,u,_,rfl,du4.same s5,KY hF,fun H6 s6=>⟨_,rfl,Fb ?_⟩⟩;have s46:=s5.trans s6;have dv6:Den H6 v (eE L R kb ab):=(dv3.keepT kT).same s46;refine⟨_,rfl,_,rfl,v,pd,none,fun B=>∃ L' R' kb' ab',B=eE L' R' kb' ab'/\Aft L R kb ab t L' R' kb' ab' dd,rfl,hkc',fun Q' E' h1 h2=>hdone dv6 (hd3.keepT fun b vs h=>s46 _ _ (kT _ _ h)) h1 h2,fun _ t u2 B H7 s7 et du2 hB=>⟨_,rfl,smn 2,fun t2 ht2=>?_⟩,fun e ho=>(nomatch ho)⟩;obtain⟨L3,R3,kb3,ab3,rfl,hA3⟩:=hB;obtain⟨q3,q4,hW3⟩:=hw.next herr.symm hA3 ma;rw[← eL,← eR] at hW3;rw[q3,q4,← eL,← eR] at du2;have ek:=hW3.nl.uniq hW.nl;have ea:=hW3.na.uniq hW.na;subst ek;subst ea;have s8:=ao ht2 (.tup [u,.str (wdE none)]);have e8:(upd H7 t2 (.tup [u,.str (wdE none)])) t2=some (.tup [u,.str (wdE none)]):=ak;have du8:=(du4.same s46).same (s7.trans s8);have s48:=s46.trans (s7.trans s8);refine⟨[eE L' R' kb3 ab3,.str (wdE none)],6,⟨t,_,rfl,s8 _ _ et,du2.same s8,rfl,trivial⟩,⟨t2,_,rfl,e8,du8,rfl,trivial⟩,cO (by show 2<=100000;lia) fun x hx=>?_,by lia,_,rfl,Fb ⟨_,rfl,hN _ _ ⟨u,kb3,ab3,rfl,s48,du8,hW3⟩⟩⟩;simp only[mem_cons,not_mem_nil,or_false] at hx;rcases hx with rfl | rfl
    ·exact sY hF
    ·exact cV (n:=0) (eF _) 5
  rintro σ H5 ⟨v',kb',ab',rfl,s5,dv5,hW⟩;have p5:=p4.same s5;have hM5:=hM4.same s5;have els5:=s5 _ _ els4;refine⟨_,rfl,ls,rfl,⟨_,SqL.of els5⟩,fun lc hlc=>?_⟩;have nlo:lc≠lo:=(p5.ne hlc).2;have hM6:dO [lc,d,lo] H5 M' L' R' ks' al':=(hM5.shrink (T:=[d,lo]) fun a ha=>WR _ ha).grow hlc;have hfil:sp.filter (fun z=>decide (z ∉ (L'++R').map (·.1)))=sp:=filter_eq_self.mpr fun z hz=>W9 (hW.sd z hz)
  refine cZ (J:=Itl K ls) (l:=lc) sp.length (fun j σ' H'=>∃ v1:Option V,σ'=[some (.ref M.m),v1]/\Same H5 H'/\H' lc=some (.lst (((sp.take j).filter fun z=>decide (z ∉ (L'++R').map (·.1))).map mkT))) ⟨none,rfl,ao hlc _,ak⟩ ?_ ?_
  ·rintro σ' H6 ⟨v1,rfl,s6,e6⟩;rw[take_length,hfil] at e6;exact⟨⟨_,SqL.of (s6 _ _ els5),by rw[Xa];exact Wu _⟩,hE.n _ _ ⟨_,_,_,_,v',lc,M',L',R',ks',kb',al',ab',by rw[hm];rfl,p5.same s6,dv5.same s6,hM6.same s6,hMb',hM5.sep_same (hM4.sep_same hSp4 s5) s6,e6,nlo,hW⟩⟩
  ·rintro j σ' H6 hj ⟨v1,rfl,s6,e6⟩;have hat:(sp.map mkT)[j]?=some (mkT sp[j]):=by rw[W8,bZ hj];rfl
   refine⟨⟨_,_,SqL.of (s6 _ _ els5),hat⟩,?_⟩;rintro N2 hN2 y H7 ⟨rfl,hy⟩;have ey:y=mkT sp[j]:=WT ((hy _ (SqL.of (s6 _ _ els5))).symm.trans hat);have htk:=take_one (bZ hj);generalize sp[j]=z at ey htk;subst ey;refine gN ⟨_,rfl,_,rfl,[ls,d,lo],M',L',R',ks',al',z,congrArg (fun a=>[V.ref a,mkT z]) hm.symm,hM5.same s6,fun H8 s8=>⟨rfl,_,rfl,?_⟩⟩;rw[DR];have e68:=s8 _ _ e6;have hfl:=length_filter_le (fun z=>decide (z ∉ (L'++R').map (·.1))) (sp.take j);have htl:(sp.take j).length<=70:=by rw[length_take];lia
   refine eU (fun c=>?_) (fun c=>?_)
   ·refine⟨_,rfl,_,e68,aH (by rw[Xa];lia),hN2 _ _ ⟨_,rfl,cg (s6.trans s8) hlc,?_⟩⟩;rw[ak,htk,filter_append,filter_cons_of_pos (p:=fun z=>decide (z ∉ (L'++R').map (·.1))) c,filter_nil];exact congrArg (fun q=>some (HO.lst q)) (map_append (f:=mkT) (l₂:=[z])).symm
   ·refine hN2 _ _ ⟨_,rfl,s6.trans s8,?_⟩;rw[htk,filter_append,filter_cons_of_neg (p:=fun z=>decide (z ∉ (L'++R').map (·.1))) c,filter_nil,append_nil];exact e68
 ·rintro σ H1 ⟨v5,v6,v7,v8,v,ls,M,L,R,ks,kb,al,ab,rfl,_⟩;exact k H1
end
def Gm(K:W.Frag):Sp:=fun vs H Q _=>∃(a:Addr)(ns:List Int),vs=[.ref a]/\SqL K H a (ns.map V.int)/\ns.length<=63/\∀ H',Q (.bl true) H'
def Fi{α:Type}{f:α->D}{xs:List α}(h:xs.Pairwise fun a b=>dlt (f a) (f b)=true):UpD (xs.map f):=by
 unfold UpD;rw[pairwise_map];refine h.imp fun {a b} h=>?_
 cases z:dlt (f b) (f a) with
 | false=>rfl
 | true =>
  have:=xu _ _ _ h z;rw[vg] at this;cases this
def qN(hk:k∈ks)(h:(aY n ks).Nodup):(aK n k).Nodup:=by
 have h':((ks.map (aK n)).flatten).Nodup:=h;exact h'.sublist (List.sublist_flatten_of_mem (mem_map_of_mem hk))
def Mg{x:List Nat}(h:isNm ⟨x.toArray⟩=true):x.length<=400:=by
 unfold isNm at h;rw[Bool.and_eq_true,Bool.and_eq_true] at h;have:=W3 h.1.2;have e:(⟨x.toArray⟩:Str).length=x.length:=Xd;lia
theorem qO:∀ {ks:List Lnk},(aY n ks).Nodup->ks.Pairwise fun a b=>∀ x∈aK n a,x ∉ aK n b
 | [],_=>.nil
 | k::ks,h=>by
  have h:(aK n k++aY n ks).Nodup:=h;obtain⟨_,h2,h3⟩:=nodup_append.mp h;exact .cons (fun b hb x hx hy=>h3 x hx x (mem_flatMap.mpr ⟨b,hb,hy⟩) rfl) (qO h2)
def Fo(h:qy k):Nrm k k:=⟨.refl _,Fi h.1.2.1,.refl _,Fi h.2.1.2.1,rfl,h.2.2.2.2.2.2.1.2.1,fun _=>Iff.rfl,h.2.2.2.2.2.2.2.2.1,fun _=>Iff.rfl⟩
theorem ug:∀ {ks:List Lnk},(∀ k∈ks,qy k)->lg ks ks
 | [],_=>trivial
 | k::ks,h=>⟨Fo (h k (.head _)),ug fun k' hk'=>h k' (.tail _ hk')⟩
def Rf(g:Fj L R ks al)(hL:L.length<=12)(hR:R.length<=12)(h1:sp≠[])(h2:sp.length<=70)(h3:∀ x∈sp,x.length<=400)(h4:∀ x∈sp,x ∉ (L++R).map (·.1)):Wk L R ks al ks al sp 0:=by
 have n2:=g.nd2;have n0:=(n2.sublist (sublist_append_left _ _)).sublist (sublist_append_left _ _);have n1:=(n2.sublist (sublist_append_left _ _)).sublist (sublist_append_right _ _);have na:=n2.sublist (sublist_append_right _ _);refine⟨fun p hp=>?_,g.nd,hL,hR,h1,h2,h3,h4,fun k hk x hx=>g.on x (mem_flatMap.mpr ⟨k,hk,hx⟩),fun k hk x hx=>g.off x (mem_flatMap.mpr ⟨k,hk,hx⟩),fun k hk=>⟨(g.links k hk).2.2.1,(g.links k hk).2.2.2.1⟩,fun k hk=>⟨qN (n:=0) hk n0,qN (n:=1) hk n1⟩,qO n0,qO n1,fun k hk=>?_,na,g.al_in,⟨⟨ks,ug g.links,.refl _⟩,Fi g.up⟩,⟨.refl _,Fi g.alone.2.1⟩⟩
 ·have hg:=g.parts p hp;exact⟨hg.2.2.2.1.2.1,(by have:=hg.2.2.2.1.2.2;lia),Mg hg.1⟩
 ·have h0:k.1.length<=(L.map (·.1)).length:=nM (qN (n:=0) hk n0) fun x hx=>g.on x (mem_flatMap.mpr ⟨k,hk,hx⟩)
  have h1:k.2.1.length<=(R.map (·.1)).length:=nM (qN (n:=1) hk n1) fun x hx=>g.off x (mem_flatMap.mpr ⟨k,hk,hx⟩)
  rw[Xa] at h0 h1;have hg:=g.links k hk;exact⟨by lia,by lia,W7 hg.2.2.2.2.2.2.1.2.2 (by decide),W7 hg.2.2.2.2.2.2.2.2.2 (by decide)⟩
section
variable {P:Program}{w:World}{K:W.Frag}{mg:Str->Option Value}{base:Heap}{Tn Tv Tp Tt Tq Tr Tz TF:Addr}
def Hl:aR ["_law_script","_law_pot_here","_law_names_here","_law_book_here"] ["_law_script"] (aC Hg):=⟨rfl,rfl,rfl,by decide +kernel,rfl,by decide +kernel,by decide +kernel⟩
theorem Pk(F:Fun K "law" "law" Hg f fd)(VG:Cal P w K mg base "_law_pot" 1 ["_law_script"] (NQ K))(Vi:Cal P w K mg base "_law_names" 2 ["_law_pot_here"] Aa)(Vp:Cal P w K mg base "_law_book" 5 ["_law_pot_here","_law_names_here"] Iz)(U7:Cal P w K mg base "_law_walked" 9 ["_law_pot_here","_law_book_here","_law_spare","_law_many"] (wM K Tv (a7 Tn Tp Tt Tq Tr Tz TF) (c5 Tn Tp Tt Tq Tr)))(hKC:∀ e,e<=4->KC K Tv (a7 Tn Tp Tt Tq Tr Tz TF) e/\(c5 Tn Tp Tt Tq Tr) e=(a7 Tn Tp Tt Tq Tr Tz TF) e):qR P w K mg base CX0 10 f fd ["_law_script"] (Gm K):=by
 refine F.ok Hl (fun vs H Q E hs=>?_) (fun cdv A outer s H vs Q E hr hs=>?_)
 ·obtain⟨a,ns,rfl,_⟩:=hs
  rfl
 obtain⟨a,ns,rfl,hS,hl,k⟩:=hs;refine⟨_,(au (aL (i:=1) Hl.nd rfl (Or.inl rfl) (aM VG hr (by decide) rfl (aj (pv 0) aq)))
  (au (aL (i:=2) Hl.nd rfl (Or.inl rfl) (aM Vi hr (by decide) rfl (aj (pv 1) aq)))
  (au (aL (i:=3) Hl.nd rfl (Or.inl rfl) (aM Vp hr (by decide) rfl (aj (pv 1) (aj (pv 2) aq))))
  (aB (aW (aM U7 hr (by decide) rfl (aj (pv 1) (aj (pv 3) (aj (pv 2) (aj aA aq)))))))))),?_⟩
 refine⟨_,rfl,a,ns,rfl,hS,hl,fun d lo H1 s1 p1=>?_⟩;refine⟨_,rfl,d,lo,rfl,p1,fun l xs H2 hl2 e2 hrow p2 o2=>?_⟩;obtain⟨nld,nlo⟩:=p1.ne hl2;refine⟨_,rfl,_,rfl,d,lo,l,xs,rfl,p2,e2,nld,nlo,hrow,fun q L R ks al rest H3 dq gb hL hR hperm e3 p3 o3=>?_⟩;obtain⟨hxl,hxn,hxm⟩:=hrow;have hnd:=(hperm.nodup_iff.mp hxn)
 rw[nodup_append] at hnd;have hlen:=hperm.length_eq;rw[W0,Xa,W0] at hlen;exact⟨_,rfl,_,rfl,_,rfl,d,lo,l,.ref q,L,R,ks,al,rest,rfl,p3,dq,e3,nlo,Rf gb hL hR (fun z=>by rw[z,length_nil] at hlen;lia) (by lia) (fun x hx=>Mg (hxm x (hperm.mem_iff.mpr (W4 _ hx)))) (fun x hx z=>hnd.2.2 x z x hx rfl),hKC,fun H4=>k H4⟩
end
def all_mk{l:W.OpenLaw}{w:World}{K:W.Frag}{h:Heap}{mg:Str->Option Value}{fa f39:Addr}(X:K.In h)(G:h.Ns mainGlobals mg)(hfa:mg "law" = some (.ref fa))
  {od39 an39:Option Addr}{sl39:Array (Option Value)}{oc39 kV39 dc39 pm39 cd39 ct39:Value}
  (i1:FnI K "part_of" rm)
  (i2:FnI K "side_of" qU)
  (i3:FnI K "link_of" qD)
  (i4:FnI K "replaced" jq)
  (i5:FnI K "without" jx)
  (i6:FnI K "with_one" lW)
  (i7:FnI K "parts_without" dB)
  (i8:FnI K "relinked" jh)
  (i9:FnI K "needed_link" gn)
  (i10:FnI K "link_behind_loss" dz)
  (i11:FnI K "take_done" jw)
  (i12:FnI K "loose_done" iI)
  (i13:FnI K "step_done" ju)
  (i14:FnI K "done" FT)
  (i15:FnI K "_law_pot" PK)
  (i16:FnI K "_law_next" Fx)
  (i17:FnI K "_law_count" xg)
  (i18:FnI K "_law_names" mZ)
  (i19:FnI K "_law_taken" yr)
  (i20:FnI K "_law_text" FJ)
  (i21:FnI K "_law_moments" lU)
  (i22:FnI K "_law_sides" wI)
  (i23:FnI K "_law_some" Ac)
  (i24:FnI K "_law_stood" oY)
  (i25:FnI K "_law_book" Fv)
  (i26:FnI K "_law_model" pN)
  (i27:FnI K "_law_as_book" qL)
  (i28:FnI K "_law_side" G7)
  (i29:FnI K "_law_link" Hs)
  (i30:FnI K "_law_take" zu)
  (i31:FnI K "_law_stand" tW)
  (i32:FnI K "_law_do" sDo)
  (i33:FnI K "_law_pick" FP)
  (i34:FnI K "_law_standing" jj)
  (i35:FnI K "_law_deed" Hw)
  (i36:FnI K "_law_tried" xZ)
  (i37:FnI K "_law_kinds" sE)
  (i38:FnI K "_law_walked" oh)
  (a39:W.nsIn K mainGlobals "law" = some (some (.ref f39)))(l39:K.lookup f39=some ⟨oc39,od39,.func (W.fnOf "law" "law" (gR Hg) (fG Hg) (aC Hg) .none kV39 dc39 pm39 an39 cd39 ct39),sl39⟩)(c39:W.codeIn K cd39 "law" = true)(k39:W.keepIn K (.ref f39)=true)
  {Us:Addr}(p_DOERS:W.nsIn K mainGlobals "DOERS" = some (some (.ref Us)))(Ul:KFT K Us iy)
  {Tn Tr Tv Tt Tp Tq TF Tz:Addr}(p_NoPart:W.nsIn K mainGlobals "NoPart" = some (some (.ref Tn)))(p_Apart:W.nsIn K mainGlobals "Apart" = some (some (.ref Tr)))(p_TwainError:W.nsIn K mainGlobals "TwainError" = some (some (.ref Tv)))(p_Twice:W.nsIn K mainGlobals "Twice" = some (some (.ref Tt)))(p_NoPlace:W.nsIn K mainGlobals "NoPlace" = some (some (.ref Tp)))(p_Linked:W.nsIn K mainGlobals "Linked" = some (some (.ref Tq)))(p_NoText:W.nsIn K mainGlobals "NoText" = some (some (.ref TF)))(p_NoDeed:W.nsIn K mainGlobals "NoDeed" = some (some (.ref Tz)))(x_NoPart:W.excIn K Tn vBm "ValueError.__new__" = true)(x_Apart:W.excIn K Tr vBm "ValueError.__new__" = true)(x_TwainError:W.excIn K Tv vBm "ValueError.__new__" = true)(b0k:KB K Tn Tv)(n01k:W.kin_not K Tn Tp=true)(n02k:W.kin_not K Tn Tt=true)(n03k:W.kin_not K Tn Tq=true)(n04k:W.kin_not K Tn Tr=true)(n05k:W.kin_not K Tn Tz=true)(n06k:W.kin_not K Tn TF=true)(b1k:KB K Tp Tv)(n10k:W.kin_not K Tp Tn=true)(n12k:W.kin_not K Tp Tt=true)(n13k:W.kin_not K Tp Tq=true)(n14k:W.kin_not K Tp Tr=true)(n15k:W.kin_not K Tp Tz=true)(n16k:W.kin_not K Tp TF=true)(b2k:KB K Tt Tv)(n20k:W.kin_not K Tt Tn=true)(n21k:W.kin_not K Tt Tp=true)(n23k:W.kin_not K Tt Tq=true)(n24k:W.kin_not K Tt Tr=true)(n25k:W.kin_not K Tt Tz=true)(n26k:W.kin_not K Tt TF=true)(b3k:KB K Tq Tv)(n30k:W.kin_not K Tq Tn=true)(n31k:W.kin_not K Tq Tp=true)(n32k:W.kin_not K Tq Tt=true)(n34k:W.kin_not K Tq Tr=true)(n35k:W.kin_not K Tq Tz=true)(n36k:W.kin_not K Tq TF=true)(b4k:KB K Tr Tv)(n40k:W.kin_not K Tr Tn=true)(n41k:W.kin_not K Tr Tp=true)(n42k:W.kin_not K Tr Tt=true)(n43k:W.kin_not K Tr Tq=true)(n45k:W.kin_not K Tr Tz=true)(n46k:W.kin_not K Tr TF=true)
  (z_len:W.nsIn K mainGlobals "len" = some none)(z_int:W.nsIn K mainGlobals "int" = some none)(z_range:W.nsIn K mainGlobals "range" = some none)(z_isinstance:W.nsIn K mainGlobals "isinstance" = some none)(z_tuple:W.nsIn K mainGlobals "tuple" = some none)(z_bool:W.nsIn K mainGlobals "bool" = some none)(z_str:W.nsIn K mainGlobals "str" = some none)(z_list:W.nsIn K mainGlobals "list" = some none)(z_sorted:W.nsIn K mainGlobals "sorted" = some none)(z_min:W.nsIn K mainGlobals "min" = some none)(z_ValueError:W.nsIn K mainGlobals "ValueError" = some none)(z_sum:W.nsIn K mainGlobals "sum" = some none)(z_any:W.nsIn K mainGlobals "any" = some none)(z_all:W.nsIn K mainGlobals "all" = some none)(z_set:W.nsIn K mainGlobals "set" = some none) :
  ∃ fd:FuncData,(∀(s:Shared)(v:Value),BindsTo s fd ⟨[v],[]⟩ [("_law_script",v)])/\∀ base:Heap,K.In base->base.Ns mainGlobals mg->qR l.prog w K mg base CX0 10 fa fd ["_law_script"] (Gm K):=by
 have e:=hfa.symm.trans (W.mg_of X G a39);cases e;have Vw:Has K mg "part_of" rm ["book","name"]:=i1.has X G fun _ _ _ _ _ _ us hl=>len2 us hl fun _ _=>rfl
 have Vx:Has K mg "side_of" qU ["book","name"]:=i2.has X G fun _ _ _ _ _ _ us hl=>len2 us hl fun _ _=>rfl
 have Vy:Has K mg "link_of" qD ["book","name"]:=i3.has X G fun _ _ _ _ _ _ us hl=>len2 us hl fun _ _=>rfl
 have Vq:Has K mg "replaced" jq ["row","place","thing"]:=i4.has X G fun _ _ _ _ _ _ us hl=>Lz us hl fun _ _ _=>rfl
 have Vz:Has K mg "without" jx ["row","thing"]:=i5.has X G fun _ _ _ _ _ _ us hl=>len2 us hl fun _ _=>rfl
 have Vr:Has K mg "with_one" lW ["row","thing"]:=i6.has X G fun _ _ _ _ _ _ us hl=>len2 us hl fun _ _=>rfl
 have U0:Has K mg "parts_without" dB ["parts","name"]:=i7.has X G fun _ _ _ _ _ _ us hl=>len2 us hl fun _ _=>rfl
 have Vs:Has K mg "relinked" jh ["book","old","new"]:=i8.has X G fun _ _ _ _ _ _ us hl=>Lz us hl fun _ _ _=>rfl
 have U8:Has K mg "needed_link" gn ["book","name"]:=i9.has X G fun _ _ _ _ _ _ us hl=>len2 us hl fun _ _=>rfl
 have Uw:Has K mg "link_behind_loss" dz ["link","side","name","t"]:=i10.has X G fun _ _ _ _ _ _ us hl=>RB us hl fun _ _ _ _=>rfl
 have Vk:Has K mg "take_done" jw ["book","deed"]:=i11.has X G fun _ _ _ _ _ _ us hl=>len2 us hl fun _ _=>rfl
 have Vj:Has K mg "loose_done" iI ["book","deed"]:=i12.has X G fun _ _ _ _ _ _ us hl=>len2 us hl fun _ _=>rfl
 have Vl:Has K mg "step_done" ju ["book","deed"]:=i13.has X G fun _ _ _ _ _ _ us hl=>len2 us hl fun _ _=>rfl
 have V6:Has K mg "done" FT ["book","deed"]:=i14.has X G fun _ _ _ _ _ _ us hl=>len2 us hl fun _ _=>rfl
 have Wi:Has K mg "_law_pot" PK ["_law_script"]:=i15.has X G fun _ _ _ _ _ _ us hl=>len1 us hl fun _=>rfl
 have V7:Has K mg "_law_next" Fx ["_law_pot_here","_law_many"]:=i16.has X G fun _ _ _ _ _ _ us hl=>len2 us hl fun _ _=>rfl
 have VJ:Has K mg "_law_count" xg ["_law_pot_here","_law_most"]:=i17.has X G fun _ _ _ _ _ _ us hl=>len2 us hl fun _ _=>rfl
 have VL:Has K mg "_law_names" mZ ["_law_pot_here"]:=i18.has X G fun _ _ _ _ _ _ us hl=>len1 us hl fun _=>rfl
 have VN:Has K mg "_law_taken" yr ["_law_pot_here","_law_names_here"]:=i19.has X G fun _ _ _ _ _ _ us hl=>len2 us hl fun _ _=>rfl
 have V8:Has K mg "_law_text" FJ ["_law_pot_here"]:=i20.has X G fun _ _ _ _ _ _ us hl=>len1 us hl fun _=>rfl
 have VB:Has K mg "_law_moments" lU ["_law_pot_here","_law_many"]:=i21.has X G fun _ _ _ _ _ _ us hl=>len2 us hl fun _ _=>rfl
 have VP:Has K mg "_law_sides" wI ["_law_pot_here","_law_names_here"]:=i22.has X G fun _ _ _ _ _ _ us hl=>len2 us hl fun _ _=>rfl
 have V9:Has K mg "_law_some" Ac ["_law_pot_here","_law_names_here","_law_most"]:=i23.has X G fun _ _ _ _ _ _ us hl=>Lz us hl fun _ _ _=>rfl
 have VR:Has K mg "_law_stood" oY ["_law_pot_here","_law_sides_here"]:=i24.has X G fun _ _ _ _ _ _ us hl=>len2 us hl fun _ _=>rfl
 have Wa:Has K mg "_law_book" Fv ["_law_pot_here","_law_names_here"]:=i25.has X G fun _ _ _ _ _ _ us hl=>len2 us hl fun _ _=>rfl
 have V0:Has K mg "_law_model" pN ["_law_book_here"]:=i26.has X G fun _ _ _ _ _ _ us hl=>len1 us hl fun _=>rfl
 have VD:Has K mg "_law_as_book" qL ["_law_model_here"]:=i27.has X G fun _ _ _ _ _ _ us hl=>len1 us hl fun _=>rfl
 have Wb:Has K mg "_law_side" G7 ["_law_model_here","_law_name"]:=i28.has X G fun _ _ _ _ _ _ us hl=>len2 us hl fun _ _=>rfl
 have Wc:Has K mg "_law_link" Hs ["_law_model_here","_law_name"]:=i29.has X G fun _ _ _ _ _ _ us hl=>len2 us hl fun _ _=>rfl
 have Wd:Has K mg "_law_take" zu ["_law_model_here","_law_deed_here"]:=i30.has X G fun _ _ _ _ _ _ us hl=>len2 us hl fun _ _=>rfl
 have V1:Has K mg "_law_stand" tW ["_law_model_here","_law_deed_here"]:=i31.has X G fun _ _ _ _ _ _ us hl=>len2 us hl fun _ _=>rfl
 have Wj:Has K mg "_law_do" sDo ["_law_model_here","_law_deed_here"]:=i32.has X G fun _ _ _ _ _ _ us hl=>len2 us hl fun _ _=>rfl
 have Wf:Has K mg "_law_pick" FP ["_law_pot_here","_law_some_here","_law_others"]:=i33.has X G fun _ _ _ _ _ _ us hl=>Lz us hl fun _ _ _=>rfl
 have Vt:Has K mg "_law_standing" jj ["_law_model_here","_law_which"]:=i34.has X G fun _ _ _ _ _ _ us hl=>len2 us hl fun _ _=>rfl
 have Wg:Has K mg "_law_deed" Hw ["_law_pot_here","_law_model_here","_law_spare"]:=i35.has X G fun _ _ _ _ _ _ us hl=>Lz us hl fun _ _ _=>rfl
 have V2:Has K mg "_law_tried" xZ ["_law_book_here","_law_deed_here"]:=i36.has X G fun _ _ _ _ _ _ us hl=>len2 us hl fun _ _=>rfl
 have V3:Has K mg "_law_kinds" sE ["_law_thing"]:=i37.has X G fun _ _ _ _ _ _ us hl=>len1 us hl fun _=>rfl
 have VH:Has K mg "_law_walked" oh ["_law_pot_here","_law_book_here","_law_spare","_law_many"]:=i38.has X G fun _ _ _ _ _ _ us hl=>RB us hl fun _ _ _ _=>rfl
 have F39:=Je (st:=Hg) l39 c39 k39;have Ux:=W.mg_none_of X G z_len;have Uq:=W.mg_none_of X G z_int;have TY:=W.mg_none_of X G z_range;have TQ:=W.mg_none_of X G z_isinstance;have Tw:=W.mg_none_of X G z_tuple;have Vg:=W.mg_none_of X G z_bool;have Vv:=W.mg_none_of X G z_str;have Uu:=W.mg_none_of X G z_list;have TX:=W.mg_none_of X G z_sorted;have VF:=W.mg_none_of X G z_min;have Uk:=W.mg_none_of X G z_ValueError;have Wm:=W.mg_none_of X G z_sum;have Wn:=W.mg_none_of X G z_any;have Vu:=W.mg_none_of X G z_all;have UW:=W.mg_none_of X G z_set;have U9:=W.mg_of X G p_DOERS;have Ue:=W.mg_of X G p_NoPart;have Ur:=W.mg_of X G p_Apart;have Uj:=W.mg_of X G p_TwainError;have Vf:=W.mg_of X G p_Twice;have UJ:=W.mg_of X G p_NoPlace;have U4:=W.mg_of X G p_Linked;have U5:=W.mg_of X G p_NoText;have U6:=W.mg_of X G p_NoDeed;have hMK:=mgk X G;have kc0:KC K Tv (a7 Tn Tp Tt Tq Tr Tz TF) 0:=⟨b0k.ek,b0k.un,b0k.ii,b0k.iv,fun i h1 h2=>match i,h1,h2 with | 0,_,h=>absurd rfl h | 1,_,_=>n01k | 2,_,_=>n02k | 3,_,_=>n03k | 4,_,_=>n04k | 5,_,_=>n05k | 6,_,_=>n06k⟩
 have kc1:KC K Tv (a7 Tn Tp Tt Tq Tr Tz TF) 1:=⟨b1k.ek,b1k.un,b1k.ii,b1k.iv,fun i h1 h2=>match i,h1,h2 with | 0,_,_=>n10k | 1,_,h=>absurd rfl h | 2,_,_=>n12k | 3,_,_=>n13k | 4,_,_=>n14k | 5,_,_=>n15k | 6,_,_=>n16k⟩
 have kc2:KC K Tv (a7 Tn Tp Tt Tq Tr Tz TF) 2:=⟨b2k.ek,b2k.un,b2k.ii,b2k.iv,fun i h1 h2=>match i,h1,h2 with | 0,_,_=>n20k | 1,_,_=>n21k | 2,_,h=>absurd rfl h | 3,_,_=>n23k | 4,_,_=>n24k | 5,_,_=>n25k | 6,_,_=>n26k⟩
 have kc3:KC K Tv (a7 Tn Tp Tt Tq Tr Tz TF) 3:=⟨b3k.ek,b3k.un,b3k.ii,b3k.iv,fun i h1 h2=>match i,h1,h2 with | 0,_,_=>n30k | 1,_,_=>n31k | 2,_,_=>n32k | 3,_,h=>absurd rfl h | 4,_,_=>n34k | 5,_,_=>n35k | 6,_,_=>n36k⟩
 have kc4:KC K Tv (a7 Tn Tp Tt Tq Tr Tz TF) 4:=⟨b4k.ek,b4k.un,b4k.ii,b4k.iv,fun i h1 h2=>match i,h1,h2 with | 0,_,_=>n40k | 1,_,_=>n41k | 2,_,_=>n42k | 3,_,_=>n43k | 4,_,h=>absurd rfl h | 5,_,_=>n45k | 6,_,_=>n46k⟩
 have hKC:∀ e,e<=4->KC K Tv (a7 Tn Tp Tt Tq Tr Tz TF) e/\(c5 Tn Tp Tt Tq Tr) e=(a7 Tn Tp Tt Tq Tr Tz TF) e:=fun e h=>match e,h with | 0,_=>⟨kc0,rfl⟩ | 1,_=>⟨kc1,rfl⟩ | 2,_=>⟨kc2,rfl⟩ | 3,_=>⟨kc3,rfl⟩ | 4,_=>⟨kc4,rfl⟩
 refine⟨W.fnOf "law" "law" (gR Hg) (fG Hg) (aC Hg) .none kV39 dc39 pm39 an39 cd39 ct39,fun s v=>.of_eq rfl,fun base _ _=>?_⟩;have UG:=Bl (P:=l.prog) (w:=w) (base:=base) Vw Ue x_NoPart;have Uc:=Bh (P:=l.prog) (w:=w) (base:=base) Vx UG;have Ud:=Dj (P:=l.prog) (w:=w) (base:=base) Vy Uc;have T3:=yM (P:=l.prog) (w:=w) (base:=base) Vq;have T9:=yL (P:=l.prog) (w:=w) (base:=base) Vr Tw TX UW;have T7:=Ah (P:=l.prog) (w:=w) (base:=base) Vz Tw;have T5:=yO (P:=l.prog) (w:=w) (base:=base) Vs T7 T9 T3;have T6:=qz (P:=l.prog) (w:=w) (base:=base) U8 Ur x_Apart Ud;have VG:=PX (P:=l.prog) (w:=w) (base:=base) Wi;have TV:=Mu (P:=l.prog) (w:=w) (base:=base) V7;have Ua:=JW (P:=l.prog) (w:=w) (base:=base) VJ TV Uq;have Ut:=Ly (P:=l.prog) (w:=w) (base:=base) VN TV Ux;have T4:=Eu (P:=l.prog) (w:=w) (base:=base) VB TV Uq TY Tw;have Va:=Nt (P:=l.prog) (w:=w) (base:=base) V9 Ua Ut VF Ux Tw TX TY;have Vm:=Nj (P:=l.prog) (w:=w) (base:=base) V8 TV TY;have Vb:=K1 (P:=l.prog) (w:=w) (base:=base) VP Ua T4 Vm Ut TY Tw;have Vi:=JV (P:=l.prog) (w:=w) (base:=base) VL TV TY;have Vc:=Lg (P:=l.prog) (w:=w) (base:=base) VR Ua Va T4 TV TY Tw TX;have Vp:=O5 (P:=l.prog) (w:=w) (base:=base) Wa Vb Vc;have Ui:=Nq (P:=l.prog) (w:=w) (base:=base) Wb;have Uz:=Br (P:=l.prog) (w:=w) (base:=base) V3 TQ Tw Vu Vg Uq Vv 6;have Ve:=Nh (P:=l.prog) (w:=w) (base:=base) Wf TV Ux;have Vh:=KJ (P:=l.prog) (w:=w) (base:=base) V0 Uu;have UL:=CG (P:=l.prog) (w:=w) (base:=base) VD Tw TX UW;have Uh:=Mj (P:=l.prog) (w:=w) (base:=base) Wc;have V4:=Ko (P:=l.prog) (w:=w) (base:=base) V1 Uh Ui;obtain⟨f_stand,Uy,Fn_stand⟩:=(Cal.to1 V4).fn;have Uv:=yR (P:=l.prog) (w:=w) (base:=base) Vt Uh;have Ub:=nA (P:=l.prog) (w:=w) (base:=base) U0 Tw;have T8:=jy (P:=l.prog) (w:=w) (base:=base) Uw T3 T9 T7;have Um:=wz (P:=l.prog) (w:=w) (base:=base) Vk Uc Ud T3 Ub T7 T5 T8 (Tp:=Tp) (Tt:=Tt) (Tq:=Tq) (Tr:=Tr);have Ug:=uF (P:=l.prog) (w:=w) (base:=base) Vj T5 T6 (Tp:=Tp) (Tt:=Tt) (Tq:=Tq);have Uo:=vM (P:=l.prog) (w:=w) (base:=base) Vl T6 T5 (Tp:=Tp) (Tt:=Tt) (Tq:=Tq);have Vn:=Ms (P:=l.prog) (w:=w) (base:=base) V6 U9 Ul hMK Um Ug Uo;have Wh:=Oz (P:=l.prog) (w:=w) (base:=base) Wd Ui Uh;obtain⟨f_take,Vd,Fn_take⟩:=(Cal.to1 Wh).fn;have V5:=RM (P:=l.prog) (w:=w) (base:=base) Wj Uy Fn_stand Vd Fn_take;have Vo:=Mz (P:=l.prog) (w:=w) (base:=base) Wg T4 TV Uv Ve;have U3:=Jv (P:=l.prog) (w:=w) (base:=base) V2 Uj x_TwainError Vf UJ Ue Ur U4 U5 U6 Vn TQ Uk;have U7:=Fw (P:=l.prog) (w:=w) (base:=base) VH Vh Vo U3 V5 Uz UL Ui TY;exact Pk F39 VG Vi Vp U7 hKC
def walk{l:W.OpenLaw}{q:Program}{loose:List Str}{XP:(Str->Option Value)->Heap->Prop}{YP:World->Heap->Prop}{d:DefRec}{K:Params->W.Frag}(hn:l.most=some 63)(hdf:d.params.defaults=[])
  (hY:∀(w:World)(h:Heap),YP w h->(K w.params).In h)
  (F:∀(w:World)(mg:Str->Option Value)(fa:Addr)(h:Heap),(K w.params).In h->h.Ns mainGlobals mg->mg d.name=some (.ref fa) ->
   ∃ fd:FuncData,(∀(s:Shared)(u:Value),BindsTo s fd ⟨[u],[]⟩ [("_law_script",u)])/\∀ base:Heap,(K w.params).In base->base.Ns mainGlobals mg->qR l.prog w (K w.params) mg base CX0 10 fa fd ["_law_script"] (Gm (K w.params))) :
  W.WalkO q loose XP YP l.row.toRowW d [] (fun f vs=>PySem.call f vs) :=
 L2.J2 (n:=63) (k:=10) (x:="_law_script") (CX:=fun _=>CX0) (sp:=fun w=>Gm (K w.params)) hn (by decide) hdf ⟨rfl,by decide,by decide⟩ hY F (fun _ _ a ns hl _ hS=>⟨a,ns,rfl,hS,hl,fun _=>rfl⟩) fun _ _ _ _ _ z=>z
end Mine
namespace PySem.W.Fast
def tw15878855948938988027:=()
def tw10382511238479223261:=()
def tw2747179475417202417:=()
def tw11706904470811584633:=()
def tw7336758014162876408:=()
def tw18122006478410112961:=()
def tw586862647496398708:=()
def tw9844492302129793839:=()
def tw8135425083386838625:=()
def tw2648200490636796991:=()
def tw1918899730175792226:=()
def tw14203502473172931679:=()
def tw16374540881342887988:=()
def tw12444838930937650490:=()
def tw53622721321400981:=()
def tw782752916186483595:=()
def tw12185918436933221093:=()
def tw10200366513980936095:=()
def tw4751582010513567378:=()
def tw2435610941647901691:=()
def tw17381337062103118865:=()
def tw5210081992433552725:=()
def tw2499328083878748235:=()
def tw1025355002236792758:=()
def tw3922418722066235833:=()
def tw16306615976725091832:=()
def tw18271151808514246090:=()
def tw9091116610357883718:=()
def tw15215028740795037598:=()
def tw14832014381863201541:=()
def tw14868387249116304619:=()
def tw1783535370610104764:=()
def tw6292521265338571197:=()
def tw6799785179714788689:=()
def tw12539177472739047901:=()
def tw15579733995886763723:=()
def tw7997252900814345941:=()
def tw13551803779496229614:=()
def tw3478274464357491770:=()
def tw8135555370026605208:=()
def tw9836096639147523342:=()
def tw7807806632678197711:=()
def tw8686915400938068608:=()
def tw15057332844748312299:=()
def tw4489272979052786668:=()
def tw5771292836559830774:=()
def tw7552030429218318068:=()
def tw15013300569608425451:=()
def tw14930159210469964286:=()
def tw613466582011085480:=()
def tw12326616084259859349:=()
def tw7574432987768548047:=()
def tw4980111390985131774:=()
def tw12178016565062219949:=()
def tw149347236036178557:=()
def tw5355325950828488785:=()
def tw1438084900585122413:=()
def tw551705436248420432:=()
def tw2867067023715217004:=()
def tw9980970201368900897:=()
def tw7001376150802726038:=()
def tw4804851913256516573:=()
def tw14487172883051558559:=()
def tw1067502599150408001:=()
def tw6389504696086588279:=()
def tw8476592838174932363:=()
def tw9308528535458027228:=()
def tw13165914609691785692:=()
def tw8612513947009059676:=()
def tw14775385680587142578:=()
def tw15560467191156154725:=()
def tw13633713093032234425:=()
def tw17299004366190328447:=()
def tw4261475186343077096:=()
def tw10460972042208018001:=()
def tw5983761603296272958:=()
def tw11497790670759675053:=()
def tw3285739845791300174:=()
def tw1060401359819102430:=()
def tw5690717076187559644:=()
def tw16578297309236385198:=()
def tw10465059156985377457:=()
def tw3601169489834289420:=()
def tw7016328399450304006:=()
def tw3649841343310467167:=()
def tw2736720575225454241:=()
def tw14924301129688666879:=()
def tw9873916676956538183:=()
def tw3843123185430449226:=()
def tw6038866305620233509:=()
def tw12717977690399660345:=()
def tw8852757433260306008:=()
def tw4817609226722567664:=()
def tw9510398053583376762:=()
def tw16043859044956977681:=()
def tw749880458988739769:=()
def tw3454428470605098143:=()
def tw10705366891484192547:=()
def tw11119839715217551642:=()
def tw17652856304549874647:=()
def tw14275294211339260788:=()
def tw3597282255582572031:=()
def tw2620403177946336663:=()
def tw9548217526868017545:=()
def tw9671958196645338400:=()
def tw2257285010812945992:=()
def tw6857431011134979521:=()
def tw6610365912574231109:=()
def tw10510192909726930264:=()
def tw13048216054522361772:=()
def tw6465373487577360982:=()
def tw1799694017592248331:=()
def tw9433392339823251204:=()
def tw13333310722760627897:=()
def tw1487654364476124872:=()
def tw12731595181651156828:=()
def tw3920848384799262166:=()
def tw14241756363116423327:=()
def tw6886378638261711666:=()
def tw9899076686911360849:=()
def tw12594315515553154984:=()
def tw12537070253321501603:=()
def tw5207528588899328698:=()
def tw4377821755855694504:=()
def tw6706643956420004609:=()
def tw9480741170467883113:=()
def tw11224033176850133618:=()
def tw11534671559536384631:=()
def tw852582311516992635:=()
def tw2036385689421934896:=()
def tw13462917001857283419:=()
def tw8922814458456532336:=()
def tw15539491453140459371:=()
def tw8632043337593555227:=()
def tw11275654128612885192:=()
def tw1817526850284765801:=()
def tw15021324434235731603:=()
def tw3035452295184512448:=()
def tw4841736754842666096:=()
end PySem.W.Fast
open PySem PySem.W PyProof.Rows
set_option maxRecDepth 100000 in
set_option maxHeartbeats 0 in
theorem PySem.Challenge.cw_twainkeep_k20_taken_out_holds : PySem.Challenge.rw_twainkeep_k20_taken_out.Holds := by
 w_on;o_law;k_head;(case hw=>w_witness2)
 k_fill
 refine Mine.walk (l:=PySem.Challenge.rw_twainkeep_k20_taken_out) rfl rfl (fun w h Y=>PySem.W.kIn_of Y) ?F
 case F =>
  intro w mg fa h KX G hmg;refine' Mine.all_mk KX G hmg ?i1 ?i2 ?i3 ?i4 ?i5 ?i6 ?i7 ?i8 ?i9 ?i10 ?i11 ?i12 ?i13 ?i14 ?i15 ?i16 ?i17 ?i18 ?i19 ?i20 ?i21 ?i22 ?i23 ?i24 ?i25 ?i26 ?i27 ?i28 ?i29 ?i30 ?i31 ?i32 ?i33 ?i34 ?i35 ?i36 ?i37 ?i38 ?a39 ?l39 ?c39 ?k39 ?p_DOERS ?Ul ?p_NoPart ?p_Apart ?p_TwainError ?p_Twice ?p_NoPlace ?p_Linked ?p_NoText ?p_NoDeed ?x_NoPart ?x_Apart ?x_TwainError ?b0k ?n01k ?n02k ?n03k ?n04k ?n05k ?n06k ?b1k ?n10k ?n12k ?n13k ?n14k ?n15k ?n16k ?b2k ?n20k ?n21k ?n23k ?n24k ?n25k ?n26k ?b3k ?n30k ?n31k ?n32k ?n34k ?n35k ?n36k ?b4k ?n40k ?n41k ?n42k ?n43k ?n45k ?n46k ?z_len ?z_int ?z_range ?z_isinstance ?z_tuple ?z_bool ?z_str ?z_list ?z_sorted ?z_min ?z_ValueError ?z_sum ?z_any ?z_all ?z_set
  case i1 | i2 | i3 | i4 | i5 | i6 | i7 | i8 | i9 | i10 | i11 | i12 | i13 | i14 | i15 | i16 | i17 | i18 | i19 | i20 | i21 | i22 | i23 | i24 | i25 | i26 | i27 | i28 | i29 | i30 | i31 | i32 | i33 | i34 | i35 | i36 | i37 | i38=>refine' L2.fni ?a ?l ?c ?k;(case a=>k_is);(case l=>k_is);(case c=>k_is);(case k=>k_is)
  case a39 | l39 | c39 | k39 | p_DOERS | p_NoPart | p_Apart | p_TwainError | p_Twice | p_NoPlace | p_Linked | p_NoText | p_NoDeed | z_len | z_int | z_range | z_isinstance | z_tuple | z_bool | z_str | z_list | z_sorted | z_min | z_ValueError | z_sum | z_any | z_all | z_set=>k_is
  case Ul=>(unfold L2.KFT;kernel_rfl)
  case x_NoPart | x_Apart | x_TwainError=>first | k_exc | k_is
  case b0k | b1k | b2k | b3k | b4k=>exact⟨⟨by k_is,by k_is,by k_is,by k_is,by k_is,by k_is⟩,by k_is,by k_is,by k_is⟩
  case n01k | n02k | n03k | n04k | n05k | n06k | n10k | n12k | n13k | n14k | n15k | n16k | n20k | n21k | n23k | n24k | n25k | n26k | n30k | n31k | n32k | n34k | n35k | n36k | n40k | n41k | n42k | n43k | n45k | n46k=>exact L2.zG (by decide) (by k_is) (by k_is) (by k_is)
