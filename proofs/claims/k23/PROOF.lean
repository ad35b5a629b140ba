import PyProof.Rows.All
import Wide.All
import OpenK.AllK
import Wide.FinOn
import Lean
import PyProof.EqAt
import PyProof.EqKinds
import PyProof.TupleCall
import PyProof.ZipIter
import PyProof.TupleIter
import PyProof.WalksMore
import KE.KWords
import PyProof.MinMaxWalk
import PyProof.SeqI3
import PyProof.MaxThree
import PyProof.AttrMissHeap
import PyProof.DictList
import PyProof.DictIter
import KE.KDictOf
import KE.KDictList
import PyProof.Rows.CallKwBuiltin
import PyProof.Rows.Range3
import PyProof.Rows.StrNews2
import PyProof.StrLawsIdx
import PyProof.StrBlockI
import KE.KRevSl
import PyProof.AutoListH
import PyProof.DictWalks
import PyProof.Draws
import PyProof.EnumMake
import PyProof.NeKinds
import PyProof.Rows.SetFrom
import KE.KSortTup
import PyProof.StrBlock2
import PyProof.DictItems
import KE.KPairComp
import PyProof.Rows.SumAny
import PyProof.ListStr
import PyProof.DictValues
import PySem.SetOps
import PyProof.TupleKey
import PyProof.SetKind
import PyProof.IsRules
import PyProof.DictKinds
import PyProof.SetRoads
import PyProof.MeetsSeq2
import KE.KItemsList
import PyProof.DictRoadsH
import OpenK.KRaise
import PyProof.StationsW
import PyProof.ExcClass2
import OpenK.KOwn
import PyProof.Rows.FStr
import PyProof.NsDelKeeps
import PyProof.RulesAs
import KE.KIsNot
import PyProof.ExcArgsOwn
import PyProof.ExcAttrAll.ValueError
import KE.KLam
import PyProof.ListRange
import PyProof.TupleOfSeq
import KE.KSortAsk
import PyProof.DictUpdate
import PyProof.StrCalls2
import PySem.Challenge.RW_twainkeep_k23_how_parts_stand
set_option hygiene false
local macro_rules|`(tactic|tm_at"a")=>`(tactic|(refine⟨_,rfl,d,_,rfl,qI a,_,rfl,d,_,rfl,qQ a,_,_,rfl,rfl,.inr ⟨by decide,by decide⟩,_,_,rfl,rfl,_,_,rfl,rfl,.inr ⟨by decide,by decide⟩,_,_,rfl,rfl,(by show(0:Int)<2305843009213693951;decide),?_⟩;have X:0<=(sd+(j+1)*7919)*48271%2305843009213693951:=Int.emod_nonneg _ (by decide);have W:(sd+(j+1)*7919)*48271%2305843009213693951<2305843009213693951:=Int.emod_lt_of_pos _ (by decide);refine⟨_,rfl,_,rfl,_,_,rfl,rfl,(by show(0:Int)<1009;decide),_,_,rfl,rfl,_,_,rfl,rfl,.inl ⟨by lia,by lia⟩,_,_,rfl,rfl,(by show(0:Int)<2305843009213693951;decide),_,rfl,d,_,rfl,Df _ a,?_⟩;refine⟨_,rfl,d,_,rfl,qI ak,_,_,rfl,rfl,⟨by decide,by decide⟩,_,rfl,_,_,rfl,rfl,r,?_⟩))
local macro_rules|`(tactic|tm_at"b")=>`(tactic|(refine gN ⟨_,rfl,smn 2,λpt X=>?_⟩;have W:=ao X (.tup [.str (Str.ofString "loose"),.str (Str.ofString "step")]);have e2:(upd H1 pt (.tup [.str (Str.ofString "loose"),.str (Str.ofString "step")])) pt=some (.tup [.str (Str.ofString "loose"),.str (Str.ofString "step")]):=ak;generalize upd H1 pt (.tup [.str (Str.ofString "loose"),.str (Str.ofString "step")])=Y at W e2 ⊢;refine⟨pt,_,rfl,.inr (SqT.of e2),rfl,rfl,_,rfl,?_⟩))
local macro_rules|`(tactic|tm_at"c")=>`(tactic|(refine⟨_,rfl,rfl,_,rfl,?_⟩;refine jl (fP (by decide +kernel)) ?_;refine⟨_,rfl,rfl,_,rfl,?_⟩))
local macro_rules|`(tactic|tm_at"d")=>`(tactic|refine dO (λz=>?_) (λz=>?_))
local macro_rules|`(tactic|tm_at"e")=>`(tactic|(unfold Builtin.«set_iterator.__next__»;refine ni (nF (ni (wpAny_fieldsOf ti rfl ?_)));refine ni (wpAny_setEntries_of ho hd hf ?_);rw[if_neg (by simp)]))
local macro_rules|`(tactic|tm_at"f")=>`(tactic|simp only[Bool.not_true,Bool.false_eq_true,if_false])
local macro_rules|`(tactic|tm_at"g")=>`(tactic|(refine wpAny_pyIter_slot ty PySem.F.slot_set_iter (Xy PySem.F.slot_set_iter ty jq ?_ (PySem.F.args_set_iter_1 _));unfold Builtin.«frozenset.__iter__» Builtin.Frozenset.slot0;refine ni (ni (nF (nF ?_)));unfold Builtin.Frozenset.sizeOf;refine ni (ni (wpAny_setEntries_of ho hd hf (nF ?_)));unfold setDrawn setsByText;refine ni (ni (wpAny_setState_of ho hd hf (ni (ni (wpAny_askSetting (nF (nF ?_)))))))))
local macro_rules|`(tactic|tm_at"h")=>`(tactic|(cases J;obtain⟨⟨cls,dd,data,sl⟩,A,o,n,hd⟩:=id C;obtain⟨⟨w,m,i,j⟩,e,c,B,d⟩:=id G;simp only at o hd c d;subst o hd c d;refine concat_meets ⟨_,A,rfl⟩ ⟨_,e,rfl⟩ noFill_tuple_add seq_tuple_add PySem.F.slot_tuple_add PySem.F.entry_tuple_add (PySem.F.args_tuple_add_2 _ _) (tuple_addW0 a b _ f.toArray n B dd m sl j rfl) ⟨A,e,?_⟩;exact⟨.ref b,H,I,rfl,q b H (Same.refl H) k⟩))
section
open PySem PySem.Spec PyProof.Rows
def ni:=@wpAny_bind
def nF:=@wpAny_pure
def n6:=@List.getElem?_eq_getElem
def n7:=@Heap.get?_push_of_some
def pN:=@List.getElem?_eq_some_iff
def ql:=@Nat.le_refl
def qu:=@List.getD_eq_getElem?_getD
def I3:=@Heap.lt_size
def J6:=@Nat.ne_of_lt
def Q0:=@Heap.get?_push_size
def TF:=@Bool.false_ne_true
def UG:=@Array.getElem?_eq_getElem
def Xj:=@Array.length_toList
def Xk:=@Nat.lt_of_lt_of_le
def Xl:=@List.mem_cons_self
def Xm:=@List.mem_cons_of_mem
def Xn:=@Option.some.inj
def Xo:=@wpAny_holding
def Xp:=@decide_eq_false
def Xq:=@Heap.size_update
def Xr:=@List.length_append
def Xu:=@List.mem_of_getElem?
def Xv:=@of_decide_eq_true
def Xw:=@List.mem_append_right
def Xx:=@List.mem_append_left
def Xy:=@wpAny_call_entry
def Xz:=@Nat.le_trans
def XC:=@List.getElem?_map
def XD:=@decide_eq_true
def XF:=@List.length_map
def XH:=@Nat.lt_succ_of_lt
def XJ:=@Heap.get?_push_ne
def XM:=@List.size_toArray
def XQ:=@wpAny_newObj_type
end
set_option maxHeartbeats 4000000
open List (mem_filter mem_range filterMap_cons mem_cons_self mem_cons_of_mem mem_cons mem_append mem_append_left getElem?_set_self getElem?_set_ne mem_append_right any_eq_false append_nil nodup_cons of_mem_zip length_take getElem?_append_right getElem?_append_left getElem?_map mem_of_getElem? length_append length_map length_replicate size_toArray length_drop all_cons any_cons replicate_succ flatten_cons append_assoc foldl_cons length_singleton map_nil map_cons all_eq_true getD_eq_getElem?_getD getElem_mem getElem?_eq_getElem getElem_of_mem length_cons mem_map find?_cons length_nil take_of_length_le drop_zero take_length ext_getElem not_lt pairwise_iff_getElem getElem_map mem_iff_getElem length_zip nodup_iff_pairwise_ne pairwise_map mem_replicate length_range pairwise_append getElem_take length_pos_of_mem find?_some find?_eq_none map_map perm_middle mem_singleton not_mem_nil ext_getElem? mem_map_of_mem nodup_nil take_zero mem_reverse getElem_zip take_succ_cons any_eq_true all_map take_add_one map_append nodup_append length_filter_le filter_append filter_cons_of_pos filter_cons_of_neg filter_nil any_map filter_sublist filter_eq_self length_pos_iff sublist_append_left sublist_append_right mem_iff_getElem? getElem?_take mem_flatMap)
set_option Elab.async false
set_option linter.all false
set_option maxRecDepth 100000
namespace L2
open PySem PySem.Spec PyProof.Rows
abbrev Key:=Sum Int Str
def Az:Key->Value->Bool
 | .inl k,v=>Value.isInt k v
 | .inr x,v=>Value.isStrOf x v
def Uo(w:World):Key->Int
 | .inl k=>hashInt k
 | .inr x=>hashStr w x
def cG:∀ {k:Key}{v:Value},Az k v=true->(∃ i t,k=Sum.inl i/\v=Value.int i t)\/(∃ x t,k=Sum.inr x/\v=Value.str x t)
 | .inl i,v,h=>by
  obtain⟨t,e⟩:=Value.isInt_shape (k:=i) (v:=v) h;exact .inl ⟨i,t,rfl,e⟩
 | .inr x,v,h=>by
  obtain⟨t,e⟩:=Value.isStrOf_shape (x:=x) (v:=v) h;exact .inr ⟨x,t,rfl,e⟩
def Dz(i:Int)(t:Tok):Az (.inl i) (.int i t)=true:=by simp[Az,Value.isInt]
def Cz(x:Str)(t:Tok):Az (.inr x) (.str x t)=true:=by simp[Az,Value.isStrOf]
def N6(a b:Int):decide ((Sum.inl a:Key)=Sum.inl b)=(a == b):=by
 grind
def Oo(a b:Str):decide ((Sum.inr a:Key)=Sum.inr b)=decide (a=b):=by
 grind
def NQ(a:Int)(b:Str):decide ((Sum.inl a:Key)=Sum.inr b)=false:=Xp (λq=>nomatch q)
def Nv(a:Str)(b:Int):decide ((Sum.inr a:Key)=Sum.inl b)=false:=Xp (λq=>nomatch q)
def dD(prog:Program)(w:World):PySem.KeyKind prog w Key where
 is:=Az
 hash:=Uo w
 inj:=λv a b g d=>by
  rcases cG g with⟨i,t,rfl,rfl⟩ | ⟨x,t,rfl,rfl⟩
  .rcases cG d with⟨j,u,rfl,e⟩ | ⟨y,u,rfl,e⟩
   .injection e with e1 _;rw[e1]
   .exact nomatch e
  .rcases cG d with⟨j,u,rfl,e⟩ | ⟨y,u,rfl,e⟩
   .exact nomatch e
   .injection e with e1 _;rw[e1]
 byValue:=λk v h=>by
  rcases cG h with⟨i,t,rfl,rfl⟩ | ⟨x,t,rfl,rfl⟩ <;> rfl
 pyHash:=λc h=>by
  rcases cG c with⟨i,t,rfl,rfl⟩ | ⟨x,t,rfl,rfl⟩
  .exact wpAny_pyHash_int h
  .exact wpAny_pyHash_str h
 eqBool:=λf c h=>by
  rcases cG f with⟨i,t,rfl,rfl⟩ | ⟨x,t,rfl,rfl⟩
  .rcases cG c with⟨j,u,rfl,rfl⟩ | ⟨y,u,rfl,rfl⟩
   .rw[N6] at h;exact wpAny_eqBool_int h
   .rw[NQ] at h;exact SeqAt.EqAt.int_str i t y u _ _ _ _ h
  .rcases cG c with⟨j,u,rfl,rfl⟩ | ⟨y,u,rfl,rfl⟩
   .rw[Nv] at h;exact SeqAt.EqAt.str_int x t j u _ _ _ _ h
   .rw[Oo] at h;exact wpAny_eqBool_str h
 «strs»:=λk x t v h=>by
  rcases cG h with⟨i,u,rfl,e⟩ | ⟨y,u,rfl,e⟩
  .exact nomatch e
  .injection e with e1 _;subst e1;cases v <;> rfl
def wW(prog:Program)(w:World)(i:Int)(t:Tok):(dD prog w).is (.inl i) (.int i t)=true:=Dz i t
def wz(prog:Program)(w:World)(x:Str)(t:Tok):(dD prog w).is (.inr x) (.str x t)=true:=Cz x t
inductive V where
 | non | bl (b:Bool) | int (i:Int) | str (x:Str) | byt (b:Array UInt8) | flt (b:UInt64) | ref (a:Addr) | ty (n:String)
 deriving DecidableEq
def RelV:V->Value->Prop
 | .non,u=>u=Value.none
 | .bl b,u=>u=Value.bool b
 | .int i,u=>∃ t,u=Value.int i t
 | .str x,u=>∃ t,u=Value.str x t
 | .byt b,u=>∃ t,u=Value.bytes b t
 | .flt b,u=>∃ t,u=Value.float b t
 | .ref a,u=>u=Value.ref a
 | .ty n,u=>u=Value.type n
abbrev Vals:List V->List Value->Prop:=Paired RelV
def Vals.length{xs:List V}{us:List Value}(r:Vals xs us):xs.length=us.length:=Paired.length r
theorem Vals.get:∀ {xs:List V}{us:List Value}{i:Nat}{x:V},Vals xs us->xs[i]?=some x->∃ u,us[i]?=some u/\RelV x u
 | _,_,_,_,.nil,e=>by simp at e
 | _,_,0,_,.cons r _,e=>by simp at e;subst e;exact⟨_,rfl,r⟩
 | _,_,i+1,x,.cons _ t,e=>by
  obtain⟨u,a,b⟩:=Vals.get (i:=i) (x:=x) t (by simpa using e);exact⟨u,by simpa using a,b⟩
theorem Vals.set{x:V}{u:Value}(r:RelV x u):∀ {xs:List V}{us:List Value} (i:Nat),Vals xs us->Vals (xs.set i x) (us.set i u)
 | _,_,_,.nil=>.nil
 | _,_,0,.cons _ t=>.cons r t
 | _,_,i+1,.cons q t=>.cons q (Vals.set r i t)
theorem Vals.append:∀ {xs ys:List V}{us ws:List Value},Vals xs us->Vals ys ws->Vals (xs++ys) (us++ws)
 | _,_,_,_,.nil,s=>s
 | _,_,_,_,.cons r t,s=>.cons r (Vals.append t s)
theorem Vals.take:∀ {xs:List V}{us:List Value} (n:Nat),Vals xs us->Vals (xs.take n) (us.take n)
 | _,_,0,_=>.nil
 | _,_,_+1,.nil=>.nil
 | _,_,n+1,.cons r t=>.cons r (Vals.take n t)
theorem Vals.drop:∀ {xs:List V}{us:List Value} (n:Nat),Vals xs us->Vals (xs.drop n) (us.drop n)
 | _,_,0,r=>r
 | _,_,_+1,.nil=>.nil
 | _,_,n+1,.cons _ t=>Vals.drop n t
def CG:Option V->Option Value->Prop
 | some v,some u=>RelV v u
 | none,none=>True
 | _,_=>False
def KV{κ:Type}:List (κ × V)->List (κ × Value)->Prop:=Paired λ(p:κ × V) (q:κ × Value)=>p.1=q.1/\RelV p.2 q.2
def kV:Key->V
 | .inl i=>.int i
 | .inr x=>.str x
inductive HO where
 | lst (xs:List V)
 | tup (xs:List V)
 | dK (kvs:List (Key × V)) | dT (kvs:List (List Key × V))
 | set (S:Int->Bool) (n:Nat)
 | ins (C dx:Addr) (fs:List (Str × V))
 | own (x:Addr)
 | xd (fs:List (Str × V))
 | met (f x:Addr)
 | rng (lo hi:Int)
 | frz (o:Obj) (u:HO)
 | tbl (ps:Array Value)
 | ext (φ:Heap->Prop)
abbrev Hp:=Addr->Option HO
def upd(H:Hp)(a:Addr)(o:HO):Hp:=λb=>if b=a then some o else H b
def ak{H:Hp}{a:Addr}{o:HO}:upd H a o a=some o:=by unfold upd;rw[if_pos rfl]
def aG{H:Hp}{a b:Addr}{o:HO}(h:b≠a):upd H a o b=H b:=by unfold upd;rw[if_neg h]
def kY{H:Hp}{a:Addr}{o u:HO}:upd (upd H a o) a u=upd H a u:=by
 funext b;unfold upd;split <;> rfl
def mH{H:Hp}{a b:Addr}{o u:HO}(h:H a=some o)(h':H b=some u)(d:o≠u):a≠b:=by
 intro e;subst e;rw[h] at h';exact d (Xn h')
def aD{H:Hp}{a b:Addr}{o:HO}(h:H a=some o)(h':H b=none):a≠b:=by
 intro e;subst e;rw[h] at h';cases h'
section
variable (P:Program) (w:World)
def cW(H:Hp)(h:Heap)(a:Addr):HO->Prop
 | .lst xs=>xs.length<=sizeLine/\∃(b:List Value)(n:Nat),Vals xs b/\h.get? a=some { cls:=.type "list",data:=.seq b.toArray n }
 | .tup xs=>xs.length<=sizeLine/\∃ b:List Value,Vals xs b/\IsTup h a b.toArray
 | .dK kvs=>kvs.length<=sizeLine/\(a == sysModules)=false/\∃ g,KV kvs g/\h.DictOf (dD P w) a g
 | .dT kvs=>kvs.length<=sizeLine/\(a == sysModules)=false/\∃ xs:List (List Key × Addr × Value),
   Paired (λ(p:List Key × V) (q:List Key × Addr × Value)=>p.1=q.1/\H q.2.1=some (.tup (p.1.map kV))/\RelV p.2 q.2.2) kvs xs /\
   ∃ o es ep,h.get? a=some o/\o.ExactDict/\o.data=.dict es ep/\es.toList=xs.map (entryOfKey (tupleKind (dD P w)))/\(xs.map (·.1)).Nodup
 | .set S n=>h.SetOf (intKind P w) a S n
 | .ins C dx fs=>H dx=some (.own a)/\fs.length<=1000/\dx≠a/\h.get? a=some (W.instObj C dx) /\
   ∃ c,h.Ns1 dx c/\(∀ f,CG (fs.lookup f) (c f))/\PySem.Within c (fs.map (·.1))
 | .own _=>∃ o,h.get? a=some o
 | .xd fs=>∃ c,h.Ns1 a c/\∀ f,CG (fs.lookup f) (c f)
 | .rng lo hi=>∃ t u v,h.get? a=some { cls:=.type "range",data:=.fields #[.int lo t,.int hi u,.int 1 v] }
 | .frz o u=>h.get? a=some o/\cW H h a u
 | .tbl ps=>h.get? a=some { cls:=.none,data:=.fields ps }
 | .met f x=>h.get? a=some (W.methodObj (.ref f) (.ref x))
 | .ext φ=>φ h/\(∃ o,h.get? a=some o)/\∀ d e:Heap,φ d->(∀ o,d.get? a=some o->e.get? a=some o)->φ e
def HOk(H:Hp)(h:Heap):Prop:=∀ a o,H a=some o->cW P w H h a o
end
section
variable {P:Program}{w:World}{H H':Hp}{h h':Heap}{a:Addr}{o:HO}
def cW.lt(x:cW P w H h a o):a<h.objs.size:=by
 cases o with
 | lst xs=>obtain⟨_,_,_,_,e⟩:=x;exact I3 e
 | tup xs=>obtain⟨_,_,_,p⟩:=x;exact p.lt
 | dK b=>obtain⟨_,_,_,_,o,_,_,e,_⟩:=x;exact I3 e
 | dT b=>obtain⟨_,_,_,_,o,_,_,e,_⟩:=x;exact I3 e
 | set S n=>obtain⟨o,_,_,_,e,_⟩:=x;exact I3 e
 | ins C d fs=>obtain⟨_,_,_,e,_⟩:=x;exact I3 e
 | own y=>obtain⟨_,e⟩:=x;exact I3 e
 | xd fs=>obtain⟨_,⟨_,_,_,e,_⟩,_⟩:=x;exact I3 e
 | rng lo g=>obtain⟨_,_,_,e⟩:=x;exact I3 e
 | frz ob u=>obtain⟨e,_⟩:=x;exact I3 e
 | tbl c=>exact I3 (show h.get? a=some _ from x)
 | met f y=>exact I3 (show h.get? a=some _ from x)
 | ext φ=>obtain⟨_,⟨_,e⟩,_⟩:=x;exact I3 e
theorem Paired.mapP{α β:Type}{F G:α->β->Prop}:∀ {l₁:List α}{l₂:List β},Paired F l₁ l₂->(∀ a b,F a b->G a b)->Paired G l₁ l₂
 | _,_,.nil,_=>.nil
 | _,_,.cons r t,f=>.cons (f _ _ r) (Paired.mapP t f)
def cW.stay(x:cW P w H h a o)(k:∀ b u,(b=a\/H b=some (.own a))->h.get? b=some u->h'.get? b=some u)
  (ho:∀ b,H b=some (.own a)->H' b=some (.own a))(ht:∀ b xs,H b=some (.tup xs)->H' b=some (.tup xs)):cW P w H' h' a o:=by
 induction o with
 | lst xs=>obtain⟨z,g,n,r,e⟩:=x;exact⟨z,g,n,r,k _ _ (.inl rfl) e⟩
 | tup xs=>obtain⟨z,g,r,ob,e,c⟩:=x;exact⟨z,g,r,ob,k _ _ (.inl rfl) e,c⟩
 | dK i=>obtain⟨z,y,s,r,ob,es,ep,e,c⟩:=x;exact⟨z,y,s,r,ob,es,ep,k _ _ (.inl rfl) e,c⟩
 | dT i =>
  obtain⟨z,y,xs,r,ob,es,ep,e,c⟩:=x;exact⟨z,y,xs,Paired.mapP r λp q z=>⟨z.1,ht _ _ z.2.1,z.2.2⟩,ob,es,ep,k _ _ (.inl rfl) e,c⟩
 | set S n=>obtain⟨ob,es,ep,t,e,c⟩:=x;exact⟨ob,es,ep,t,k _ _ (.inl rfl) e,c⟩
 | ins C E fs =>
  obtain⟨d,z,ne,e,l,⟨j,es,ep,A,c⟩,r⟩:=x;exact⟨ho _ d,z,ne,k _ _ (.inl rfl) e,l,⟨j,es,ep,k _ _ (.inr d) A,c⟩,r⟩
 | own y=>obtain⟨ob,e⟩:=x;exact⟨ob,k _ _ (.inl rfl) e⟩
 | xd fs=>obtain⟨l,⟨j,es,ep,e,c⟩,r⟩:=x;exact⟨l,⟨j,es,ep,k _ _ (.inl rfl) e,c⟩,r⟩
 | rng lo D=>obtain⟨t,u,v,e⟩:=x;exact⟨t,u,v,k _ _ (.inl rfl) e⟩
 | frz ob u B=>obtain⟨e,q⟩:=x;exact⟨k _ _ (.inl rfl) e,B q⟩
 | tbl m =>
  have e:h.get? a=some { cls:=.none,data:=.fields m }:=x;show h'.get? a=some { cls:=.none,data:=.fields m };exact k a _ (.inl rfl) e
 | met f y =>
  have e:h.get? a=some (W.methodObj (.ref f) (.ref y)):=x;show h'.get? a=some (W.methodObj (.ref f) (.ref y));exact k a _ (.inl rfl) e
 | ext φ=>obtain⟨p,⟨o,e⟩,st⟩:=x;exact⟨st _ _ p λo q=>k _ _ (.inl rfl) q,⟨o,k _ _ (.inl rfl) e⟩,st⟩
def HOk.lt(x:HOk P w H h)(e:H a=some o):a<h.objs.size:=(x a o e).lt
def HOk.fresh(x:HOk P w H h)(e:h.objs.size<=a):H a=none:=by
 cases q:H a with
 | none=>rfl
 | some u=>exact absurd (Xk (x.lt q) e) (Nat.lt_irrefl _)
def HOk.kept(x:HOk P w H h)(k:∀ b u,h.get? b=some u->h'.get? b=some u):HOk P w H h':=λa o e =>
 (x a o e).stay (λb u _ q=>k b u q) (λ_ q=>q) λ_ _ q=>q
def HOk.laid(x:HOk P w H h)(k:∀ b u,h.get? b=some u->h'.get? b=some u)(hp:h.objs.size<=a)(new:cW P w (upd H a o) h' a o):HOk P w (upd H a o) h':=λb u e=>by
 have d:=x.fresh hp;by_cases hb:b=a
 .subst hb;rw[ak] at e;cases e;exact new
 .rw[aG hb] at e;exact(x b u e).stay (λc v _ q=>k c v q) (λc q=>by rw[aG (aD q d)];exact q) λc xs q=>by rw[aG (aD q d)];exact q
end
def Rd(H:Hp)(a:Addr)(u:HO):Prop:=H a=some u\/∃ o,H a=some (.frz o u)
def Rd.ok{P:Program}{w:World}{H:Hp}{h:Heap}{a:Addr}{u:HO}(r:Rd H a u)(x:HOk P w H h):cW P w H h a u:=by
 rcases r with r | ⟨o,r⟩
 .exact x a u r
 .obtain⟨_,q⟩:=x a _ r;exact q
def Mut:Option HO->Prop
 | some (.lst _)=>True
 | some (.dK _)=>True
 | some (.dT _)=>True
 | some (.set _ _)=>True
 | some (.ins _ _ _)=>True
 | some (.ext _)=>True
 | _=>False
section
variable {P:Program}{w:World}{H:Hp}{h h':Heap}{x e:Addr}{o':HO}
def HOk.write(ok:HOk P w H h)(mu:Mut (H x))(he:e=x\/H e=some (.own x))(k:∀ b u,b≠e->h.get? b=some u->h'.get? b=some u)(heo:∃ u,h'.get? e=some u)
  (new:cW P w (upd H x o') h' x o'):HOk P w (upd H x o') h':=λb u q=>by
 have d:∀ c y,H c=some (.own y)->c≠x:=λc y r z=>by subst z;rw[r] at mu;exact mu
 have a:∀ c xs,H c=some (.tup xs)->c≠x:=λc xs r z=>by subst z;rw[r] at mu;exact mu
 by_cases hb:b=x
 .subst hb;rw[ak] at q;cases q;exact new
 .rw[aG hb] at q;by_cases hbe:b=e
  .have f:H b=some (.own x):=by
    rcases he with z | z
    .exact absurd (hbe.trans z) hb
    .rw[hbe];exact z
   rw[q] at f;cases f;obtain⟨v,g⟩:=heo;exact⟨v,by rw[hbe];exact g⟩
  .refine(ok b u q).stay (λc v i r=>k c v ?_ r) (λc r=>by rw[aG (d c b r)];exact r) λc xs r=>by rw[aG (a c xs r)];exact r
   grind
end
structure Un(fs ex:List Addr)(H H':Hp)(h h':Heap):Prop where
 keep:∀ b o,h.get? b=some o->H b=none->b ∉ fs->b ∉ ex->h'.get? b=some o
 slot:∀ b o,h.get? b=some o->H b=none->b∈fs->b ∉ ex->∃ sl,h'.get? b=some { o with slots:=sl }
 free:∀ b o,h.get? b=some o->H b=none->b ∉ ex->H' b=none
 there:∀ b o,h.get? b=some o->b ∉ ex->∃ o',h'.get? b=some o'
 tups:∀ b xs,H b=some (.tup xs)->H' b=some (.tup xs)
 frzs:∀ b o u,H b=some (.frz o u)->H' b=some (.frz o u)
 tbls:∀ b ps,H b=some (.tbl ps)->∃ more,H' b=some (.tbl (ps++more))
section
variable {fs fs' ex ex':List Addr}{H H1 H2:Hp}{h h1 h2 h':Heap}{a x e:Addr}{o:HO}
def Un.any(u:Un fs ex H H1 h h1){b:Addr}{ob:Obj}(q:h.get? b=some ob)(n:H b=none)(hx:b ∉ ex):∃ sl,h1.get? b=some { ob with slots:=sl }:=by
 by_cases hb:b∈fs
 .exact u.slot b ob q n hb hx
 .exact⟨ob.slots,u.keep b ob q n hb hx⟩
def Un.trans(a:Un fs ex H H1 h h1)(b:Un fs ex H1 H2 h1 h2):Un fs ex H H2 h h2 where
 keep:=λc ob q n f d=>b.keep c ob (a.keep c ob q n f d) (a.free c ob q n d) f d
 slot:=λc ob q n f d=>by
  obtain⟨sl,e⟩:=a.slot c ob q n f d;obtain⟨j,g⟩:=b.slot c _ e (a.free c ob q n d) f d;exact⟨j,g⟩
 free:=λc ob q n d=>by
  obtain⟨i,e⟩:=a.there c ob q d;exact b.free c i e (a.free c ob q n d) d
 there:=λc ob q d=>by
  obtain⟨i,e⟩:=a.there c ob q d;exact b.there c i e d
 tups:=λc xs q=>b.tups c xs (a.tups c xs q)
 frzs:=λc ob xs q=>b.frzs c ob xs (a.frzs c ob xs q)
 tbls:=λc m q=>by
  obtain⟨l,e⟩:=a.tbls c m q;obtain⟨k,g⟩:=b.tbls c _ e;exact⟨l++k,by rw[g,Array.append_assoc]⟩
def Un.kept(k:∀ b u,h.get? b=some u->h'.get? b=some u):Un fs ex H H h h' :=
 ⟨λb ob q _ _ _=>k b ob q,λb ob q _ _ _=>⟨ob.slots,k b ob q⟩,λ_ _ _ n _=>n,λb ob q _=>⟨ob,k b ob q⟩,λ_ _ q=>q,λ_ _ _ q=>q,λ_ a q=>⟨#[],by rw[q];simp⟩⟩
def Un.refl:Un fs ex H H h h:=Un.kept λ_ _ q=>q
def Un.laid(k:∀ b u,h.get? b=some u->h'.get? b=some u)(hp:h.objs.size<=a)(hn:H a=none):Un fs ex H (upd H a o) h h' where
 keep:=λb u q _ _ _=>k b u q
 slot:=λb u q _ _ _=>⟨u.slots,k b u q⟩
 free:=λb u q n _=>by rw[aG (J6 (Xk (I3 q) hp))];exact n
 there:=λb u q _=>⟨u,k b u q⟩
 tups:=λb xs q=>by rw[aG (aD q hn)];exact q
 frzs:=λb u xs q=>by rw[aG (aD q hn)];exact q
 tbls:=λb c q=>⟨#[],by rw[aG (aD q hn),q];simp⟩
def Un.write(mu:Mut (H x))(he:e=x\/H e=some (.own x))(k:∀ b u,b≠e->h.get? b=some u->h'.get? b=some u)(heo:∃ u,h'.get? e=some u):Un fs ex H (upd H x o) h h':=by
 have d:∀ b,H b=none->b≠x:=λb n z=>by subst z;rw[n] at mu;exact mu
 have c:∀ b,H b=none->b≠e:=λb n z=>by
  subst z;rcases he with r | r
  .exact d b n r
  .rw[n] at r;cases r
 have a:∀ b u,H b=some u->¬ Mut (some u)->b≠x:=λb u q nm z=>by subst z;rw[q] at mu;exact nm mu
 refine⟨λb u q n _ _=>k b u (c b n) q,λb u q n _ _=>⟨u.slots,k b u (c b n) q⟩,λb u q n _=>by rw[aG (d b n)];exact n,λb u q _=>?_,
  λb xs q=>by rw[aG (a b _ q λz=>z)];exact q,λb u xs q=>by rw[aG (a b _ q λz=>z)];exact q,λb f q=>⟨#[],by rw[aG (a b _ q λz=>z),q];simp⟩⟩
 by_cases hbe:b=e
 .subst hbe;exact heo
 .exact⟨u,k b u hbe q⟩
def Un.mono(u:Un fs ex H H1 h h1)(hs:∀ b∈fs,b∈fs')(hx:∀ b∈ex,b∈ex'):Un fs' ex' H H1 h h1 :=
 ⟨λb ob q n a he=>u.keep b ob q n (λz=>a (hs b z)) λz=>he (hx b z),λ_ _ q n _ he=>u.any q n λz=>he (hx _ z),λb ob q n he=>u.free b ob q n λz=>he (hx b z),λb ob q he=>u.there b ob q λz=>he (hx b z),u.tups,u.frzs,u.tbls⟩
end
def trk(h:Heap)(H:Hp):List Addr:=(List.range h.objs.size).filter λa=>(H a).isSome
def G6(h:Heap)(H:Hp):Heap:=W.hideAll h (trk h H)
def Gq(h:Heap)(H:Hp):(G6 h H).objs.size=h.objs.size:=W.hideAll_size _ _
def Jf{h:Heap}{H:Hp}{b:Addr}{o:Obj}(e:h.get? b=some o)(n:H b=none):(G6 h H).get? b=some o :=
 W.hideAll_get _ e λa=>by
  have q:(H b).isSome=true:=(mem_filter.mp a).2;rw[n] at q;simp at q
def MK{h:Heap}{H:Hp}{b:Addr}{o:Obj}(e:(G6 h H).get? b=some o):h.get? b=some o/\H b=none:=by
 have a:h.get? b=some o:=W.of_hideAll (trk h H) e;refine⟨a,?_⟩;cases q:H b with
 | none=>rfl
 | some x =>
  have c:b∈trk h H:=mem_filter.mpr ⟨mem_range.mpr (I3 a),by simp[q]⟩;have z:(G6 h H).get? b=none:=W.hideAll_none (trk h H) c;rw[z] at e;cases e
structure Mod(K:W.Frag)(mg:Str->Option Value)(base:Heap):Prop where
 kin:K.In base
 glob:base.Ns mainGlobals mg
 blt:∃ mb,base.Ns builtinsNs mb/\∀ x:Str,x ≠ "__name__"->mb x=bootBuiltins x
 nolimit:base.NoLimit
structure Cx where
 prog:Program
 w:World
 K:W.Frag
 mg:Str->Option Value
 base:Heap
 A:Around
 N:List Str
 s₀:Shared
 H₀:Hp
 env:Env
 outer:List Env
 stack:List Env
 ex:List Addr
 fn:Str->Bool
 calm:Bool
 pn:List (Addr × Obj)
 xe:Value->Shared->Prop
def frs(l:List Env):List Addr:=l.filterMap (·.frame)
abbrev Cx.fs(X:Cx):List Addr:=frs X.outer
def Vis(sc:Scope)(x:Str):Prop:=sc.names.lookup x=some .local\/sc.names.lookup x=some .cell\/sc.names.lookup x=some .free
def Loc(sc:Scope)(x:Str):Prop:=sc.names.lookup x=some .local\/sc.names.lookup x=some .cell
def Look(env:Env)(h:Heap)(m:Str->Option Value)(x:Str)(u:Value):Prop :=
 (env.kindOf x=some .local/\m x=some u)\/((env.kindOf x=some .cell\/env.kindOf x=some .free)/\∃ c,env.cells.lookup x=some c/\h.IsCell c (some u))
structure Cx.Ok(X:Cx):Prop where
 mod:Mod X.K X.mg X.base
 kind:X.env.scope.kind=.function
 glob:X.env.globals=mainGlobals
 blt:X.env.builtins=builtinsNs
 above:X.s₀.heap.objs.size<=X.env.locals
 inj:∀ x y c,X.env.cells.lookup x=some c->X.env.cells.lookup y=some c->x=y
 has:∀ x,(X.env.kindOf x=some .cell\/X.env.kindOf x=some .free)->∃ c,X.env.cells.lookup x=some c
 cab:∀ x c,X.fn x=true->X.env.cells.lookup x=some c->X.s₀.heap.objs.size<=c
 hd:X.calm=true->X.A.handled=none
 frames:X.A.frames=some X.stack
 stk:X.stack=X.outer\/(X.stack=X.env::X.outer/\X.env.frame=some X.env.locals)
 exf:∀ b∈X.ex,b≠X.env.locals/\∀ x c,X.env.cells.lookup x=some c->c≠b
 bs:∀ b o,X.base.get? b=some o->X.s₀.heap.get? b=some o/\X.H₀ b=none
 bsz:X.base.objs.size<=X.s₀.heap.objs.size
 noex:∀ b o,X.base.get? b=some o->b ∉ X.ex
 exfs:∀ b∈X.ex,b ∉ X.fs
 funs:X.s₀.heap.FunFrames X.base X.outer
 frf:∀ b∈X.fs,X.H₀ b=none
structure Inv(X:Cx)(pins:List (Addr × Obj))(σ:List (Option V))(H:Hp)(s:Shared):Prop where
 ok:X.Ok
 os:s.os=X.s₀.os
 bare:AllBare s.gens
 base:Un X.fs X.ex X.H₀ H X.s₀.heap s.heap
 loc:∃ m,s.heap.Ns X.env.locals m/\∀(i:Nat)(x:Str)(v:V),X.N[i]?=some x->σ[i]?=some (some v)->Vis X.env.scope x->∃ u,RelV v u/\Look X.env s.heap m x u
 cell:∀ x c,X.env.cells.lookup x=some c->∃ v,s.heap.IsCell c v
 free:H X.env.locals=none
 freeC:∀ x c,X.env.cells.lookup x=some c->H c=none
 pin:∀ p∈X.pn++pins,s.heap.get? p.1=some p.2/\H p.1=none/\p.1≠X.env.locals/\p.1 ∉ X.fs/\∀ v,p.2.data≠.cell v
 hok:HOk X.prog X.w H s.heap
 len:σ.length=X.N.length
section
variable {X:Cx}{pins:List (Addr × Obj)}{σ:List (Option V)}{H H':Hp}{s:Shared}{h':Heap}
def Cx.Ok.nofr(ok:X.Ok){b:Addr}{o:Obj}(e:X.base.get? b=some o):b ∉ X.fs:=λa=>by
 have:=(ok.funs.mem a).1;rw[e] at this;cases this
def Inv.bs(I:Inv X pins σ H s):∀ b o,X.base.get? b=some o->s.heap.get? b=some o/\H b=none:=λb o e =>
 ⟨I.base.keep b o (I.ok.bs b o e).1 (I.ok.bs b o e).2 (I.ok.nofr e) (I.ok.noex b o e),I.base.free b o (I.ok.bs b o e).1 (I.ok.bs b o e).2 (I.ok.noex b o e)⟩
def Inv.bk(I:Inv X pins σ H s):∀ b o,X.base.get? b=some o->s.heap.get? b=some o:=λb o e=>(I.bs b o e).1
def Inv.mod(I:Inv X pins σ H s):Mod X.K X.mg X.base:=I.ok.mod
def Inv.kIn(I:Inv X pins σ H s):X.K.In s.heap:=I.ok.mod.kin.keeps I.bk
def Inv.lt(I:Inv X pins σ H s):X.env.locals<s.heap.objs.size:=let ⟨_,hn,_⟩:=I.loc;hn.lt
def Inv.sz(I:Inv X pins σ H s):X.s₀.heap.objs.size<=s.heap.objs.size:=Xz I.ok.above (Nat.le_of_lt I.lt)
def Inv.nofs(I:Inv X pins σ H s){a:Addr}(h:s.heap.objs.size<=a):a ∉ X.fs:=λc=>by
 obtain⟨_,o,b,_⟩:=I.ok.funs.mem c;exact absurd (Xk (I3 b) (Xz I.sz h)) (Nat.lt_irrefl _)
def Inv.cne(I:Inv X pins σ H s):∀ x c,X.env.cells.lookup x=some c->c≠X.env.locals:=λx c e z=>by
 obtain⟨v,o,d,hd⟩:=I.cell x c e;obtain⟨m,⟨f,es,ep,b,a,_⟩,_⟩:=I.loc;rw[z,b] at d;cases d;rw[a] at hd;cases hd
def Inv.funs(I:Inv X pins σ H s):s.heap.FunFrames X.base X.outer:=by
 have all:∀(l:List Env),(∀ b∈frs l,b∈X.fs)->X.s₀.heap.FunFrames X.base l->s.heap.FunFrames X.base l:=by
  intro l
  induction l with
  | nil=>intro _ _;trivial
  | cons env r h =>
   intro f k;obtain⟨g,⟨L,o,d,i,m,hd⟩,j⟩:=k;have c:L∈X.fs:=f L (by unfold frs;rw[filterMap_cons,d];exact Xl);obtain⟨sl,e⟩:=I.base.slot L o m (I.ok.frf L c) c λz=>I.ok.exfs L z c
   exact⟨g,⟨L,_,d,i,e,hd⟩,h (λb a=>f b (by unfold frs;rw[filterMap_cons,d];exact Xm _ a)) j⟩
 exact all X.outer (λ_ a=>a) I.ok.funs
def Inv.stack(I:Inv X pins σ H s):s.heap.FunFrames X.base X.stack:=by
 rcases I.ok.stk with e | ⟨e,b⟩
 .rw[e];exact I.funs
 .rw[e];obtain⟨m,a,_⟩:=I.loc;refine .cons (by rw[I.ok.kind];decide) b a ?_ I.funs;exact Heap.get?_none_of_le (Xz I.ok.bsz I.ok.above)
def Inv.stkSub(I:Inv X pins σ H s):∀ b∈frs X.stack,b∈X.env.locals::X.fs:=λb a=>by
 rcases I.ok.stk with e | ⟨e,c⟩
 .rw[e] at a;exact Xm _ a
 .rw[e] at a;unfold frs at a;rw[filterMap_cons,c] at a;exact a
def Inv.stkFree(I:Inv X pins σ H s):∀ b∈frs X.stack,H b=none:=λb a=>by
 rcases mem_cons.mp (I.stkSub b a) with e | a
 .rw[e];exact I.free
 .obtain⟨_,o,c,_⟩:=I.ok.funs.mem a;exact I.base.free b o c (I.ok.frf b a) λz=>I.ok.exfs b z a
def Inv.step{g':Array GenState}{t':Nat}{d':Drawn}{ch:List Addr}(I:Inv X pins σ H s)
  (hch:∀ b∈ch,(b∈X.ex\/X.s₀.heap.objs.size<=b)/\b≠X.env.locals/\(∀ x c,X.env.cells.lookup x=some c->c≠b)/\∀ p∈X.pn++pins,p.1≠b)
  (keep:∀ b o,b≠X.env.locals->b ∉ X.fs->b ∉ ch->s.heap.get? b=some o->H b=none->h'.get? b=some o)
  (slot:∀ b o,b≠X.env.locals->b∈X.fs->b ∉ ch->s.heap.get? b=some o->H b=none->∃ sl,h'.get? b=some { o with slots:=sl })(free:∀ b o,b ∉ ch->s.heap.get? b=some o->H b=none->H' b=none)
  (there:∀ b o,b ∉ ch->s.heap.get? b=some o->∃ A,h'.get? b=some A)
  (tups:∀ b xs,H b=some (.tup xs)->H' b=some (.tup xs))(frzs:∀ b o u,H b=some (.frz o u)->H' b=some (.frz o u))(tbls:∀ b C,H b=some (.tbl C)->∃ more,H' b=some (.tbl (C++more)))
  (ns:∀ m,s.heap.Ns X.env.locals m->h'.Ns X.env.locals m)(hok:HOk X.prog X.w H' h')(hg:AllBare g') :
  Inv X pins σ H' { s with heap:=h',gens:=g',drawn:=d',toks:=t' }:=by
 have y:∀ b o,X.s₀.heap.get? b=some o->b≠X.env.locals:=λb o e=>J6 (Xk (I3 e) I.ok.above)
 have h:∀ b o,X.s₀.heap.get? b=some o->b ∉ X.ex->b ∉ ch:=λb o e a j=>by
  rcases(hch b j).1 with z | z
  .exact a z
  .exact absurd (Xk (I3 e) z) (Nat.lt_irrefl _)
 have cellK:∀ x c,X.env.cells.lookup x=some c->∀ v,s.heap.IsCell c v->h'.IsCell c v:=λx c e v ⟨o,t,hd⟩=>by
  have f:c ∉ ch:=λz=>(hch c z).2.2.1 x c e rfl
  by_cases hc:c∈X.fs
  .obtain⟨sl,q⟩:=slot c o (I.cne x c e) hc f t (I.freeC x c e);exact⟨_,q,hd⟩
  .exact⟨o,keep c o (I.cne x c e) hc f t (I.freeC x c e),hd⟩
 refine⟨I.ok,I.os,hg,⟨λb o e n j a=>?_,λb o e n j a=>?_,λb o e n a=>?_,λb o e a=>?_,λb xs e=>tups b xs (I.base.tups b xs e),λb o xs e=>frzs b o xs (I.base.frzs b o xs e),λb C e=>?_⟩,?_,λx c e=>?_,?_,λx c e=>?_,λp F=>?_,hok,I.len⟩
 .exact keep b o (y b o e) j (h b o e a) (I.base.keep b o e n j a) (I.base.free b o e n a)
 .obtain⟨sl,g⟩:=I.base.slot b o e n j a;obtain⟨D,B⟩:=slot b _ (y b o e) j (h b o e a) g (I.base.free b o e n a);exact⟨D,B⟩
 .obtain⟨A,g⟩:=I.base.there b o e a;exact free b A (h b o e a) g (I.base.free b o e n a)
 .obtain⟨A,g⟩:=I.base.there b o e a;exact there b A (h b o e a) g
 .obtain⟨M,g⟩:=I.base.tbls b C e;obtain⟨K,B⟩:=tbls b _ g;exact⟨M++K,by rw[B,Array.append_assoc]⟩
 .obtain⟨m,G,J⟩:=I.loc;refine⟨m,ns m G,λi x v g B L=>?_⟩;obtain⟨u,r,l⟩:=J i x v g B L;refine⟨u,r,?_⟩;rcases l with l | ⟨k,c,e,z⟩
  .exact .inl l
  .exact .inr ⟨k,c,e,cellK x c e _ z⟩
 .obtain⟨v,z⟩:=I.cell x c e;exact⟨v,cellK x c e v z⟩
 .obtain⟨m,⟨o,_,_,t,_⟩,_⟩:=I.loc;exact free _ o (λz=>(hch _ z).2.1 rfl) t I.free
 .obtain⟨v,o,t,hd⟩:=I.cell x c e;exact free c o (λz=>(hch c z).2.2.1 x c e rfl) t (I.freeC x c e)
 .obtain⟨e,n,ne,E,d⟩:=I.pin p F;have f:p.1 ∉ ch:=λz=>(hch p.1 z).2.2.2 p F rfl
  exact⟨keep p.1 p.2 ne E f e n,free p.1 p.2 f e n,ne,E,d⟩
def Inv.un{t':Nat}(I:Inv X pins σ H s)(u:Un X.fs [] H H' s.heap h')(hok:HOk X.prog X.w H' h'):Inv X pins σ H' { s with heap:=h',toks:=t' }:=by
 obtain⟨m,⟨o,es,ep,g,r⟩,_⟩:=id I.loc;obtain⟨sl,i⟩:=u.any g I.free (by simp);exact I.step (g':=s.gens) (d':=s.drawn) (ch:=[]) (λ_ z=>nomatch z) (λb o _ f _ e n=>u.keep b o e n f (by simp)) (λb o _ f _ e n=>u.slot b o e n f (by simp)) (λb o _ e n=>u.free b o e n (by simp)) (λb o _ e=>u.there b o e (by simp)) u.tups u.frzs u.tbls (λl h=>by
  obtain⟨k,d,c,a,j⟩:=h;rw[g] at a;cases a;exact⟨_,d,c,i,j⟩) hok I.bare
def Inv.call{g':Array GenState}{t':Nat}{d':Drawn}{ch:List Addr}(I:Inv X pins σ H s)(u:Un (frs X.stack) ch H H' s.heap h')(hok:HOk X.prog X.w H' h')(hg:AllBare g')
  (hch:∀ b∈ch,(b∈X.ex\/X.s₀.heap.objs.size<=b)/\b≠X.env.locals/\(∀ x c,X.env.cells.lookup x=some c->c≠b)/\∀ p∈X.pn++pins,p.1≠b) :
  Inv X pins σ H' { s with heap:=h',gens:=g',drawn:=d',toks:=t' }:=by
 obtain⟨m,⟨o,es,ep,i,r⟩,_⟩:=id I.loc;obtain⟨sl,g⟩:=u.any i I.free λz=>(hch _ z).2.1 rfl
 exact I.step (ch:=ch) hch (λb o g l a e n=>u.keep b o e n (λz=>(mem_cons.mp (I.stkSub b z)).elim g l) a) (λb o _ _ a e n=>u.any e n a) (λb o a e n=>u.free b o e n a) (λb o a e=>u.there b o e a) u.tups u.frzs u.tbls (λt j=>by
  obtain⟨q,h,f,d,k⟩:=j;rw[i] at d;cases d;exact⟨_,h,f,g,k⟩) hok hg
def Inv.turned{t':Nat}{it:Addr}(I:Inv X pins σ H s)(k:∀ b o,b≠it->s.heap.get? b=some o->h'.get? b=some o)(hn:H it=none)(hL:it≠X.env.locals)
  (h1:it∈X.ex\/X.s₀.heap.objs.size<=it)(h2:∀ x c,X.env.cells.lookup x=some c->c≠it)(h3:∀ p∈X.pn++pins,p.1≠it):Inv X pins σ H { s with heap:=h',toks:=t' }:=by
 have d:∀ b u,H b=some u->b≠it:=λb u e z=>by rw[z,hn] at e;cases e
 refine I.step (g':=s.gens) (d':=s.drawn) (ch:=[it]) (λb h=>?_) (λb o _ _ a e _=>k b o (λz=>a (by simp[z])) e) (λb o _ _ a e _=>⟨o.slots,k b o (λz=>a (by simp[z])) e⟩) (λ_ _ _ _ n=>n)
  (λb o a e=>⟨o,k b o (λz=>a (by simp[z])) e⟩) (λ_ _ e=>e) (λ_ _ _ e=>e) (λb i e=>⟨#[],by rw[e];simp⟩) (λm f=>?_) (λb u e=>?_) I.bare
 .have e:b=it:=by simpa using h
  subst e;exact⟨h1,hL,h2,h3⟩
 .obtain⟨o,es,ep,g,r⟩:=f;exact⟨o,es,ep,k _ o (Ne.symm hL) g,r⟩
 .refine(I.hok b u e).stay (λc v a q=>k c v ?_ q) (λ_ q=>q) λ_ _ q=>q
  rcases a with z | z
  .rw[z];exact d b u e
  .exact d c _ z
def Inv.tok(I:Inv X pins σ H s)(t:Nat):Inv X pins σ H { s with toks:=t }:=I.un (h':=s.heap) (t':=t) Un.refl I.hok
def Inv.kept{t':Nat}(I:Inv X pins σ H s)(k:∀ b u,s.heap.get? b=some u->h'.get? b=some u):Inv X pins σ H { s with heap:=h',toks:=t' }:=I.un (Un.kept k) (I.hok.kept k)
def Inv.laid{a:Addr}{o:HO}{t':Nat}(I:Inv X pins σ H s)(k:∀ b u,s.heap.get? b=some u->h'.get? b=some u)(hp:s.heap.objs.size<=a)(new:cW X.prog X.w (upd H a o) h' a o) :
  Inv X pins σ (upd H a o) { s with heap:=h',toks:=t' }:=I.un (Un.laid k hp (I.hok.fresh hp)) (I.hok.laid k hp new)
def Inv.write{x e:Addr}{o:HO}{t':Nat}(I:Inv X pins σ H s)(mu:Mut (H x))(he:e=x\/H e=some (.own x))(k:∀ b u,b≠e->s.heap.get? b=some u->h'.get? b=some u)(heo:∃ u,h'.get? e=some u)
  (new:cW X.prog X.w (upd H x o) h' x o):Inv X pins σ (upd H x o) { s with heap:=h',toks:=t' }:=I.un (Un.write mu he k heo) (I.hok.write mu he k heo new)
def Inv.pins_of{a:List (Addr × Obj)}(I:Inv X pins σ H s)(h:∀ p∈a,s.heap.get? p.1=some p.2/\H p.1=none/\p.1≠X.env.locals/\p.1 ∉ X.fs/\∀ v,p.2.data≠.cell v):Inv X a σ H s :=
 ⟨I.ok,I.os,I.bare,I.base,I.loc,I.cell,I.free,I.freeC,λp b=>(mem_append.mp b).elim (λz=>I.pin p (Xx _ z)) (h p),I.hok,I.len⟩
def sS{N:List Str}(hN:N.Nodup){i j:Nat}{x:Str}(a:N[i]?=some x)(b:N[j]?=some x):i=j:=by
 obtain⟨f,d⟩:=pN.mp a;obtain⟨e,c⟩:=pN.mp b;exact(List.getElem_inj hN).mp (d.trans c.symm)
def vB{M:Model}{A:Around}{E:Value->Shared->Prop}{i:Nat}{x:Str}{v:V}{u:Value}{Q:Unit->Shared->Prop}(I:Inv X pins σ H s)(hN:X.N.Nodup)(hi:X.N[i]?=some x)(t:Loc X.env.scope x)(r:RelV v u)
  (h:∀ s',Inv X pins (σ.set i (some v)) H s'->(∃ a,Heap.SameBut a s.heap s'.heap/\(a=X.env.locals\/X.env.cells.lookup x=some a))->Q () s')(hf:X.fn x=true\/X.env.scope.names.lookup x=some .local:=by first | exact .inl rfl | exact .inr rfl | assumption):wpAny M A (storeName X.env x u) Q E s:=by
 obtain⟨m,T,hl⟩:=id I.loc;have J:(X.env.scope.kind == .class || (X.env.scope.kind == .module && X.env.locals != X.env.globals))=false:=by rw[I.ok.kind];rfl
 have P:i<σ.length:=by rw[I.len];exact(pN.mp hi).1
 have cne:=I.cne;have tracked:∀ {a:Addr}{h':Heap},(∃ o,s.heap.get? a=some o/\H a=none)->Heap.SameBut a s.heap h'->HOk X.prog X.w H h':=fun {a h'} ha f b ob e=>by
  obtain⟨_,_,B⟩:=ha;refine(I.hok b ob e).stay (λc S l q=>(f.2 c ?_).trans q) (λ_ q=>q) λ_ _ q=>q
  rintro rfl;rcases l with rfl | l
  .rw[B] at e;cases e
  .rw[B] at l;cases l
 rcases t with D | D
 .refine wpAny_storeName_local D T (λh' ac f=>?_) J;obtain⟨oL,_,_,hoL,_⟩:=id T;refine h _ ⟨I.ok,I.os,I.bare,⟨λb o e n G t=>?_,λb o e n G t=>?_,I.base.free,λb o e t=>?_,I.base.tups,I.base.frzs,I.base.tbls⟩,⟨_,ac,λj y v' g C e3=>?_⟩,λy c e=>?_,I.free,I.freeC,λp Y=>?_,tracked ⟨oL,hoL,I.free⟩ f,by simpa using I.len⟩ ⟨_,f,.inl rfl⟩
  .exact(f.2 b (J6 (Xk (I3 e) I.ok.above))).trans (I.base.keep b o e n G t)
  .obtain⟨sl,g⟩:=I.base.slot b o e n G t;exact⟨sl,(f.2 b (J6 (Xk (I3 e) I.ok.above))).trans g⟩
  .obtain⟨Z,g⟩:=I.base.there b o e t;exact⟨Z,(f.2 b (J6 (Xk (I3 e) I.ok.above))).trans g⟩
  .by_cases hj:j=i
   .subst hj;rw[hi] at g;cases g;rw[getElem?_set_self P] at C;cases C;exact⟨u,r,.inl ⟨D,by simp⟩⟩
   .rw[getElem?_set_ne (Ne.symm hj)] at C;obtain⟨U,r',q⟩:=hl j y v' g C e3;refine⟨U,r',?_⟩;rcases q with⟨k,e⟩ | ⟨k,c,e,z⟩
    .refine .inl ⟨k,?_⟩;have:y≠x:=λe=>hj (sS hN g (e ▸ hi))
     simp[this,e]
    .exact .inr ⟨k,c,e,z.sameBut f (cne y c e)⟩
  .obtain⟨S,z⟩:=I.cell y c e;exact⟨S,z.sameBut f (cne y c e)⟩
  .obtain⟨e,n,ne,W,d⟩:=I.pin p Y;exact⟨(f.2 p.1 ne).trans e,n,ne,W,d⟩
 .have F:X.fn x=true:=by
   rcases hf with z | z
   .exact z
   .rw[z] at D;cases D
  obtain⟨c,l⟩:=I.ok.has x (.inl D);obtain⟨S,z⟩:=I.cell x c l;refine wpAny_storeName_cell I.ok.kind D l z (λh' K f=>?_);obtain⟨oc,O,L⟩:=id z;refine h { s with heap:=h' } ⟨I.ok,I.os,I.bare,⟨λb o e n G t=>?_,λb o e n G t=>?_,I.base.free,λb o e t=>?_,I.base.tups,I.base.frzs,I.base.tbls⟩,⟨m,T.sameBut f (Ne.symm (cne x c l)),λj y v' g C e3=>?_⟩,λy R e=>?_,I.free,I.freeC,λp Y=>?_,tracked ⟨oc,O,I.freeC x c l⟩ f,by simpa using I.len⟩ ⟨c,f,.inr l⟩
  .exact(f.2 b (J6 (Xk (I3 e) (I.ok.cab x c F l)))).trans (I.base.keep b o e n G t)
  .obtain⟨sl,g⟩:=I.base.slot b o e n G t;exact⟨sl,(f.2 b (J6 (Xk (I3 e) (I.ok.cab x c F l)))).trans g⟩
  .obtain⟨Z,g⟩:=I.base.there b o e t;exact⟨Z,(f.2 b (J6 (Xk (I3 e) (I.ok.cab x c F l)))).trans g⟩
  .by_cases hj:j=i
   .subst hj;rw[hi] at g;cases g;rw[getElem?_set_self P] at C;cases C;exact⟨u,r,.inr ⟨.inl D,c,l,K⟩⟩
   .rw[getElem?_set_ne (Ne.symm hj)] at C;obtain⟨U,r',q⟩:=hl j y v' g C e3;refine⟨U,r',?_⟩;rcases q with q | ⟨k,R,e,z'⟩
    .exact .inl q
    .refine .inr ⟨k,R,e,z'.sameBut f ?_⟩;rintro rfl;exact hj (sS hN g (I.ok.inj _ _ _ e l ▸ hi))
  .by_cases hcc:R=c
   .subst hcc;exact⟨_,K⟩
   .obtain⟨w2,z2⟩:=I.cell y R e;exact⟨w2,z2.sameBut f hcc⟩
  .obtain⟨e,n,ne,W,d⟩:=I.pin p Y;refine⟨(f.2 p.1 ?_).trans e,n,ne,W,d⟩;intro q;rw[q,O] at e;have q':oc=p.2:=Xn e;exact d S (by rw[← q'];exact L)
def sO{M:Model}{A:Around}{E:Value->Shared->Prop}{i:Nat}{x:Str}{v:V}{u:Value}{Q:Unit->Shared->Prop}(I:Inv X pins σ H s)(hN:X.N.Nodup)(hi:X.N[i]?=some x)(hx:Loc X.env.scope x)(r:RelV v u)
  (h:∀ s',Inv X pins (σ.set i (some v)) H s'->Q () s')(hf:X.fn x=true\/X.env.scope.names.lookup x=some .local:=by first | exact .inl rfl | exact .inr rfl | assumption):wpAny M A (storeName X.env x u) Q E s :=
 vB I hN hi hx r (λs' a _=>h s' a) hf
def Inv.call'{s':Shared}{ch:List Addr}(I:Inv X pins σ H s)(ho:s'.os=s.os)(u:Un (frs X.stack) ch H H' s.heap s'.heap)(hok:HOk X.prog X.w H' s'.heap)(hg:AllBare s'.gens)
  (hch:∀ b∈ch,(b∈X.ex\/X.s₀.heap.objs.size<=b)/\b≠X.env.locals/\(∀ x c,X.env.cells.lookup x=some c->c≠b)/\∀ p∈X.pn++pins,p.1≠b):Inv X pins σ H' s':=by
 obtain⟨h',g',d',t',a⟩:=s';have e:a=s.os:=ho;subst e;exact I.call (g':=g') (t':=t') (d':=d') u hok hg hch
end
abbrev XK:=Value->Option Addr->Hp->Prop
abbrev St:=List (Option V)
abbrev VK:=V->Hp->Prop
abbrev TE:=St->Hp->VK->Prop
abbrev TT:=St->Hp->(Bool->Hp->Prop)->Prop
abbrev TA:=St->Hp->(List V->Hp->Prop)->Prop
structure Ends where
 nx:St->Hp->Prop
 rt:VK
 bk:St->Hp->Prop:=λ_ _=>False
 ct:St->Hp->Prop:=λ_ _=>False
abbrev TS:=Ends->St->Hp->Prop
def EP(X:Cx)(pins:List (Addr × Obj))(σ:St)(Q:VK)(u:Value)(s':Shared):Prop:=∃ v a,Inv X pins σ a s'/\RelV v u/\Q v a
def TP(X:Cx)(pins:List (Addr × Obj))(σ:St)(Q:Bool->Hp->Prop)(b:Bool)(s':Shared):Prop:=∃ a,Inv X pins σ a s'/\Q b a
def AP(X:Cx)(pins:List (Addr × Obj))(σ:St)(Q:List V->Hp->Prop)(us:List Value)(s':Shared):Prop:=∃ b a,Inv X pins σ a s'/\Vals b us/\Q b a
def SP(X:Cx)(pins:List (Addr × Obj))(D:Ends)(f:Flow)(s':Shared):Prop :=
 match f with
 | .next=>∃ b a,Inv X pins b a s'/\D.nx b a
 | .brk=>∃ b a,Inv X pins b a s'/\D.bk b a
 | .cont=>∃ b a,Inv X pins b a s'/\D.ct b a
 | .ret u=>∃ v b a,Inv X pins b a s'/\RelV v u/\D.rt v a
def PE(X:Cx)(e:Expr)(t:TE):Prop :=
 ∀(pins:List (Addr × Obj))(s:Shared)(σ:St)(H:Hp)(Q:VK),Inv X pins σ H s->t σ H Q->wpAny (model X.prog X.w) X.A (eval e X.env) (EP X pins σ Q) X.xe s
def PT(X:Cx)(e:Expr)(t:TT):Prop :=
 ∀(pins:List (Addr × Obj))(s:Shared)(σ:St)(H:Hp)(Q:Bool->Hp->Prop),Inv X pins σ H s->t σ H Q->wpAny (model X.prog X.w) X.A (isTrue e X.env (eval e X.env)) (TP X pins σ Q) X.xe s
def PW(X:Cx)(e:Expr)(t:TT):Prop :=
 ∀(whole:Sem Value)(pins:List (Addr × Obj))(s:Shared)(σ:St)(H:Hp)(Q:Bool->Hp->Prop),Inv X pins σ H s->t σ H Q->wpAny (model X.prog X.w) X.A (isTrue e X.env whole) (TP X pins σ Q) X.xe s
theorem PW.pt{X:Cx}{e:Expr}{t:TT}(h:PW X e t):PT X e t:=h _
def PA(X:Cx)(es:List Expr)(t:TA):Prop :=
 ∀(pos:Pos)(pins:List (Addr × Obj))(s:Shared)(σ:St)(H:Hp)(Q:List V->Hp->Prop),Inv X pins σ H s->t σ H Q->wpAny (model X.prog X.w) X.A (spliced (backTo pos (starEach es X.env))) (AP X pins σ Q) X.xe s
def PS(X:Cx)(st:Stmt)(t:TS):Prop :=
 ∀(pins:List (Addr × Obj))(s:Shared)(σ:St)(H:Hp)(D:Ends),Inv X pins σ H s->t D σ H->wpAny (model X.prog X.w) X.A (exec st X.env) (SP X pins D) X.xe s
def PSs(X:Cx)(st:List Stmt)(t:TS):Prop :=
 ∀(pins:List (Addr × Obj))(s:Shared)(σ:St)(H:Hp)(D:Ends),Inv X pins σ H s->t D σ H->wpAny (model X.prog X.w) X.A (execs st X.env) (SP X pins D) X.xe s
def thn{α:Type}{t:Sem α}{Q Q':α->Shared->Prop}{M:Model}{A:Around}{E:Value->Shared->Prop}{s:Shared}(h:wpAny M A t Q E s)(hQ:∀ a s,Q a s->Q' a s):wpAny M A t Q' E s:=wpAny_mono h hQ λ_ _ x=>x
section
variable {X:Cx}
def bin{a b:Expr}{ta tb:TE}(ha:PE X a ta)(hb:PE X b tb){pins:List (Addr × Obj)}{s:Shared}{σ:St}{H:Hp}{R:V->V->Hp->Prop}(I:Inv X pins σ H s)(h:ta σ H λx e=>tb σ e λy c=>R x y c)
  {α:Type}{Q:α->Shared->Prop}{f:Value->Value->Sem α}
  (hf:∀ v u d x y c,Inv X pins σ c d->RelV x v->RelV y u->R x y c->wpAny (model X.prog X.w) X.A (f v u) Q X.xe d) :
  wpAny (model X.prog X.w) X.A (eval a X.env) (λv k=>wpAny (model X.prog X.w) X.A (eval b X.env) (λu p=>wpAny (model X.prog X.w) X.A (f v u) Q X.xe p) X.xe k) X.xe s:=by
 refine thn (ha pins s σ H _ I h) λv o ⟨x,e,j,l,g⟩=>?_
 refine thn (hb pins o σ e _ j g) λu d ⟨y,c,n,i,m⟩=>?_
 exact hf v u d x y c n l i m
def QG(i:Nat):TE:=λσ H Q=>∃ v,σ[i]?=some (some v)/\Q v H
def tC(v:V):TE:=λ_ H Q=>Q v H
def Qu{i:Nat}{x:Str}{pos:Pos}(hN:X.N[i]?=some x)(hv:Vis X.env.scope x)(hd:(x == ("__debug__" : Str))=false:=by decide)(hcd:(x == ("__classdict__" : Str))=false:=by decide):PE X (.Name x pos) (QG i):=by
 intro f s σ H Q I h;obtain⟨v,e,h⟩:=h;obtain⟨m,n,j⟩:=I.loc;obtain⟨u,r,l⟩:=j i x v hN e hv;have d:EP X f σ Q u s:=⟨v,H,I,r,h⟩
 rcases l with⟨b,k⟩ | ⟨b,c,g,a⟩
 .exact wpAny_Name (wpAny_loadName_local I.ok.kind b n k d) hd
 .rcases b with b | b
  .exact wpAny_Name (wpAny_loadName_cell I.ok.kind b g a d) hd
  .exact wpAny_Name (wpAny_loadName_free I.ok.kind b g a d hcd) hd
def aA{i j pos}:PE X (.Constant (.int i) j pos) (tC (.int i)):=λ_ _ _ H _ I h=>wpAny_Constant_int ⟨.int i,H,I.tok _,⟨_,rfl⟩,h⟩
def zV{b j pos}:PE X (.Constant (.bool b) j pos) (tC (.bl b)):=λ_ _ _ H _ I h=>Constant_bool ⟨.bl b,H,I,rfl,h⟩
def dF{j pos}:PE X (.Constant .none j pos) (tC .non):=λ_ _ _ H _ I h=>Constant_none ⟨.non,H,I,rfl,h⟩
def aF{x j pos}:PE X (.Constant (.str x) j pos) (tC (.str x)):=λ_ _ _ H _ I h=>Calls.Constant_str ⟨.str x,H,I.tok _,⟨_,rfl⟩,h⟩
def Gl(X:Cx)(x:Str):Prop:=X.env.kindOf x=some .globalImplicit
def nH{E:Value->Shared->Prop}{pins:List (Addr × Obj)}{s:Shared}{σ:St}{H:Hp}{x:Str}{u:Value}{pos:Pos}{Q:Value->Shared->Prop}(I:Inv X pins σ H s)(hg:Gl X x)(hm:X.mg x=some u)(h:Q u s)
  (hd:(x == ("__debug__" : Str))=false:=by decide):wpAny (model X.prog X.w) X.A (eval (.Name x pos) X.env) Q E s :=
 Calls.Name_function_global I.ok.kind hg (Calls.loadGlobal_global (by rw[I.ok.glob];exact I.mod.glob.keeps I.bk) hm h) hd
def yF{E:Value->Shared->Prop}{pins:List (Addr × Obj)}{s:Shared}{σ:St}{H:Hp}{x:Str}{u:Value}{pos:Pos}{Q:Value->Shared->Prop}(I:Inv X pins σ H s)(hg:Gl X x)(hm:X.mg x=none)(hv:bootBuiltins x=some u)(h:Q u s)
  (hn:x ≠ "__name__":=by decide)(hd:(x == ("__debug__" : Str))=false:=by decide):wpAny (model X.prog X.w) X.A (eval (.Name x pos) X.env) Q E s:=by
 obtain⟨c,b,a⟩:=I.mod.blt;exact Calls.Name_function_global I.ok.kind hg (Calls.loadGlobal_builtin (by rw[I.ok.glob];exact I.mod.glob.keeps I.bk) hm (by rw[I.ok.blt];exact b.keeps I.bk) ((a x hn).trans hv) h) hd
def iW{x:Str}{v:V}{u:Value}{pos:Pos}(hg:Gl X x)(hm:X.mg x=some u)(r:RelV v u)(hd:(x == ("__debug__" : Str))=false:=by decide):PE X (.Name x pos) (tC v) :=
 λ_ _ _ H _ I h=>nH I hg hm ⟨v,H,I,r,h⟩ hd
def nA{x:Str}{v:V}{u:Value}{pos:Pos}(hg:Gl X x)(hm:X.mg x=none)(hv:bootBuiltins x=some u)(r:RelV v u)(hn:x ≠ "__name__":=by decide)(hd:(x == ("__debug__" : Str))=false:=by decide):PE X (.Name x pos) (tC v) :=
 λ_ _ _ H _ I h=>yF I hg hm hv ⟨v,H,I,r,h⟩ hn hd
variable {a b:Expr}{ta tb:TE}{pos:Pos}
def PC(X:Cx)(op:CmpOp)(a b:Expr)(t:TE):Prop :=
 ∀(pins:List (Addr × Obj))(s:Shared)(σ:St)(H:Hp)(Q:VK),Inv X pins σ H s->t σ H Q ->
  wpAny (model X.prog X.w) X.A (eval a X.env) (λv c=>wpAny (model X.prog X.w) X.A (eval b X.env) (λu d=>wpAny (model X.prog X.w) X.A (compareOp op v u) (EP X pins σ Q) X.xe d) X.xe c) X.xe s
def GF(b:Expr){op:CmpOp}(h:op≠.In)(h2:op≠.NotIn):behindInMarks op b=false:=by
 have a:(op == CmpOp.In)=false:=by cases op <;> first | rfl | exact absurd rfl h
 have c:(op == CmpOp.NotIn)=false:=by cases op <;> first | rfl | exact absurd rfl h2
 cases b <;> simp[behindInMarks,a,c]
def tB(t:TE):TT:=λσ H Q=>t σ H λx a=>∃ c,x=.bl c/\Q c a
def Sx{op:CmpOp}{t:TE}(h:PC X op a b t)(f:behindInMarks op b=false:=by first | exact GF _ (by decide) (by decide) | rfl):PT X (.Compare a [op] [b] pos) (tB t):=by
 intro e s σ H Q I j;refine wpAny_isTrue_Compare1 (thn (h e s σ H _ I j) λv p f=>thn f λu n l=>thn l λc o ⟨x,g,k,m,i⟩=>?_) f;obtain⟨d,rfl,q⟩:=i;cases m;exact wpAny_truthy_bool ⟨g,k,q⟩
def jr{e:Expr}{t:TE}(h:PE X e t)(he:∀ a,isTrue e X.env a=(do let v ← a;standAt e.pos;holding [v] (truthy v)):=by intro _;rfl):PT X e (tB t):=by
 intro b s σ H Q I g;refine isTrue_plain (thn (h b s σ H _ I g) λv k ⟨x,c,i,j,f⟩=>?_) (he _);obtain⟨d,rfl,q⟩:=f;cases j;exact wpAny_truthy_bool ⟨c,i,q⟩
variable {tA tB':TT}{rest:List Expr}
def Ul(t u:TT):TT:=λσ H Q=>t σ H λc a=>if c=true then u σ a Q else Q false a
def tOr(t u:TT):TT:=λσ H Q=>t σ H λc a=>if c=true then Q true a else u σ a Q
def Um(t:TT):TT:=λσ H Q=>t σ H λc a=>Q (!c) a
def lG(ha:PT X a tA):PW X (.BoolOp .And [a] pos) tA:=by
 intro f b s σ H Q I h;refine isTrue_and (thn (ha b s σ H Q I h) λc d e=>?_);cases c with
 | true=>exact isTrue_and_nil e
 | false=>exact e
def nG(ha:PT X a tA):PW X (.BoolOp .Or [a] pos) tA:=by
 intro f b s σ H Q I h;refine isTrue_or (thn (ha b s σ H Q I h) λc d e=>?_);cases c with
 | false=>exact isTrue_or_nil e
 | true=>exact e
def qw(ha:PT X a tA)(hb:PW X (.BoolOp .And (b::rest) pos) tB'):PW X (.BoolOp .And (a::b::rest) pos) (Ul tA tB'):=by
 intro j d s σ H Q I h;refine isTrue_and (thn (ha d s σ H _ I h) λc i ⟨e,g,f⟩=>?_);cases c with
 | true=>exact hb j d i σ e Q g f
 | false=>exact⟨e,g,f⟩
def vM(ha:PT X a tA)(hb:PW X (.BoolOp .Or (b::rest) pos) tB'):PW X (.BoolOp .Or (a::b::rest) pos) (tOr tA tB'):=by
 intro j d s σ H Q I h;refine isTrue_or (thn (ha d s σ H _ I h) λc i ⟨e,g,f⟩=>?_);cases c with
 | true=>exact⟨e,g,f⟩
 | false=>exact hb j d i σ e Q g f
def uK(ha:PT X a tA):PT X (.UnaryOp .Not a pos) (Um tA):=by
 intro b s σ H Q I h;exact isTrue_not (ha b s σ H (λc d=>Q (!c) d) I h)
def Rt(ta tb:TE):TE:=λσ H Q=>ta σ H λx a=>∃ c,x=.bl c/\if c=true then tb σ a Q else Q (.bl false) a
def T8(ta tb:TE):TE:=λσ H Q=>ta σ H λx a=>∃ c,x=.bl c/\if c=true then Q (.bl true) a else tb σ a Q
def RZ(ta:TE):TE:=λσ H Q=>ta σ H λx a=>∃ c,x=.bl c/\Q (.bl (!c)) a
def uR{op}{t:TE}(h:PE X a t):PE X (.BoolOp op [a] pos) t:=λb s σ H Q I c=>BoolOp_one (h b s σ H Q I c)
def Bd(ha:PE X a ta)(hb:PE X (.BoolOp .And (b::rest) pos) tb):PE X (.BoolOp .And (a::b::rest) pos) (Rt ta tb):=by
 intro d s σ H Q I h;refine BoolOp_and (thn (ha d s σ H _ I h) λv j ⟨x,f,g,i,e⟩=>?_);obtain⟨c,rfl,e⟩:=e;cases i;refine wpAny_truthy_bool ?_;cases c with
 | true=>exact hb d j σ f Q g e
 | false=>exact⟨.bl false,f,g,rfl,e⟩
def Np(ha:PE X a ta)(hb:PE X (.BoolOp .Or (b::rest) pos) tb):PE X (.BoolOp .Or (a::b::rest) pos) (T8 ta tb):=by
 intro d s σ H Q I h;refine BoolOp_or (thn (ha d s σ H _ I h) λv j ⟨x,f,g,i,e⟩=>?_);obtain⟨c,rfl,e⟩:=e;cases i;refine wpAny_truthy_bool ?_;cases c with
 | false=>exact hb d j σ f Q g e
 | true=>exact⟨.bl true,f,g,rfl,e⟩
def QD(ha:PE X a ta):PE X (.UnaryOp .Not a pos) (RZ ta):=by
 intro b s σ H Q I h;refine UnaryOp_ (thn (ha b s σ H _ I h) λv i ⟨x,f,g,e,d⟩=>?_);obtain⟨c,rfl,d⟩:=d;cases e;exact not_of (wpAny_truthy_bool ⟨.bl (!c),f,g,rfl,d⟩)
def tIf(t:TT)(ta tb:TE):TE:=λσ H Q=>t σ H λc a=>if c=true then ta σ a Q else tb σ a Q
def HN{c:Expr}(hc:PT X c tA)(ha:PE X a ta)(hb:PE X b tb):PE X (.IfExp c a b pos) (tIf tA ta tb):=by
 intro e s σ H Q I h;refine wpAny_IfExp (thn (hc e s σ H _ I h) λd i ⟨f,j,g⟩=>?_);cases d with
 | true=>exact ha e i σ f Q j g
 | false=>exact hb e i σ f Q j g
end
def SqL(K:W.Frag)(H:Hp)(a:Addr)(xs:List V):Prop :=
 Rd H a (.lst xs) \/
  ∃(o:Obj)(its:Array Value)(n:Nat),K.lookup a=some o/\o.cls=.type "list"/\o.dict=none/\o.data=.seq its n/\its.size<=sizeLine/\Vals xs its.toList
def SqT(K:W.Frag)(H:Hp)(a:Addr)(xs:List V):Prop :=
 Rd H a (.tup xs) \/
  ∃(o:Obj)(its:Array Value)(n:Nat),K.lookup a=some o/\o.cls=.type "tuple"/\o.data=.seq its n/\its.size<=sizeLine/\Vals xs its.toList
def Uk:Value->Option V
 | .none=>some .non
 | .bool b=>some (.bl b)
 | .int i _=>some (.int i)
 | .str x _=>some (.str x)
 | .bytes b _=>some (.byt b)
 | .float b _=>some (.flt b)
 | .ref a=>some (.ref a)
 | .type n=>some (.ty n)
 | _=>none
def RelV.abs{x:V}{u:Value}(r:RelV x u):Uk u=some x:=by
 cases x with
 | non=>cases r;rfl
 | bl _=>cases r;rfl
 | int _=>obtain⟨t,rfl⟩:=r;rfl
 | str _=>obtain⟨t,rfl⟩:=r;rfl
 | byt _=>obtain⟨t,rfl⟩:=r;rfl
 | flt _=>obtain⟨t,rfl⟩:=r;rfl
 | ref _=>cases r;rfl
 | ty _=>cases r;rfl
def RelV.inj{x y:V}{u:Value}(r:RelV x u)(q:RelV y u):x=y:=Xn (r.abs.symm.trans q.abs)
theorem Vals.inj:∀ {xs ys:List V}{us:List Value},Vals xs us->Vals ys us->xs=ys
 | _,_,_,.nil,.nil=>rfl
 | _,_,_,.cons r t,.cons a t'=>by rw[r.inj a,Vals.inj t t']
section
variable {X:Cx}{pins:List (Addr × Obj)}{σ:St}{H:Hp}{s:Shared}{a:Addr}{xs ys:List V}
def SqL.of{K:W.Frag}(h:H a=some (.lst xs)):SqL K H a xs:=.inl (.inl h)
def SqT.of{K:W.Frag}(h:H a=some (.tup xs)):SqT K H a xs:=.inl (.inl h)
def Inv.list(I:Inv X pins σ H s)(h:SqL X.K H a xs):∃ b:List Value,Vals xs b/\PlainL s.heap a b.toArray/\xs.length<=sizeLine:=by
 rcases h with h | ⟨o,b,n,c,f,hd,d,hz,r⟩
 .obtain⟨z,b,n,r,e⟩:=h.ok I.hok;exact⟨b,r,⟨_,n,e,rfl,rfl,rfl⟩,z⟩
 .refine⟨b.toList,r,⟨o,n,I.kIn a o c,f,hd,by simpa using d⟩,?_⟩;have e:=r.length;simp only[Xj] at e;lia
def Inv.tuple(I:Inv X pins σ H s)(h:SqT X.K H a xs):∃ b:List Value,Vals xs b/\IsTup s.heap a b.toArray/\xs.length<=sizeLine:=by
 rcases h with h | ⟨o,b,n,c,f,d,hz,r⟩
 .obtain⟨z,b,r,p⟩:=h.ok I.hok;exact⟨b,r,p,z⟩
 .refine⟨b.toList,r,⟨o,I.kIn a o c,f,n,by simpa using d⟩,?_⟩;have e:=r.length;simp only[Xj] at e;lia
def Inv.list_inj(I:Inv X pins σ H s)(h:SqL X.K H a xs)(h':SqL X.K H a ys):xs=ys:=by
 obtain⟨b,r,⟨o,n,e,_,_,d⟩,_⟩:=I.list h;obtain⟨its',f,⟨i,g,c,_,_,d'⟩,_⟩:=I.list h';rw[e] at c;cases c;rw[d] at d';injection d' with d1 _;have:b=its':=by simpa using congrArg Array.toList d1
 subst this;exact r.inj f
def Inv.tuple_inj(I:Inv X pins σ H s)(h:SqT X.K H a xs)(h':SqT X.K H a ys):xs=ys:=by
 obtain⟨b,r,⟨o,e,_,n,d⟩,_⟩:=I.tuple h;obtain⟨its',f,⟨i,c,_,g,d'⟩,_⟩:=I.tuple h';rw[e] at c;cases c;rw[d] at d';injection d' with d1 _;have:b=its':=by simpa using congrArg Array.toList d1
 subst this;exact r.inj f
end
abbrev Cx.wish(X:Cx)(E:Value->Shared->Prop):Cx:={ X with xe:=E }
abbrev Cx.nox(X:Cx):Cx:=X.wish λ_ _=>False
def Cx.Ok.wish{X:Cx}(ok:X.Ok)(E:Value->Shared->Prop):(X.wish E).Ok :=
 ⟨ok.mod,ok.kind,ok.glob,ok.blt,ok.above,ok.inj,ok.has,ok.cab,ok.hd,ok.frames,ok.stk,ok.exf,ok.bs,ok.bsz,ok.noex,ok.exfs,ok.funs,ok.frf⟩
def Cx.Ok.unwish{X:Cx}{E:Value->Shared->Prop}(ok:(X.wish E).Ok):X.Ok :=
 ⟨ok.mod,ok.kind,ok.glob,ok.blt,ok.above,ok.inj,ok.has,ok.cab,ok.hd,ok.frames,ok.stk,ok.exf,ok.bs,ok.bsz,ok.noex,ok.exfs,ok.funs,ok.frf⟩
section
variable {X:Cx}{pins:List (Addr × Obj)}{σ:St}{H:Hp}{s:Shared}{E:Value->Shared->Prop}
def Inv.wish(I:Inv X pins σ H s)(E:Value->Shared->Prop):Inv (X.wish E) pins σ H s:=⟨I.ok.wish E,I.os,I.bare,I.base,I.loc,I.cell,I.free,I.freeC,I.pin,I.hok,I.len⟩
def Inv.unwish(I:Inv (X.wish E) pins σ H s):Inv X pins σ H s:=⟨I.ok.unwish,I.os,I.bare,I.base,I.loc,I.cell,I.free,I.freeC,I.pin,I.hok,I.len⟩
def SP.unwish{D:Ends}{f:Flow}{s':Shared}(h:SP (X.wish E) pins D f s'):SP X pins D f s':=by
 cases f with
 | next=>obtain⟨b,a,I,q⟩:=h;exact⟨b,a,I.unwish,q⟩
 | brk=>obtain⟨b,a,I,q⟩:=h;exact⟨b,a,I.unwish,q⟩
 | cont=>obtain⟨b,a,I,q⟩:=h;exact⟨b,a,I.unwish,q⟩
 | ret u=>obtain⟨v,b,a,I,r,q⟩:=h;exact⟨v,b,a,I.unwish,r,q⟩
theorem PSs.nox{st:List Stmt}{t:TS}(h:PSs X.nox st t):PSs X st t:=λpins s σ H D I a =>
 wpAny_mono (h pins s σ H D (I.wish _) a) (λ_ _ q=>q.unwish) λ_ _ z=>False.elim z
variable {st:Stmt}{rest:List Stmt}{t u:TS}{e:Expr}{te:TE}{pos:Pos}
def Rc:TS:=λD σ H=>D.nx σ H
def QF(t u:TS):TS:=λD σ H=>t { D with nx:=u D } σ H
def bf:PSs X [] Rc:=λ_ _ σ H _ I h=>wpAny_execs_nil ⟨σ,H,I,h⟩
def au(h1:PS X st t)(h2:PSs X rest u):PSs X (st::rest) (QF t u):=by
 intro a s σ H D I h;refine wpAny_execs_cons (thn (h1 a s σ H { D with nx:=u D } I h) λf c q=>?_);cases f with
 | next =>
  obtain⟨e,b,d,q⟩:=q;exact h2 a c e b D d q
 | ret v=>exact q
 | brk=>exact q
 | cont=>exact q
def aB(h1:PS X st t):PSs X [st] t:=by
 intro a s σ H D I h;refine wpAny_execs_cons (thn (h1 a s σ H D I h) λf b q=>?_);cases f with
 | next=>exact wpAny_execs_nil q
 | ret v=>exact q
 | brk=>exact q
 | cont=>exact q
def Inv.quiet{pins:List (Addr × Obj)}{σ:St}{H:Hp}{s:Shared}(I:Inv X pins σ H s):interactive X.env=false:=by simp[interactive,I.ok.kind]
def QW(te:TE):TS:=λD σ H=>te σ H λ_ a=>D.nx σ a
def cN(he:PE X e te)(hs:swapsWith e none pos.line X.env=pure false:=by rfl):PS X (.Expr e pos) (QW te):=by
 intro a s σ H D I h;exact wpAny_Expr_any (thn (he a s σ H _ I h) λv g ⟨x,b,d,f,c⟩=>⟨σ,b,d,c⟩) I.quiet hs
def Tc(te:TE):TS:=λD σ H=>te σ H D.rt
def aW(he:PE X e te):PS X (.Return (some e) pos) (Tc te):=by
 intro a s σ H D I h;exact wpAny_Return_some (thn (he a s σ H _ I h) λv g ⟨x,c,f,b,d⟩=>⟨x,σ,c,f,b,d⟩)
def Uj(c:TT)(t u:TS):TS:=λD σ H=>c σ H λb a=>if b=true then t D σ a else u D σ a
def cB{c:Expr}{a b:List Stmt}{tc:TT}(hc:PT X c tc)(ha:PSs X a t)(hb:PSs X b u):PS X (.If c a b pos) (Uj tc t u):=by
 intro e s σ H D I h;refine wpAny_If (thn (hc e s σ H _ I h) λd i ⟨f,j,g⟩=>?_);cases d with
 | true=>exact ha e i σ f D j g
 | false=>exact hb e i σ f D j g
end
abbrev TG:=V->St->Hp->(St->Hp->Prop)->Prop
abbrev TGs:=List V->St->Hp->(St->Hp->Prop)->Prop
def PG(X:Cx)(target:Expr)(t:TG):Prop :=
 ∀(pins:List (Addr × Obj))(s:Shared)(σ:St)(H:Hp)(v:V)(u:Value)(Q:St->Hp->Prop),Inv X pins σ H s->RelV v u->t v σ H Q ->
  wpAny (model X.prog X.w) X.A (assign target X.env u) (λ_ s'=>∃ b a,Inv X pins b a s'/\Q b a) X.xe s
def PGs(X:Cx)(ts:List Expr)(t:TGs):Prop :=
 ∀(pins:List (Addr × Obj))(s:Shared)(σ:St)(H:Hp)(vs:List V)(us:List Value)(Q:St->Hp->Prop),Inv X pins σ H s->Vals vs us->t vs σ H Q ->
  wpAny (model X.prog X.w) X.A (assignInOrder ((assignEach ts X.env).map (·.2)) us) (λ_ s'=>∃ b a,Inv X pins b a s'/\Q b a) X.xe s
section
variable {X:Cx}{pos:Pos}
def tY(i:Nat):TG:=λv σ H Q=>Q (σ.set i (some v)) H
def aK{i:Nat}{x:Str}(hN:X.N.Nodup)(hi:X.N[i]?=some x)(hx:Loc X.env.scope x)(hf:X.fn x=true\/X.env.scope.names.lookup x=some .local:=by first | exact .inl rfl | exact .inr rfl | assumption):PG X (.Name x pos) (tY i):=by
 intro a s σ H v u Q I r h;exact wpAny_assign_Name (sO I hN hi hx r (λs' b=>⟨_,H,b,h⟩) hf)
def R7:TGs:=λa σ H Q=>a=[]/\Q σ H
def Lb(t:TG)(u:TGs):TGs:=λc σ H Q=>∃ v r,c=v::r/\t v σ H λa b=>u r a b Q
def jC:PGs X [] R7:=by
 intro a s σ H c b Q I r h;obtain⟨e,h⟩:=h;subst e;cases r;exact assignInOrder_nil ⟨σ,H,I,h⟩
def bH{e:Expr}{es:List Expr}{t:TG}{u:TGs}(h1:PG X e t)(h2:PGs X es u)
  (hs:(assignEach (e::es) X.env).map (·.2)=assign e X.env::(assignEach es X.env).map (·.2):=by rfl):PGs X (e::es) (Lb t u):=by
 intro a s σ H k l Q I r h;obtain⟨v,m,c,h⟩:=h;subst c;cases r with
 | cons r j =>
  rw[hs];refine assignInOrder_cons (thn (h1 a s σ H _ _ _ I r h) λ_ i ⟨b,d,g,f⟩=>?_);exact h2 a i b d _ _ Q g j f
def Rm(K:W.Frag)(n:Nat)(t:TGs):TG:=λv σ H Q=>∃ a xs,v=.ref a/\SqT K H a xs/\xs.length=n/\t xs σ H Q
def Om{es:List Expr}{k:Nat}{t:TGs}{n:Nat}(hc:X.calm=true)(h:PGs X es t)
  (hn:(assignEach es X.env).length=n:=by rfl)(hst:(assignEach es X.env).findIdx? (·.1)=none:=by rfl):PG X (.Tuple es k pos) (Rm X.K n t):=by
 intro c s σ H v u Q I r d;obtain⟨a,xs,g,m,j,d⟩:=d;subst g;cases r;obtain⟨i,f,ht,hz⟩:=I.tuple m;refine assign_Tuple_tuple (I.ok.hd hc) ht (by simp[hn,← j,f.length]) hst λh' p=>?_
 have l:Inv X c σ H { s with heap:=h' }:=I.kept (t':=s.toks) λb o e=>p b o (J6 (I3 e)) e
 exact h c _ σ H xs _ Q l (by simpa using f) d
def Oc(te:TE)(g:TG):TS:=λD σ H=>te σ H λx a=>g x σ a D.nx
def uY{tg e:Expr}{te:TE}{g:TG}(he:PE X e te)(hg:PG X tg g)(hs:swapsWithSole [tg] e pos.line X.env=pure false:=by rfl)(hw:swappedStores [tg] e X.env=pure none:=by rfl)
  (h1:(assignEach [tg] X.env).map (·.2)=[assign tg X.env]:=by rfl):PS X (.Assign [tg] e pos) (Oc te g):=by
 intro a s σ H D I h;refine wpAny_Assign_stores (thn (he a s σ H _ I h) λv f ⟨x,c,i,b,d⟩=>?_) hs hw;rw[h1];exact thn (hg a f σ c x v _ i b d) λ_ j q=>q
def aL{i:Nat}{x:Str}{e:Expr}{te:TE}{pos':Pos}(hN:X.N.Nodup)(hi:X.N[i]?=some x)(hx:Loc X.env.scope x)(he:PE X e te)(hs:swapsWith e (some (.Name x pos')) pos.line X.env=pure false:=by rfl)(hf:X.fn x=true\/X.env.scope.names.lookup x=some .local:=by first | exact .inl rfl | exact .inr rfl | assumption) :
  PS X (.Assign [.Name x pos'] e pos) (Oc te (tY i)):=by
 intro a s σ H D I h;refine wpAny_Assign_Name (thn (he a s σ H _ I h) λv k ⟨y,c,g,b,d⟩=>?_) hs;exact sO g hN hi hx b (λj f=>⟨_,c,f,d⟩) hf
end
structure It where
 go:Nat->Hp->Prop
 yld:Nat->Hp->V->Hp->Prop
 stop:Nat->Hp->Prop
def Aq(X:Cx)(pins:List (Addr × Obj))(H:Hp)(b:Addr):Prop :=
 H b=none/\b≠X.env.locals/\b ∉ X.fs/\(b∈X.ex\/X.s₀.heap.objs.size<=b)/\(∀ x c,X.env.cells.lookup x=some c->c≠b)/\∀ p∈X.pn++pins,p.1≠b
def Inv.fpOk{X:Cx}{pins:List (Addr × Obj)}{σ:St}{H H':Hp}{s:Shared}{b:Addr}(I:Inv X pins σ H s)(hb:s.heap.objs.size<=b)(hn:H' b=none):Aq X pins H' b:=by
 refine⟨hn,Nat.ne_of_gt (Xk I.lt hb),I.nofs hb,.inr (Xz I.sz hb),λx c e z=>?_,λp a z=>?_⟩
 .obtain⟨v,q⟩:=I.cell x c e;exact absurd (Xk q.lt (by rw[z];exact hb)) (Nat.lt_irrefl _)
 .exact absurd (Xk (I3 (I.pin p a).1) (by rw[z];exact hb)) (Nat.lt_irrefl _)
structure Turn(P:Program)(w:World)(K:W.Frag)(tg:Expr)(J:It)(fp:List Addr)(it:Addr)(tn:Nat->Heap->Prop):Prop where
 mem:it∈fp
 obj:∀ i h,tn i h->∀ b∈fp,∃ o,h.get? b=some o/\∀ v,o.data≠.cell v
 keep:∀ i h h',tn i h->(∀ b∈fp,∀ o,h.get? b=some o->h'.get? b=some o)->tn i h'
 item:∀(X:Cx),X.prog=P->X.w=w->X.K=K->X.calm=true->∀(i:Nat)(pins:List (Addr × Obj))(s:Shared)(σ:St)(H:Hp)(E:Value->Shared->Prop),Inv X pins σ H s->(∀ b∈fp,Aq X pins H b)->tn i s.heap->J.go i H ->
  wpAny (model P w) X.A (pyNext (.ref it)) (λr s1=>∃ u,r=some u /\
   wpAny (model P w) X.A (letOwnedTupleGo tg (.ref it) u) (λ_ s2=>∃ x H',Inv X pins σ H' s2/\RelV x u/\J.yld i H x H'/\tn (i+1) s2.heap/\∀ b∈fp,H' b=none) E s1) E s
 done:∀(X:Cx),X.prog=P->X.w=w->X.K=K->X.calm=true->∀(i:Nat)(pins:List (Addr × Obj))(s:Shared)(σ:St)(H:Hp)(E:Value->Shared->Prop),Inv X pins σ H s->(∀ b∈fp,Aq X pins H b)->tn i s.heap->J.stop i H ->
  wpAny (model P w) X.A (pyNext (.ref it)) (λr s1=>r=none/\Inv X pins σ H s1) E s
 self:∀(A:Around)(i:Nat)(s:Shared)(Q:Value->Shared->Prop)(E:Value->Shared->Prop),tn i s.heap->Q (.ref it) s->wpAny (model P w) A (pyIter (.ref it)) Q E s
abbrev TI:=St->Hp->(It->Hp->Prop)->Prop
def PIE(X:Cx)(pins:List (Addr × Obj))(σ:St)(tg:Expr)(R:It->Hp->Prop)(itv:Value)(s2:Shared):Prop :=
 ∃(it:Addr)(fp:List Addr)(tn:Nat->Heap->Prop)(J:It)(H':Hp),itv=.ref it/\Inv X pins σ H' s2/\Turn X.prog X.w X.K tg J fp it tn/\tn 0 s2.heap/\(∀ b∈fp,Aq X pins H' b)/\R J H'
def PI(X:Cx)(tg iter:Expr)(wi:TI):Prop :=
 ∀(pins:List (Addr × Obj))(s:Shared)(σ:St)(H:Hp)(R:It->Hp->Prop),Inv X pins σ H s->wi σ H R ->
  wpAny (model X.prog X.w) X.A (eval iter X.env) (λv a=>wpAny (model X.prog X.w) X.A (pyIter v) (PIE X pins σ tg R) X.xe a) X.xe s
def MF{M:Model}{A:Around}{E:Value->Shared->Prop}{s:Shared}{tg:Expr}{it:Addr}{u:Value}{o:Obj}{n:String}{vs:Array Value}{Q:Unit->Shared->Prop}(ho:s.heap.get? it=some o)(hc:o.cls=.type n)(hd:o.data=.fields vs)
    (hn:["enumerate","zip","dict_itemiterator","dict_reverseitemiterator","odict_iterator","itertools.zip_longest","itertools.pairwise"].contains n=false)(hQ:Q () s):wpAny M A (letOwnedTupleGo tg (.ref it) u) Q E s:=by
  unfold letOwnedTupleGo;cases tg <;> first
    | exact nF hQ
    | (cases u <;> first
        | exact nF hQ
        | (refine ni (wpAny_load ho ?_)
           rw[hc,hd];show wpAny M A (if (["enumerate","zip","dict_itemiterator","dict_reverseitemiterator","odict_iterator","itertools.zip_longest","itertools.pairwise"].contains n && vs[0]? == some (rawInt _))=true then _ else _) Q E s;rw[if_neg (by intro h;rw[hn,Bool.false_and] at h;cases h)];exact nF hQ))
def Itl(K:W.Frag)(a:Addr):It :=
 ⟨λi H=>∃ xs x,SqL K H a xs/\xs[i]?=some x,λi H x b=>b=H/\∀ xs,SqL K H a xs->xs[i]?=some x,λi H=>∃ xs,SqL K H a xs/\xs.length<=i⟩
def Itt(K:W.Frag)(a:Addr):It :=
 ⟨λi H=>∃ xs x,SqT K H a xs/\xs[i]?=some x,λi H x b=>b=H/\∀ xs,SqT K H a xs->xs[i]?=some x,λi H=>∃ xs,SqT K H a xs/\xs.length<=i⟩
def Itr(lo:Int)(n:Nat):It:=⟨λi _=>i<n,λi H x a=>a=H/\x=.int (lo+i),λi _=>n<=i⟩
def Ei{P:Program}{w:World}{K:W.Frag}{tg:Expr}(a it:Addr):Turn P w K tg (Itl K a) [it] it (λi h=>h.IsListIter it a i) where
 mem:=by simp
 obj:=λi h st b g=>by
  have e:b=it:=by simpa using g
  subst e;obtain⟨o,e,c,d⟩:=st;exact⟨o,e,λv z=>by rw[d] at z;cases z⟩
 keep:=λi h h' st k=>st.at λo e=>k it (by simp) o e
 item:=by
  intro X q n D J i f s σ H E I l st hg;subst q n D;obtain⟨xs,x,m,G⟩:=hg;obtain⟨A,C,p,hz⟩:=I.list m;obtain⟨u,M,O⟩:=C.get G;obtain⟨t,y,N,B,r,F⟩:=l it (by simp);refine wpAny_pyNext_list_item st p.isList (x:=u) (by simpa using M) λh' j S=>?_
  have R:Inv X f σ H { s with heap:=h' }:=I.turned (t':=s.toks) (λb o g e=>(S.2 b g).trans e) t y B r F;obtain⟨o,e,c,d⟩:=id j;exact⟨u,rfl,MF (s:={ s with heap:=h' }) e c d (by decide) ⟨x,H,R,O,⟨rfl,λys Q=>by rw[I.list_inj Q m];exact G⟩,j,λb g=>(l b g).1⟩⟩
 done:=by
  intro X q n D J i f s σ H E I l st hg;subst q n D;obtain⟨xs,m,G⟩:=hg;obtain⟨A,C,p,hz⟩:=I.list m;obtain⟨t,y,N,B,r,F⟩:=l it (by simp);have T:=C.length;exact wpAny_pyNext_list_end (I.ok.hd J) st p.isList (by simp;lia) λh' L=>⟨rfl,I.turned (t':=s.toks) (λb o g e=>L b o g e) t y B r F⟩
 self:=λ_ _ _ _ _ st h=>wpAny_pyIter_listiter st h
def Am{P:Program}{w:World}{K:W.Frag}{tg:Expr}(a it:Addr):Turn P w K tg (Itt K a) [it] it (λi h=>h.IsTupleIter it a i) where
 mem:=by simp
 obj:=λi h st b g=>by
  have e:b=it:=by simpa using g
  subst e;obtain⟨o,e,c,d⟩:=st;exact⟨o,e,λv z=>by rw[d] at z;cases z⟩
 keep:=λi h h' st k=>st.at λo e=>k it (by simp) o e
 item:=by
  intro X r q D J i f s σ H E I m st hg;subst r q D;obtain⟨xs,x,n,G⟩:=hg;obtain⟨j,C,p,hz⟩:=I.tuple n;obtain⟨u,M,O⟩:=C.get G;obtain⟨y,A,N,B,t,F⟩:=m it (by simp);refine wpAny_pyNext_tuple_item st (show s.heap.IsTuple a j.toArray from p) (x:=u) (by simpa using M) λh' l S=>?_
  have R:Inv X f σ H { s with heap:=h' }:=I.turned (t':=s.toks) (λb o g e=>(S.2 b g).trans e) y A B t F;obtain⟨o,e,c,d⟩:=id l;exact⟨u,rfl,MF (s:={ s with heap:=h' }) e c d (by decide) ⟨x,H,R,O,⟨rfl,λys Q=>by rw[I.tuple_inj Q n];exact G⟩,l,λb g=>(m b g).1⟩⟩
 done:=by
  intro X r q D J i f s σ H E I m st hg;subst r q D;obtain⟨xs,n,G⟩:=hg;obtain⟨j,C,p,hz⟩:=I.tuple n;obtain⟨y,A,N,B,t,F⟩:=m it (by simp);have T:=C.length;exact wpAny_pyNext_tuple_end (I.ok.hd J) st (show s.heap.IsTuple a j.toArray from p) (by simp;lia) λh' L=>⟨rfl,I.turned (t':=s.toks) (λb o g e=>L b o g e) y A B t F⟩
 self:=λ_ _ _ _ _ st h=>wpAny_pyIter_tupleiter st h
def Ai{P:Program}{w:World}{K:PySem.W.Frag}{tg:Expr}(it:Addr)(lo:Int)(n:Nat):Turn P w K tg (Itr lo n) [it] it (λi h=>IsRangeIter h it (lo+(i:Nat)*1) ((n:Int) - (i:Nat)) 1) where
 mem:=by simp
 obj:=λi h st b c=>by
  have e:b=it:=by simpa using c
  subst e;exact⟨_,st,λv z=>by
   have A:Data.fields _=Data.cell v:=z;cases A⟩
 keep:=λi h h' st k=>k it (by simp) _ st
 item:=by
  intro X j g u l i a s σ H E I f st hg;subst j g u;obtain⟨p,q,B,r,m,x⟩:=f it (by simp);have W:=Walks.range (prog:=X.prog) (w:=X.w) (I.ok.hd l) it lo 1 n;refine W.item i s _ _ hg st λv h' tk C d F=>?_
  obtain⟨t,rfl⟩:=C;have D:Inv X a σ H { s with heap:=h',toks:=tk }:=I.turned (λb o c e=>F b o (by simpa using c) e) p q r m x;refine⟨_,rfl,MF (s:={ s with heap:=h',toks:=tk }) (n:="range_iterator") d rfl rfl (by decide) ⟨.int (lo+i),H,D,⟨t,?_⟩,⟨rfl,rfl⟩,d,λb c=>(f b c).1⟩⟩;rw[Int.mul_one]
 done:=by
  intro X j g u l i a s σ H E I f st hg;subst j g u;obtain⟨p,q,B,r,m,x⟩:=f it (by simp);exact wpAny_pyNext_range_end (I.ok.hd l) st (by have:n<=i:=hg;lia) λh' y=>⟨rfl,I.turned (t':=s.toks) (λb o c e=>y b o c e) p q r m x⟩
 self:=λ_ _ _ _ _ st h=>wpAny_pyIter_rangeiter st h
section
variable {X:Cx}{tg:Expr}
def Pz(K:W.Frag)(tl:TE):TI:=λσ H R=>tl σ H λx b=>∃ a,x=.ref a/\(∃ xs,SqL K b a xs)/\R (Itl K a) b
def Sq(K:W.Frag)(tl:TE):TI:=λσ H R=>tl σ H λx b=>∃ a,x=.ref a/\(∃ xs,SqT K b a xs)/\R (Itt K a) b
def CW{l:Expr}{tl:TE}(hl:PE X l tl):PI X tg l (Pz X.K tl):=by
 intro c s σ H R I h;refine thn (hl c s σ H _ I h) λv f ⟨x,g,d,k,i⟩=>?_
 obtain⟨a,e,⟨xs,n⟩,q⟩:=i;subst e;cases k;obtain⟨j,r,p,hz⟩:=d.list n;refine wpAny_pyIter_list p.isList ?_;refine⟨f.heap.objs.size,[f.heap.objs.size],_,_,g,rfl,d.kept (t':=f.toks) λb o e=>n7 _ e,Ei a _,⟨_,Q0 _ rfl,rfl,rfl⟩,λb m=>?_,q⟩;have e:b=f.heap.objs.size:=by simpa using m
 subst e;exact d.fpOk (ql _) (d.hok.fresh (ql _))
def Ey{l:Expr}{tl:TE}(hl:PE X l tl):PI X tg l (Sq X.K tl):=by
 intro c s σ H R I h;refine thn (hl c s σ H _ I h) λv d ⟨x,i,f,k,j⟩=>?_
 obtain⟨a,e,⟨xs,n⟩,q⟩:=j;subst e;cases k;obtain⟨g,r,p,hz⟩:=f.tuple n;refine wpAny_pyIter_tuple (show d.heap.IsTuple a g.toArray from p) ?_;refine⟨d.heap.objs.size,[d.heap.objs.size],_,_,i,rfl,f.kept (t':=d.toks) λb o e=>n7 _ e,Am a _,⟨_,Q0 _ rfl,rfl,rfl⟩,λb m=>?_,q⟩;have e:b=d.heap.objs.size:=by simpa using m
 subst e;exact f.fpOk (ql _) (f.hok.fresh (ql _))
def Ji{pins:List (Addr × Obj)}{σ:St}{H:Hp}{s:Shared}{R:It->Hp->Prop}{E:Value->Shared->Prop}{lo hi:Int}{t u v:Tok}{tk:Nat}(I:Inv X pins σ H s)(h1:-(2^62)<=lo)(h2:lo<2^62)(h3:-(2^62)<=hi)(h4:hi<2^62)
  (q:R (Itr lo (hi - lo).toNat) H):wpAny (model X.prog X.w) X.A (pyIter (.ref s.heap.objs.size)) (PIE X pins σ tg R) E { s with heap:=s.heap.push { cls:=.type "range",data:=.fields #[.int lo t,.int hi u,.int 1 v] },toks:=tk }:=by
 refine wpAny_pyIter_range (IsRange.new ..) (small_one h1 h2 h3 h4) ?_;have a:Inv X pins σ H { s with heap:=s.heap.push { cls:=.type "range",data:=.fields #[.int lo t,.int hi u,.int 1 v] },toks:=tk }:=I.kept λb o e=>n7 _ e
 refine⟨(s.heap.push { cls:=.type "range",data:=.fields #[.int lo t,.int hi u,.int 1 v] }).objs.size,[(s.heap.push { cls:=.type "range",data:=.fields #[.int lo t,.int hi u,.int 1 v] }).objs.size],_,_,H,rfl,
  a.kept (t':=tk) λb o e=>n7 _ e,Ai _ lo (hi - lo).toNat,?_,λb d=>?_,q⟩
 .have c:lo+((0:Nat):Int)*1=lo:=by simp
  have f:(((hi - lo).toNat:Nat):Int) - ((0:Nat):Int)=Builtin.Range.rangeSize lo hi 1:=by rw[rangeSize_one];split <;> lia
  show IsRangeIter _ _ (lo+((0:Nat):Int)*1) ((((hi - lo).toNat:Nat):Int) - ((0:Nat):Int)) 1;rw[c,f];exact Q0 _ rfl
 .have e:b=(s.heap.push { cls:=.type "range",data:=.fields #[.int lo t,.int hi u,.int 1 v] }).objs.size:=by simpa using d
  subst e;exact a.fpOk (ql _) (a.hok.fresh (ql _))
def Ry(ta:TA):TI:=λσ H R=>ta σ H λb a=>∃ j:Int,b=[.int j]/\-(2^62)<=j/\j<2^62/\R (Itr 0 j.toNat) a
def cX{a:Expr}{ta:TA}{p pos:Pos}(hg:Gl X "range")(hm:X.mg "range" = none)(ha:PA X [a] ta)(hs:starEach [a] X.env=[(false,eval a X.env)]:=by rfl):PI X tg (.Call (.Name "range" p) [a] [] pos) (Ry ta):=by
 intro b s σ H R I h;refine Call_ (yF I hg hm boot_range (PyProof.Rows.callWith_type1 (thn (ha pos b s σ H _ I h) λn m ⟨l,k,d,f,c⟩=>?_) hs rfl));obtain⟨j,e,c,g,q⟩:=c;subst e;cases f with
 | cons r i =>
  cases i;obtain⟨t,rfl⟩:=r;exact call_range_1 (Ji d (by lia) (by lia) c g (by simpa using q))
def Tq(wi:TI)(g:TG)(tb:TS):TS:=λD σ H=>wi σ H λJ e=>∃ W:Nat->Nat->St->Hp->Prop,(∃ m,W 0 m σ e)/\∀ i m σ H,W i m σ H ->
 (J.stop i H/\D.nx σ H)\/(J.go i H/\∃ N:St->Hp->Prop,(∀ c a,N c a->∃ b,b<m/\W (i+1) b c a)/\∀ x a,J.yld i H x a->g x σ a λf d=>tb { D with nx:=N,ct:=N,bk:=D.nx } f d)
def nW(fp:List Addr)(h:Heap):List (Addr × Obj):=fp.filterMap λb=>(h.get? b).map λo=>(b,o)
def dH{fp:List Addr}{h:Heap}{b:Addr}{o:Obj}(hb:b∈fp)(e:h.get? b=some o):(b,o)∈nW fp h:=List.mem_filterMap.mpr ⟨b,hb,by rw[e];rfl⟩
def Gk{fp:List Addr}{h:Heap}{p:Addr × Obj}(hp:p∈nW fp h):p.1∈fp/\h.get? p.1=some p.2:=by
 obtain⟨b,a,e⟩:=List.mem_filterMap.mp hp;cases q:h.get? b with
 | none=>rw[q] at e;cases e
 | some o =>
  rw[q] at e;have c:(b,o)=p:=Xn e;subst c;exact⟨a,q⟩
def Inv.pinned{pins:List (Addr × Obj)}{σ:St}{H:Hp}{s:Shared}{fp:List Addr}(I:Inv X pins σ H s)(hf:∀ b∈fp,Aq X pins H b)(ho:∀ b∈fp,∃ o,s.heap.get? b=some o/\∀ v,o.data≠.cell v):Inv X (pins++nW fp s.heap) σ H s :=
 I.pins_of λp h=>(mem_append.mp h).elim (λz=>I.pin p (Xw _ z)) λz=>by
  obtain⟨c,e⟩:=Gk z;obtain⟨i,f,g,_⟩:=hf p.1 c;obtain⟨o,a,d⟩:=ho p.1 c;rw[e] at a;cases a;exact⟨e,i,f,g,d⟩
def Inv.unpinned{pins pl:List (Addr × Obj)}{σ:St}{H:Hp}{s:Shared}(I:Inv X (pins++pl) σ H s):Inv X pins σ H s:=I.pins_of λp a=>I.pin p (Xw _ (Xx _ a))
def dJ{iter:Expr}{body:List Stmt}{wi:TI}{g:TG}{tb:TS}{pos:Pos}(hp:PassesOwn (model X.prog X.w) X.A X.env X.xe)(hc:X.calm=true)(hi:PI X tg iter wi)(hg:PG X tg g)(p:PSs X body tb)
  (hs:∀ x,foldedSetIterable iter X.env x=pure x:=by intro _;rfl):PS X (.For tg iter body [] pos) (Tq wi g tb):=by
 intro a s σ H D I h;refine wpAny_For (thn (hi a s σ H _ I h) λv s1 h1=>thn h1 λa1 s2 h2=>?_) hs;obtain⟨it,E,Z,J,H2,e,I2,T,Q,U,W,⟨m0,w0⟩,K⟩:=h2;subst e;have q:∀ {t:Hp},(∀ b∈E,t b=none)->∀ b∈E,Aq X a t b:=λhn b p=>⟨hn b p,(U b p).2⟩
 refine codeAny_forLoop_any (λn s'=>∃ i F t,Inv X a F t s'/\Z i s'.heap/\(∀ b∈E,t b=none)/\W i n F t) ?_ m0 ⟨0,σ,H2,I2,Q,λb p=>(U b p).1,w0⟩;rintro n s3 ⟨i,G,M,V,L,B,w3⟩;rcases K i n G M w3 with⟨stop,qn⟩ | ⟨go,N,hN,step⟩
 .refine wpAny_passesOwn hp (thn (T.done X rfl rfl rfl hc i a s3 G M X.xe V (q B) L stop) λr s4 ⟨R,I4⟩=>?_);subst R;exact wpAny_execs_nil ⟨G,M,I4,qn⟩
 .refine wpAny_passesOwn hp (thn (T.item X rfl rfl rfl hc i a s3 G M X.xe V (q B) L go) λr s4 ⟨u,R,h4⟩=>?_);subst R;refine wpAny_passesOwn hp (thn h4 λ_ s5 ⟨x,Y,I5,r5,y5,z,O⟩=>?_);have P:=I5.pinned (q O) (T.obj _ _ z);refine wpAny_passesOwn hp (thn (hg _ s5 G Y x u _ P r5 (step x Y y5)) λ_ s6 ⟨σ6,H6,I6,q6⟩=>?_);refine wpAny_passesOwn hp (thn (p _ s6 σ6 H6 _ I6 q6) λf S y=>?_);have c:∀ {j:St}{k:Hp},Inv X (a++nW E s5.heap) j k S->N j k->∃ m,m<n/\∃ i F t,Inv X a F t S/\Z i S.heap/\(∀ b∈E,t b=none)/\W i m F t:=fun {j k} l C=>by
   obtain⟨m',hm,w7⟩:=hN j k C;refine⟨m',hm,i+1,j,k,l.unpinned,T.keep _ _ _ z λb p o e=>(l.pin (b,o) (Xw _ (Xw _ (dH p e)))).1,λb p=>?_,w7⟩;obtain⟨o,e,d⟩:=T.obj _ _ z b p;exact(l.pin (b,o) (Xw _ (Xw _ (dH p e)))).2.1
  cases f with
  | next=>obtain⟨j,k,l,C⟩:=y;exact c l C
  | cont=>obtain⟨j,k,l,C⟩:=y;exact c l C
  | brk=>obtain⟨j,k,l,y⟩:=y;exact⟨j,k,l.unpinned,y⟩
  | ret v=>obtain⟨x7,j,k,l,r7,y⟩:=y;exact⟨x7,j,k,l.unpinned,r7,y⟩
end
def jh{K:PySem.W.Frag}{a:Addr}{xs:List V}{g:TG}{tb:TS}{D:Ends}{σ:St}{H:Hp}(Pv:Nat->St->Hp->Prop)(h0:Pv 0 σ H)(hl:∀ i σ H,i<=xs.length->Pv i σ H->SqL K H a xs)
  (hs:∀ i x σ H,xs[i]?=some x->Pv i σ H->g x σ H λd c=>tb { D with nx:=Pv (i+1),ct:=Pv (i+1),bk:=D.nx } d c)(hd:∀ σ H,Pv xs.length σ H->D.nx σ H) :
  ∃ W:Nat->Nat->St->Hp->Prop,(∃ m,W 0 m σ H)/\∀ i m σ H,W i m σ H ->
   ((Itl K a).stop i H/\D.nx σ H)\/((Itl K a).go i H/\∃ N:St->Hp->Prop,(∀ f b,N f b->∃ h,h<m/\W (i+1) h f b)/\∀ x b,(Itl K a).yld i H x b->g x σ b λd c=>tb { D with nx:=N,ct:=N,bk:=D.nx } d c):=by
 refine⟨λi m σ H=>m=xs.length - i/\i<=xs.length/\Pv i σ H,⟨xs.length,by simp,Nat.zero_le _,h0⟩,?_⟩;rintro i m σ H ⟨rfl,k,p⟩;have q:=hl i σ H k p;by_cases hlt:i<xs.length
 .refine .inr ⟨⟨xs,xs[i],q,by simp[hlt]⟩,Pv (i+1),λf b j=>⟨xs.length - (i+1),by lia,rfl,hlt,j⟩,λx b y=>?_⟩;obtain⟨e,y⟩:=y;subst e;exact hs i x σ _ (y xs q) p
 .have e:i=xs.length:=by lia
  subst e;exact .inl ⟨⟨xs,q,ql _⟩,hd σ H p⟩
def iQ{K:PySem.W.Frag}{a:Addr}{xs:List V}{g:TG}{tb:TS}{D:Ends}{σ:St}{H:Hp}(Pv:Nat->St->Hp->Prop)(h0:Pv 0 σ H)(hl:∀ i σ H,i<=xs.length->Pv i σ H->SqT K H a xs)
  (hs:∀ i x σ H,xs[i]?=some x->Pv i σ H->g x σ H λd c=>tb { D with nx:=Pv (i+1),ct:=Pv (i+1),bk:=D.nx } d c)(hd:∀ σ H,Pv xs.length σ H->D.nx σ H) :
  ∃ W:Nat->Nat->St->Hp->Prop,(∃ m,W 0 m σ H)/\∀ i m σ H,W i m σ H ->
   ((Itt K a).stop i H/\D.nx σ H)\/((Itt K a).go i H/\∃ N:St->Hp->Prop,(∀ f b,N f b->∃ h,h<m/\W (i+1) h f b)/\∀ x b,(Itt K a).yld i H x b->g x σ b λd c=>tb { D with nx:=N,ct:=N,bk:=D.nx } d c):=by
 refine⟨λi m σ H=>m=xs.length - i/\i<=xs.length/\Pv i σ H,⟨xs.length,by simp,Nat.zero_le _,h0⟩,?_⟩;rintro i m σ H ⟨rfl,k,p⟩;have q:=hl i σ H k p;by_cases hlt:i<xs.length
 .refine .inr ⟨⟨xs,xs[i],q,by simp[hlt]⟩,Pv (i+1),λf b j=>⟨xs.length - (i+1),by lia,rfl,hlt,j⟩,λx b y=>?_⟩;obtain⟨e,y⟩:=y;subst e;exact hs i x σ _ (y xs q) p
 .have e:i=xs.length:=by lia
  subst e;exact .inl ⟨⟨xs,q,ql _⟩,hd σ H p⟩
def iJ{lo:Int}{n:Nat}{g:TG}{tb:TS}{D:Ends}{σ:St}{H:Hp}(Pv:Nat->St->Hp->Prop)(h0:Pv 0 σ H)
  (hs:∀ i σ H,i<n->Pv i σ H->g (.int (lo+i)) σ H λc b=>tb { D with nx:=Pv (i+1),ct:=Pv (i+1),bk:=D.nx } c b)(hd:∀ σ H,Pv n σ H->D.nx σ H) :
  ∃ W:Nat->Nat->St->Hp->Prop,(∃ m,W 0 m σ H)/\∀ i m σ H,W i m σ H ->
   ((Itr lo n).stop i H/\D.nx σ H)\/((Itr lo n).go i H/\∃ N:St->Hp->Prop,(∀ d a,N d a->∃ f,f<m/\W (i+1) f d a)/\∀ x a,(Itr lo n).yld i H x a->g x σ a λc b=>tb { D with nx:=N,ct:=N,bk:=D.nx } c b):=by
 refine⟨λi m σ H=>m=n - i/\i<=n/\Pv i σ H,⟨n,by simp,Nat.zero_le _,h0⟩,?_⟩;rintro i m σ H ⟨rfl,j,p⟩;by_cases hlt:i<n
 .refine .inr ⟨hlt,Pv (i+1),λd a h=>⟨n - (i+1),by lia,rfl,hlt,h⟩,λx a y=>?_⟩;obtain⟨e,y⟩:=y;subst e y;exact hs i σ _ hlt p
 .have e:i=n:=by lia
  subst e;exact .inl ⟨ql _,hd σ H p⟩
abbrev R2:=V->V->Hp->VK->Prop
def OpR(X:Cx)(f:Value->Value->Sem Value)(r:R2):Prop :=
 ∀(pins:List (Addr × Obj))(s:Shared)(σ:St)(H:Hp)(x y:V)(v u:Value)(Q:VK),Inv X pins σ H s->RelV x v->RelV y u->r x y H Q ->
  wpAny (model X.prog X.w) X.A (f v u) (EP X pins σ Q) X.xe s
def d7(X:Cx)(f:Value)(r:List V->Hp->VK->Prop):Prop :=
 ∀(pins:List (Addr × Obj))(s:Shared)(σ:St)(H:Hp)(xs:List V)(us:List Value)(Q:VK),Inv X pins σ H s->Vals xs us->r xs H Q ->
  wpAny (model X.prog X.w) X.A (call f us) (EP X pins σ Q) X.xe s
def tOp(r:R2)(ta tb:TE):TE:=λσ H Q=>ta σ H λx b=>tb σ b λy a=>r x y a Q
def rI(C:Int->Int->Prop)(g:Int->Int->V):R2:=λx y H Q=>∃ i j,x=.int i/\y=.int j/\C i j/\Q (g i j) H
def rI0(g:Int->Int->V):R2:=λx y H Q=>∃ i j,x=.int i/\y=.int j/\Q (g i j) H
section
variable {X:Cx}{a b c:Expr}{ta tb tc:TE}{pos:Pos}
def R3(ha:PE X a ta)(hb:PE X b tb){pins:List (Addr × Obj)}{s:Shared}{σ:St}{H:Hp}{R:V->V->Hp->Prop}(I:Inv X pins σ H s)
  (h:ta σ H λx e=>tb σ e λy c=>R x y c){Q:Value->Shared->Prop}{f:Value->Value->Sem Value}
  (hf:∀ v u d x y c,Inv X pins σ c d->RelV x v->RelV y u->R x y c->wpAny (model X.prog X.w) X.A (f v u) Q X.xe d) :
  wpAny (model X.prog X.w) X.A (eval a X.env) (λv k=>wpAny (model X.prog X.w) X.A (eval b X.env) (λu p=>wpAny (model X.prog X.w) X.A (f v u) Q X.xe p) X.xe k) X.xe s:=by
 refine thn (ha pins s σ H _ I h) λv o ⟨x,e,j,l,g⟩=>?_
 refine thn (hb pins o σ e _ j g) λu d ⟨y,c,n,i,m⟩=>?_
 exact hf v u d x y c n l i m
def bB{op:Operator}{r:R2}(ho:OpR X (binaryOp op) r)(ha:PE X a ta)(hb:PE X b tb):PE X (.BinOp a op b pos) (tOp r ta tb):=by
 intro c s σ H Q I h;exact wpAny_BinOp (R3 ha hb I h λv u f x y d g i e q=>ho c f σ d x y v u Q g i e q)
def opI{f:Value->Value->Sem Value}{C:Int->Int->Prop}{g:Int->Int->Int}
  (rule:∀(i j:Int)(t u:Tok)(s:Shared)(Q:Value->Shared->Prop)(E:Value->Shared->Prop),C i j->Q (.int (g i j) s.toks) { s with toks:=s.toks+1 }->wpAny (model X.prog X.w) X.A (f (.int i t) (.int j u)) Q E s) :
  OpR X f (rI C λi j=>.int (g i j)):=by
 intro a s σ H x y v u Q I d c h;obtain⟨i,j,rfl,rfl,b,q⟩:=h;obtain⟨t,rfl⟩:=d;obtain⟨t',rfl⟩:=c;exact rule i j t t' s _ _ b ⟨.int (g i j),H,I.tok _,⟨_,rfl⟩,q⟩
def Sg{f:Value->Value->Sem Value}{g:Int->Int->Int}
  (rule:∀(i j:Int)(t u:Tok)(s:Shared)(Q:Value->Shared->Prop)(E:Value->Shared->Prop),Q (.int (g i j) s.toks) { s with toks:=s.toks+1 }->wpAny (model X.prog X.w) X.A (f (.int i t) (.int j u)) Q E s) :
  OpR X f (rI0 λi j=>.int (g i j)):=by
 intro a s σ H x y v u Q I c b h;obtain⟨i,j,rfl,rfl,q⟩:=h;obtain⟨t,rfl⟩:=c;obtain⟨t',rfl⟩:=b;exact rule i j t t' s _ _ ⟨.int (g i j),H,I.tok _,⟨_,rfl⟩,q⟩
def Ri{f:Value->Value->Sem Value}{g:Int->Int->Bool}
  (rule:∀(i j:Int)(t u:Tok)(s:Shared)(Q:Value->Shared->Prop)(E:Value->Shared->Prop),Q (.bool (g i j)) s->wpAny (model X.prog X.w) X.A (f (.int i t) (.int j u)) Q E s) :
  OpR X f (rI0 λi j=>.bl (g i j)):=by
 intro a s σ H x y v u Q I c b h;obtain⟨i,j,rfl,rfl,q⟩:=h;obtain⟨t,rfl⟩:=c;obtain⟨t',rfl⟩:=b;exact rule i j t t' s _ _ ⟨.bl (g i j),H,I,rfl,q⟩
def Tg(i j:Int):Prop:=0<=j/\j<=1000000/\i.natAbs<2^64
def RP(i j:Int):Prop:=(-(2^64)<i/\i<2^64)\/(-(2^64)<j/\j<2^64)
def RP.ok{i j:Int}(h:RP i j):IntMulOk i j:=by
 rcases h with⟨a,b⟩ | ⟨a,b⟩
 .exact .of_left (intBits_le_64 a b)
 .exact .of_right (intBits_le_64 a b)
def gk:OpR X (binaryOp .Add) (rI0 λi j=>.int (i+j)):=Sg λ_ _ _ _ _ _ _ q=>add_int q
def CK:OpR X (binaryOp .Sub) (rI0 λi j=>.int (i - j)):=Sg λ_ _ _ _ _ _ _ q=>sub_int q
def zJ:OpR X (binaryOp .Mult) (rI RP λi j=>.int (i*j)):=opI λ_ _ _ _ _ _ _ a q=>mul_int q a.ok
def gW:OpR X (binaryOp .Mod) (rI (λ_ j=>0<j) λi j=>.int (i%j)):=opI λi j _ _ _ _ _ a q=>by
 have b:(0:Int)<j:=a;exact mod_int' (by lia) (by rw[Int.fmod_eq_emod_of_nonneg i (by lia)];exact q)
def JZ:OpR X (binaryOp .Pow) (rI Tg λi j=>.int (i^j.toNat)):=opI λ_ _ _ _ _ _ _ a q=>pow_int_small a.1 a.2.1 a.2.2 q
end
def Sy:V->V->Bool
 | .non,.non=>true | .non,.int _=>true | .int _,.non=>true | .non,.bl _=>true | .bl _,.non=>true | .non,.str _=>true | .str _,.non=>true
 | .int _,.int _=>true | .bl _,.bl _=>true | .str _,.str _=>true | .byt _,.byt _=>true
 | .int _,.str _=>true | .str _,.int _=>true | .bl _,.str _=>true | .str _,.bl _=>true
 | _,_=>false
def rEq:R2:=λx y H Q=>Sy x y=true/\Q (.bl (decide (x=y))) H
def rNe:R2:=λx y H Q=>Sy x y=true/\Q (.bl (!decide (x=y))) H
def FT{i j:Int}:decide (V.int i=V.int j)=(i == j):=by
 rw[Bool.eq_iff_iff];simp
def Jt{i j:Bool}:decide (V.bl i=V.bl j)=(i == j):=by
 rw[Bool.eq_iff_iff];simp
def Gg{i j:Str}:decide (V.str i=V.str j)=(i == j):=by
 rw[Bool.eq_iff_iff];simp
def Ew{i j:Array UInt8}:decide (V.byt i=V.byt j)=(i.toList == j.toList):=by
 rw[Bool.eq_iff_iff];cases i;cases j;simp
section
variable {X:Cx}{a b c:Expr}{ta tb tc:TE}{pos:Pos}
def bV{pins:List (Addr × Obj)}{σ:St}{H:Hp}{s:Shared}{Q:VK}{k k':Bool}(I:Inv X pins σ H s)(q:Q (.bl k) H)(e:k=k'):EP X pins σ Q (.bool k') s:=by
 subst e;exact⟨.bl k,H,I,rfl,q⟩
def gJ:OpR X (compareOp .Eq) rEq:=by
 intro d s σ H x y v u Q I c a h;obtain⟨b,q⟩:=h;cases x with
 | non =>
  cases c;cases y with
  | non=>cases a;exact PySem.EqNone.eq_none_none (bV I q (by simp))
  | bl j=>cases a;exact PySem.EqNone.eq_none_bool (bV I q (by simp))
  | int j=>obtain⟨t',rfl⟩:=a;exact PySem.EqNone.eq_none_int (bV I q (by simp))
  | str j=>obtain⟨t',rfl⟩:=a;exact PySem.EqNone.eq_none_str (bV I q (by simp))
  | _=>exact absurd (show false=true from b) TF
 | bl i =>
  cases c;cases y with
  | non=>cases a;exact PySem.EqNone.eq_bool_none (bV I q (by simp))
  | bl j=>cases a;exact eq_bool (bV I q Jt)
  | str j=>obtain⟨t',rfl⟩:=a;exact PySem.EqMixed.eq_bool_str (bV I q (by simp))
  | _=>exact absurd (show false=true from b) TF
 | int i =>
  obtain⟨t,rfl⟩:=c;cases y with
  | non=>cases a;exact PySem.EqNone.eq_int_none (bV I q (by simp))
  | int j=>obtain⟨t',rfl⟩:=a;exact eq_int (bV I q FT)
  | str j=>obtain⟨t',rfl⟩:=a;exact PySem.EqMixed.eq_int_str (bV I q (by simp))
  | _=>exact absurd (show false=true from b) TF
 | str i =>
  obtain⟨t,rfl⟩:=c;cases y with
  | non=>cases a;exact PySem.EqNone.eq_str_none (bV I q (by simp))
  | bl j=>cases a;exact PySem.EqMixed.eq_str_bool (bV I q (by simp))
  | int j=>obtain⟨t',rfl⟩:=a;exact PySem.EqMixed.eq_str_int (bV I q (by simp))
  | str j=>obtain⟨t',rfl⟩:=a;exact eq_str (bV I q Gg)
  | _=>exact absurd (show false=true from b) TF
 | byt i =>
  obtain⟨t,rfl⟩:=c;cases y with
  | byt j=>obtain⟨t',rfl⟩:=a;exact W.eq_bytes (bV I q Ew)
  | _=>exact absurd (show false=true from b) TF
 | _=>cases y <;> exact absurd (show false=true from b) TF
def Fp:OpR X (compareOp .NotEq) rNe:=by
 intro d s σ H x y v u Q I c a h;obtain⟨b,q⟩:=h;cases x with
 | non =>
  cases c;cases y with
  | non=>cases a;exact PySem.EqNone.ne_none_none (bV I q (by simp))
  | bl j=>cases a;exact PySem.EqNone.ne_none_bool (bV I q (by simp))
  | int j=>obtain⟨t',rfl⟩:=a;exact PySem.EqNone.ne_none_int (bV I q (by simp))
  | str j=>obtain⟨t',rfl⟩:=a;exact PySem.EqNone.ne_none_str (bV I q (by simp))
  | _=>exact absurd (show false=true from b) TF
 | bl i =>
  cases c;cases y with
  | non=>cases a;exact PySem.EqNone.ne_bool_none (bV I q (by simp))
  | bl j=>cases a;exact ne_bool (bV I q (congrArg not Jt))
  | str j=>obtain⟨t',rfl⟩:=a;exact PySem.EqMixed.ne_bool_str (bV I q (by simp))
  | _=>exact absurd (show false=true from b) TF
 | int i =>
  obtain⟨t,rfl⟩:=c;cases y with
  | non=>cases a;exact PySem.EqNone.ne_int_none (bV I q (by simp))
  | int j=>obtain⟨t',rfl⟩:=a;exact ne_int (bV I q (congrArg not FT))
  | str j=>obtain⟨t',rfl⟩:=a;exact PySem.EqMixed.ne_int_str (bV I q (by simp))
  | _=>exact absurd (show false=true from b) TF
 | str i =>
  obtain⟨t,rfl⟩:=c;cases y with
  | non=>cases a;exact PySem.EqNone.ne_str_none (bV I q (by simp))
  | bl j=>cases a;exact PySem.EqMixed.ne_str_bool (bV I q (by simp))
  | int j=>obtain⟨t',rfl⟩:=a;exact PySem.EqMixed.ne_str_int (bV I q (by simp))
  | str j=>obtain⟨t',rfl⟩:=a;exact ne_str (bV I q (congrArg not Gg))
  | _=>exact absurd (show false=true from b) TF
 | byt i =>
  obtain⟨t,rfl⟩:=c;cases y with
  | byt j=>obtain⟨t',rfl⟩:=a;exact W.ne_bytes (bV I q (congrArg not Ew))
  | _=>exact absurd (show false=true from b) TF
 | _=>cases y <;> exact absurd (show false=true from b) TF
def Rj:OpR X (compareOp .Lt) (rI0 λi j=>.bl (decide (i<j))):=Ri λ_ _ _ _ _ _ _ q=>lt_int q
def Oe:OpR X (compareOp .Gt) (rI0 λi j=>.bl (decide (j<i))):=Ri λ_ _ _ _ _ _ _ q=>gt_int q
def Rx:OpR X (compareOp .GtE) (rI0 λi j=>.bl (decide (j<=i))):=Ri λ_ _ _ _ _ _ _ q=>ge_int q
def qR:OpR X (compareOp .Is) (λx y H Q=>y=.non/\Q (.bl (decide (x=.non))) H):=by
 intro a s σ H x y v u Q I b c h;obtain⟨rfl,q⟩:=h;cases c;refine is_none_gen (bV I q ?_);cases x <;> first
  | (cases b;rfl)
  | (obtain⟨t,rfl⟩:=b;rfl)
def qX:OpR X (compareOp .IsNot) (λx y H Q=>y=.non/\Q (.bl (!decide (x=.non))) H):=by
 intro a s σ H x y v u Q I b c h;obtain⟨rfl,q⟩:=h;cases c;refine isnot_none_gen (bV I q ?_);cases x <;> first
  | (cases b;rfl)
  | (obtain⟨t,rfl⟩:=b;rfl)
def bC(b:Expr){op:CmpOp}(h:op≠.In:=by decide)(h2:op≠.NotIn:=by decide):behindInMarks op b=false:=by
 have a:(op == CmpOp.In)=false:=by cases op <;> first | rfl | exact absurd rfl h
 have c:(op == CmpOp.NotIn)=false:=by cases op <;> first | rfl | exact absurd rfl h2
 cases b <;> simp[behindInMarks,a,c]
def eU{op:CmpOp}{r:R2}(ho:OpR X (compareOp op) r)(ha:PE X a ta)(hb:PE X b tb)(hm:behindInMarks op b=false):PE X (.Compare a [op] [b] pos) (tOp r ta tb):=by
 intro c s σ H Q I h;exact wpAny_Compare1 (R3 ha hb I h λv u f x y d g i e q=>ho c f σ d x y v u Q g i e q) hm
def RQ(t:TE):TT:=λσ H Q=>t σ H λx a=>∃ k,x=.bl k/\Q k a
def aQ{op:CmpOp}{r:R2}(ho:OpR X (compareOp op) r)(ha:PE X a ta)(hb:PE X b tb)(hm:behindInMarks op b=false):PT X (.Compare a [op] [b] pos) (RQ (tOp r ta tb)):=by
 intro d s σ H Q I h;refine wpAny_isTrue_Compare1 (thn (ha d s σ H _ I h) λv A ⟨x,g,l,n,i⟩=>thn (hb d A σ g _ l i) λu q ⟨y,f,w,j,o⟩ =>
  thn (ho d q σ f x y v u _ w n j o) λc C ⟨z,t,B,m,k,e,p⟩=>?_) hm
 subst e;cases m;exact wpAny_truthy_bool ⟨t,B,p⟩
def tO:(sizeLine:Nat)<2^63:=by rw[sizeLine_eq];decide
def d9:OpR X (binaryOp .Add) (λx y H Q=>∃ i j,x=.str i/\y=.str j/\i.length+j.length<=sizeLine/\Q (.str (i++j)) H):=by
 intro a s σ H x y v u Q I c b h;obtain⟨i,j,rfl,rfl,hz,q⟩:=h;obtain⟨t,rfl⟩:=c;obtain⟨t',rfl⟩:=b;exact add_str (λt' tk=>⟨.str (i++j),H,I.tok _,⟨_,rfl⟩,q⟩) hz
def vals1{x:V}{us:List Value}(r:Vals [x] us):∃ u,us=[u]/\RelV x u:=by
 cases r with
 | cons b a=>cases a;exact⟨_,rfl,b⟩
def vals2{x y:V}{us:List Value}(r:Vals [x,y] us):∃ u a,us=[u,a]/\RelV x u/\RelV y a:=by
 cases r with
 | cons b d =>
  cases d with
  | cons e c=>cases c;exact⟨_,_,rfl,b,e⟩
def tU(hc:X.calm=true):d7 X (.builtin "min") (λxs H Q=>∃ i j,xs=[.int i,.int j]/\Q (.int (if j<i then j else i)) H):=by
 intro a s σ H xs c Q I r h;obtain⟨i,j,rfl,q⟩:=h;obtain⟨u,b,rfl,⟨t,rfl⟩,⟨t',rfl⟩⟩:=vals2 r;refine min_two_ints (I.ok.hd hc) λh' tk k=>⟨_,H,I.kept k,?_,q⟩
 by_cases hj:j<i
 .rw[if_pos hj,if_pos hj];exact⟨_,rfl⟩
 .rw[if_neg hj,if_neg hj];exact⟨_,rfl⟩
def jV:d7 X (.type "int") (λxs H Q=>(∃ i,xs=[.int i]/\Q (.int i) H)\/∃ k,xs=[.bl k]/\Q (.int (if k then 1 else 0)) H):=by
 intro a s σ H xs c Q I r h;rcases h with⟨i,rfl,q⟩ | ⟨k,rfl,q⟩
 .obtain⟨u,rfl,t,rfl⟩:=vals1 r;exact call_int_int ⟨.int i,H,I,⟨_,rfl⟩,q⟩
 .obtain⟨u,rfl,b⟩:=vals1 r;cases b;exact call_int_bool ⟨.int (if k then 1 else 0),H,I.tok _,⟨_,rfl⟩,q⟩
end
structure Rn(h:Heap)(x dx C:Addr)(mA:Str->Option Value):Prop where
 obj:h.get? x=some (W.instObj C dx)
 ns:h.Ns1 dx mA
 ne:dx≠x
def Bs{h:Heap}{dx:Addr}{mA:Str->Option Value}(n:h.Ns1 dx mA):∃ c,h.get? dx=some c/\∀ name,W.lookIn name c=some (mA name):=by
 obtain⟨o,es,ep,j,hd,d,_,i⟩:=n;refine⟨o,j,λname=>?_⟩;have e:=i name;unfold nsFind findBy at e;rw[← Array.find?_toList] at e;unfold W.lookIn;rw[hd];dsimp only;split
 .rename_i y q;rw[q] at e;exact congrArg some e
 .rename_i q;rw[q] at e;have a:es.toList.any (·.refKey)=false:=by
   rw[any_eq_false];intro y g;obtain⟨z,t,b⟩:=d y (Array.mem_toList_iff.mp g);simp[DictEntry.refKey,b]
  have f:¬ es.toList.any (·.refKey)=true:=by rw[a];exact TF
  rw[if_neg f];exact congrArg some e
def Rn.look{h:Heap}{x dx C:Addr}{mA:Str->Option Value}(I:Rn h x dx C mA):∃ a,W.InstAt h x (W.instObj C dx) C (some a)/\∀ name,W.lookIn name a=some (mA name) :=
 let ⟨a,ho,hl⟩:=Bs I.ns
 ⟨a,⟨I.obj,rfl,rfl,ho⟩,hl⟩
section
variable {prog:Program}{w:World}{A:Around}{E:Value->Shared->Prop}{s:Shared}{K:W.Frag}{x dx C f:Addr}{mA:Str->Option Value}{name:Str}{v:Value}
end
def CG.some_of{v:V}{o:Option Value}(r:CG (some v) o):∃ u,o=some u/\RelV v u:=by
 cases o with
 | none=>exact(show False from r).elim
 | some u=>exact⟨u,rfl,r⟩
section
variable {P:Program}{w:World}{H H':Hp}{h h':Heap}{a C dx:Addr}{fs fs':List (Str × V)}
def Mr(hok:HOk P w H h)(e:H a=some (.ins C dx fs)):∃ b,Rn h a dx C b/\(∀ f,CG (fs.lookup f) (b f))/\PySem.Within b (fs.map (·.1))/\fs.length<=1000/\H dx=some (.own a):=by
 obtain⟨d,z,ne,ob,b,n,r,q⟩:=(show cW P w H h a (.ins C dx fs) from hok a _ e)
 exact⟨b,⟨ob,n,ne⟩,r,q,z,d⟩
end
structure Cls(K:W.Frag)(C:Addr):Prop where
 pg:W.plainGet K C Str.empty=true
 hd:W.hasDictIn K C=true
 po:W.plainOver K C=true
 sa:W.findIn K (.ref C) "__setattr__" = some (some (.builtin "object.__setattr__"))
def Cls.get{K:W.Frag}{C:Addr}(c:Cls K C)(f:Str):W.plainGet K C f=true:=c.pg
section
variable {X:Cx}{pins:List (Addr × Obj)}{σ:St}{H:Hp}{s:Shared}{a C dx:Addr}{fs:List (Str × V)}{f:Str}{v:V}{A:Around}{E:Value->Shared->Prop}
variable {Q:Value->Shared->Prop}{c:Value}{b:Bool}
inductive Av(K:W.Frag)(H:Hp):V->Value->Prop where
 | non:Av K H .non (.type "NoneType")
 | bl (x:Bool):Av K H (.bl x) (.type "bool")
 | int (i:Int):Av K H (.int i) (.type "int")
 | str (x:Str):Av K H (.str x) (.type "str")
 | flt (x:UInt64):Av K H (.flt x) (.type "float")
 | lst {a:Addr}{xs:List V} (e:H a=some (.lst xs)):Av K H (.ref a) (.type "list")
 | frz {a:Addr}{o:Obj}{xs:List V} (e:H a=some (.frz o (.lst xs))):Av K H (.ref a) (.type "list")
 | tup {a:Addr}{xs:List V} (e:H a=some (.tup xs)):Av K H (.ref a) (.type "tuple")
 | dK {a:Addr}{kvs:List (Key × V)} (e:H a=some (.dK kvs)):Av K H (.ref a) (.type "dict")
 | dT {a:Addr}{kvs:List (List Key × V)} (e:H a=some (.dT kvs)):Av K H (.ref a) (.type "dict")
 | ins {a C dx:Addr}{fs:List (Str × V)} (e:H a=some (.ins C dx fs)) (cl:Cls K C) (ha:W.findIn K (.ref C) "__class__" = some (some (.builtin "object.__class__")))
   (hn:W.specialIn K (.builtin "object.__class__") "__get__" = some (some (.builtin "getset_descriptor.__get__"))) (htk:W.takesIn K (.builtin "object.__class__")=some true)
   (hm:W.mroIn K C (.type "object")=some true):Av K H (.ref a) (.ref C)
def Cv{x:V}{u t:Value}(I:Inv X pins σ H s)(rx:RelV x u)(ty:Av X.K H x t)(e:W.kitOne X.K t c=some b)(h:∀ tk,Q (.bool b) { s with toks:=tk }) :
  wpAny (model X.prog X.w) A (call (.builtin "isinstance") [u,c]) Q E s:=by
 cases ty with
 | non=>cases(show u=Value.none from rx);exact W.kia_one W.kitx_none I.kIn True.intro e (λz=>nomatch z) h
 | bl y=>cases(show u=Value.bool y from rx);exact W.kia_one W.kitx_bool I.kIn True.intro e (λz=>nomatch z) h
 | int i=>obtain⟨t,q⟩:=(show ∃ t,u=Value.int i t from rx);cases q;exact W.kia_one W.kitx_int I.kIn True.intro e (λz=>nomatch z) h
 | str y=>obtain⟨t,q⟩:=(show ∃ t,u=Value.str y t from rx);cases q;exact W.kia_one W.kitx_str I.kIn True.intro e (λz=>nomatch z) h
 | flt y=>obtain⟨t,q⟩:=(show ∃ t,u=Value.float y t from rx);cases q;exact W.kia_one W.kitx_float I.kIn True.intro e (λz=>nomatch z) h
 | @lst a xs ea =>
  cases(show u=Value.ref a from rx);obtain⟨_,_,n,_,d⟩:=(show cW X.prog X.w H s.heap a (.lst xs) from I.hok a _ ea)
  exact W.kia_one W.kitx_list I.kIn ⟨_,d,rfl⟩ e (λz=>nomatch z) h
 | @frz a ob xs ea =>
  cases(show u=Value.ref a from rx);obtain⟨_,_,_,n,_,d⟩:=(show cW X.prog X.w H s.heap a (.frz ob (.lst xs)) from I.hok a _ ea)
  exact W.kia_one W.kitx_list I.kIn ⟨_,d,rfl⟩ e (λz=>nomatch z) h
 | @tup a xs ea =>
  cases(show u=Value.ref a from rx);obtain⟨_,_,_,p⟩:=(show cW X.prog X.w H s.heap a (.tup xs) from I.hok a _ ea)
  obtain⟨o,d,f,_⟩:=p;exact W.kia_one W.kitx_tuple I.kIn ⟨o,d,f⟩ e (λz=>nomatch z) h
 | @dK a kvs ea =>
  cases(show u=Value.ref a from rx);obtain⟨_,_,g,_,p⟩:=(show cW X.prog X.w H s.heap a (.dK kvs) from I.hok a _ ea)
  obtain⟨o,es,ep,d,f,_⟩:=p;exact W.kia_one W.kitx_dict I.kIn ⟨o,d,f.1⟩ e (λz=>nomatch z) h
 | @dT a kvs ea =>
  cases(show u=Value.ref a from rx);obtain⟨_,_,xs,_,o,es,ep,d,f,_⟩:=(show cW X.prog X.w H s.heap a (.dT kvs) from I.hok a _ ea)
  exact W.kia_one W.kitx_dict I.kIn ⟨o,d,f.1⟩ e (λz=>nomatch z) h
 | @ins a C dx fs ea cl ha hn htk hm =>
  cases(show u=Value.ref a from rx);obtain⟨k,O,_⟩:=Mr I.hok ea;obtain⟨j,J,_⟩:=O.look;exact W.kia_one (W.kitx_own (cl.get _) cl.hd ha hn htk hm) I.kIn J e (λz=>nomatch z) h
end
structure lZ(k:Nat)(A:Around):Prop where
 hd:A.handled=none
 dp:A.depth+3*k+5<recursionLimit
 un:A.units+16*k+200<cLine
def lZ.mono{j k:Nat}{A:Around}(r:lZ k A)(h:j<=k):lZ j A:=⟨r.hd,by have:=r.dp;lia,by have:=r.un;lia⟩
def lZ.deeper{k:Nat}{A:Around}(r:lZ (k+1) A)(env:Env):lZ k (A.deeper env) :=
 ⟨r.hd,by have:=r.dp;show A.depth+1+3*k+5<_;lia,by have:=r.un;show A.units+3+16*k+200<_;lia⟩
def lZ.depth{k:Nat}{A:Around}(r:lZ k A):A.depth<recursionLimit:=by have:=r.dp;lia
def lZ.units{k:Nat}{A:Around}(r:lZ k A):A.units+64<cLine:=by have:=r.un;lia
def lZ.units0{k:Nat}{A:Around}(r:lZ k A):A.units<cLine:=by have:=r.un;lia
def RL:TA:=λ_ H Q=>Q [] H
def Bt(ta:TE)(tr:TA):TA:=λσ H Q=>ta σ H λx b=>tr σ b λxs a=>Q (x::xs) a
section
variable {X:Cx}{e:Expr}{es:List Expr}{te:TE}{t:TA}{pos:Pos}
def aq:PA X [] RL:=λ_ _ _ _ H Q I h=>Calls.spliced_nil ⟨[],H,I,.nil,h⟩
def aj(ha:PE X e te)(hr:PA X es t)(hs:starEach (e::es) X.env=(false,eval e X.env)::starEach es X.env:=by rfl):PA X (e::es) (Bt te t):=by
 intro pos a s σ H Q I h;rw[hs];show wpAny _ _ (spliced ((false,eval e X.env)::backTo pos (starEach es X.env))) _ _ s;refine Calls.spliced_cons (thn (ha a s σ H _ I h) λu l ⟨x,c,g,i,d⟩=>?_);exact thn (hr pos a l σ c _ g d) λn m ⟨xs,b,k,f,j⟩=>⟨x::xs,b,k,.cons i f,j⟩
def Ui(t:TA):TE:=λσ H Q=>t σ H λxs a=>xs.length<=sizeLine/\∀ p,a p=none->Q (.ref p) (upd a p (.tup xs))
def R6(t:TA):TE:=λσ H Q=>t σ H λxs a=>xs.length<=sizeLine/\∀ p,a p=none->Q (.ref p) (upd a p (.lst xs))
def bQ{x1}(h:PA X es t):PE X (.Tuple es x1 pos) (Ui t):=by
 intro a s σ H Q I j;refine wpAny_Tuple_spliced (thn (h pos a s σ H _ I j) λg c ⟨xs,d,f,r,z,q⟩=>⟨by rw[← r.length];exact z,?_⟩);have i:d c.heap.objs.size=none:=f.hok.fresh (ql _);refine⟨.ref c.heap.objs.size,upd d c.heap.objs.size (.tup xs),f.laid (t':=c.toks) (λb u e=>n7 _ e) (ql _) ?_,rfl,q _ i⟩;exact⟨z,g,r,⟨_,Q0 _ rfl,rfl,_,rfl⟩⟩
def bI(h:PA X es t):PE X (.List es pos) (R6 t):=by
 intro a s σ H Q I j;refine wpAny_List_spliced (thn (h pos a s σ H _ I j) λg c ⟨xs,d,f,r,z,q⟩=>⟨by rw[← r.length];exact z,?_⟩);have i:d c.heap.objs.size=none:=f.hok.fresh (ql _);refine⟨.ref c.heap.objs.size,upd d c.heap.objs.size (.lst xs),f.laid (t':=c.toks) (λb u e=>n7 _ e) (ql _) ?_,rfl,q _ i⟩;exact⟨z,g,0,r,Q0 _ rfl⟩
end
abbrev Sp:=List V->Hp->VK->XK->Prop
abbrev CXT:=List Env->Hp->Shared->XK->Value->Shared->Prop
structure QL(P:Program)(w:World)(K:W.Frag)(mg:Str->Option Value)(base:Heap)(A:Around)(outer:List Env)(s:Shared)(H:Hp):Prop where
 frames:A.frames=some outer
 mod:Mod K mg base
 bs:∀ b o,base.get? b=some o->s.heap.get? b=some o/\H b=none
 bsz:base.objs.size<=s.heap.objs.size
 funs:s.heap.FunFrames base outer
 frf:∀ b∈frs outer,H b=none
 hok:HOk P w H s.heap
 bare:AllBare s.gens
def CE(outer:List Env)(P:Program)(w:World)(H:Hp)(s:Shared)(Q:VK)(u:Value)(s':Shared):Prop :=
 ∃ v a,s'.os=s.os/\AllBare s'.gens/\Un (frs outer) [] H a s.heap s'.heap/\HOk P w a s'.heap/\RelV v u/\Q v a
def CR(CX:CXT)(outer:List Env)(P:Program)(w:World)(H:Hp)(s:Shared)(Q:VK)(E:XK)(r:Result)(s':Shared):Prop :=
 match r with
 | .ok (.ret u)=>CE outer P w H s Q u s'
 | .ok _=>False
 | .error e=>CX outer H s E e s'
structure vH(P:Program)(w:World)(K:W.Frag)(mg:Str->Option Value)(base:Heap)(CX:CXT)(k:Nat)(f:Addr)(fd:FuncData)(ps:List Str)(sp:Sp):Prop where
 len:∀ vs H Q E,sp vs H Q E->vs.length=ps.length
 run:∀(A:Around)(outer:List Env)(s:Shared)(H:Hp)(args:Args)(us:List Value)(vs:List V)(Q:VK)(E:XK),lZ k A->QL P w K mg base A outer s H->BindsTo s fd args (ps.zip us)->Vals vs us->sp vs H Q E ->
  codeAny (model P w) A (.call (.ref f) args) (CR CX outer P w H s Q E) s
def vH.mono{P:Program}{w:World}{K:W.Frag}{mg:Str->Option Value}{base:Heap}{CX:CXT}{j k:Nat}{f:Addr}{fd:FuncData}{ps:List Str}{sp:Sp}(F:vH P w K mg base CX j f fd ps sp)(h:j<=k) :
  vH P w K mg base CX k f fd ps sp:=⟨F.len,λA outer s H args b c Q E a=>F.run A outer s H args b c Q E (a.mono h)⟩
section
variable {X:Cx}{pins:List (Addr × Obj)}{σ:St}{H:Hp}{s s':Shared}
def Inv.env0(I:Inv X pins σ H s):QL X.prog X.w X.K X.mg X.base X.A X.stack s H :=
 ⟨I.ok.frames,I.ok.mod,I.bs,Xz I.ok.bsz I.sz,I.stack,I.stkFree,I.hok,I.bare⟩
def Inv.after{Q:VK}{u:Value}(I:Inv X pins σ H s)(h:CE X.stack X.prog X.w H s Q u s'):EP X pins σ Q u s':=by
 obtain⟨v,e,os,bare,un,hok,r,q⟩:=h;obtain⟨c,g,d,t,a⟩:=s';obtain rfl:a=s.os:=os;exact⟨v,e,I.call (h':=c) (g':=g) (d':=d) (t':=t) (ch:=[]) un hok bare (λb z=>absurd z (by simp)),r,q⟩
end
def Kp(sp:Sp)(a:List V)(E:XK)(t:TA):TE:=λσ H Q=>t σ H λc b=>sp (c++a) b Q E
def Binds(K:W.Frag)(fd:FuncData)(ps:List Str)(ds:List Value):Prop :=
 ∀(s:Shared)(us:List Value),K.In s.heap->(us++ds).length=ps.length->BindsTo s fd ⟨us,[]⟩ (ps.zip (us++ds))
def Binds.all{K:W.Frag}{fd:FuncData}{ps:List Str}(h:∀ a:List Value,a.length=ps.length->bindArgs fd ⟨a,[]⟩=pure (ps.zip a)):Binds K fd ps []:=λs a _ b=>by
 rw[append_nil] at b ⊢;exact .of_eq (h a b)
def Passes(CX:CXT)(X:Cx)(E:XK):Prop:=∀(pins:List (Addr × Obj))(σ:St)(H:Hp)(s:Shared)(e:Value)(s':Shared),Inv X pins σ H s->CX X.stack H s E e s'->X.xe e s'
section
variable {X:Cx}{CX:CXT}{k:Nat}{f C:Addr}{fd:FuncData}{ps:List Str}{sp:Sp}{dvs:List V}{ds:List Value}{E:XK}{x m:Str}{p pos apos:Pos}{e o:Expr}{es:List Expr}{ta:TE}{t:TA}
def N7{pins:List (Addr × Obj)}{σ:St}{H:Hp}{s:Shared}{Q:VK}{us:List Value}{vs:List V}(F:vH X.prog X.w X.K X.mg X.base CX k f fd ps sp)(hr:lZ k X.A)(hb:Binds X.K fd ps ds)(hd:Vals dvs ds)(hx:Passes CX X E)
  (I:Inv X pins σ H s)(r:Vals vs us)(h:sp (vs++dvs) H Q E):wpAny (model X.prog X.w) X.A (call (.ref f) us) (EP X pins σ Q) X.xe s:=by
 have b:Vals (vs++dvs) (us++ds):=r.append hd;have d:(us++ds).length=ps.length:=by rw[← b.length];exact F.len _ _ _ _ h
 refine wpAny_call (codeAny_mono (F.run X.A X.stack s H ⟨us,[]⟩ (us++ds) (vs++dvs) Q E hr I.env0 (hb s us I.kIn d) b h) λr s' a=>?_);cases r with
 | error e=>exact hx pins σ H s e s' I a
 | ok c =>
  cases c with
  | ret u=>exact I.after a
  | next=>exact False.elim a
  | brk=>exact False.elim a
  | cont=>exact False.elim a
def Ma(F:vH X.prog X.w X.K X.mg X.base CX k f fd ps sp)(hr:lZ k X.A)(hg:Gl X x)(hm:X.mg x=some (.ref f))(hk:W.keepIn X.K (.ref f)=true)(hb:Binds X.K fd ps ds)(hd:Vals dvs ds)(hx:Passes CX X E)
  (ha:PA X (e::es) t)(hdb:(x == ("__debug__" : Str))=false:=by decide)(he:starEach (e::es) X.env=(false,eval e X.env)::starEach es X.env:=by rfl)(hpl:(backTo pos (starEach es X.env)).any (·.1)=false:=by rfl) :
  PE X (.Call (.Name x p) (e::es) [] pos) (Kp sp dvs E t):=by
 intro a s σ H Q I h;refine wpAny_Call_Name_kw (nH I hg hm ?_ hdb);refine W.callWith_K (h₀:=X.base) I.ok.mod.kin hk (thn (ha pos a s σ H _ I h) λg d ⟨i,c,b,r,q⟩=>⟨b.kIn,?_⟩) he hpl;exact N7 F hr hb hd hx b r q
end
structure aU(N P:List Str)(sc:Scope):Prop where
 kind:sc.kind=.function
 co:sc.isCoroutine=false
 gen:sc.isGenerator=false
 nd:N.Nodup
 pre:N.take P.length=P
 par:∀ x∈P,sc.names.lookup x=some .local\/sc.names.lookup x=some .cell
 nofree:∀ y∈sc.names,y.2≠.free
theorem tZ{kindOf:Str->Option NameKind}{x:Str}:∀ {binds:List (Str × Value)}{m:Str->Option Value},(∀ v,(x,v) ∉ binds)->bindL kindOf binds m x=m x
 | [],_,_=>rfl
 | (n,v)::r,m,h=>by
  unfold bindL;rw[tZ λw a=>h w (Xm _ a)];split
  .have:x≠n:=by rintro rfl;exact h v Xl
   simp[this]
  .rfl
theorem vm{kindOf:Str->Option NameKind}{x:Str}:∀ {binds:List (Str × Value)}{m:Str->Option Value},(∀ v,(x,v) ∉ binds)->bindC kindOf binds m x=m x
 | [],_,_=>rfl
 | (n,v)::r,m,h=>by
  unfold bindC;rw[vm λw a=>h w (Xm _ a)];split
  .rfl
  .have:x≠n:=by rintro rfl;exact h v Xl
   simp[this]
theorem vh{kindOf:Str->Option NameKind}{x:Str}{v:Value}:∀ {P:List Str}{a:List Value}{i:Nat}{m:Str->Option Value},P.Nodup->P[i]?=some x->a[i]?=some v->kindOf x=some .local ->
  bindL kindOf (P.zip a) m x=some v
 | [],_,_,_,_,h,_,_=>by simp at h
 | _::_,[],_,_,_,_,h,_=>by simp at h
 | p::P,w::a,0,m,nd,b,c,d=>by
  simp at b c;subst b;subst c;show bindL kindOf ((p,w)::P.zip a) m p=_;unfold bindL;rw[tZ λv e=>(nodup_cons.mp nd).1 (of_mem_zip e).1,if_pos d];simp
 | p::P,w::a,i+1,m,nd,b,c,d=>by
  show bindL kindOf ((p,w)::P.zip a) m x=_;unfold bindL;exact vh (i:=i) (nodup_cons.mp nd).2 (by simpa using b) (by simpa using c) d
theorem uU{kindOf:Str->Option NameKind}{x:Str}{v:Value}:∀ {P:List Str}{a:List Value}{i:Nat}{m:Str->Option Value},P.Nodup->P[i]?=some x->a[i]?=some v->kindOf x≠some .local ->
  bindC kindOf (P.zip a) m x=some v
 | [],_,_,_,_,h,_,_=>by simp at h
 | _::_,[],_,_,_,_,h,_=>by simp at h
 | p::P,w::a,0,m,nd,b,c,d=>by
  simp at b c;subst b;subst c;show bindC kindOf ((p,w)::P.zip a) m p=_;unfold bindC;rw[vm λv e=>(nodup_cons.mp nd).1 (of_mem_zip e).1,if_neg d];simp
 | p::P,w::a,i+1,m,nd,b,c,d=>by
  show bindC kindOf ((p,w)::P.zip a) m x=_;unfold bindC;exact uU (i:=i) (nodup_cons.mp nd).2 (by simpa using b) (by simpa using c) d
def start(N:List Str)(vs:List V):St:=vs.map some++List.replicate (N.length - vs.length) none
def zH(CX:CXT)(P:Program)(w:World)(K:W.Frag)(mg:Str->Option Value)(base:Heap)(N:List Str)(qual:Str)(scope:Scope)(f:Addr)(cd:Value)(A:Around)(outer:List Env)(s:Shared)(H:Hp)(E:XK):Cx where
 prog:=P
 w:=w
 K:=K
 mg:=mg
 base:=base
 A:=A.deeper (envOfC qual scope s.heap.objs.size f cd)
 N:=N
 s₀:=s
 H₀:=H
 env:=envOfC qual scope s.heap.objs.size f cd
 outer:=outer
 stack:=envOfC qual scope s.heap.objs.size f cd::outer
 ex:=[]
 calm:=true
 fn:=λ_=>true
 pn:=[]
 xe:=λe s'=>wpAny (model P w) (A.deeper (envOfC qual scope s.heap.objs.size f cd)) (leaving (envOfC qual scope s.heap.objs.size f cd) e) (λ_ a=>CX outer H s E e a) (λb a=>CX outer H s E b a) s'
def zq{sc:Scope}{n:Nat}{x:Str}(h:sc.names.lookup x=some .cell):∃ c,(cellsFrom n sc.names []).lookup x=some c:=by
 have q:=W.cellsFrom_some sc.names n [] (.inl h);exact Option.isSome_iff_exists.mp q
def Du{CX:CXT}{P:Program}{w:World}{K:W.Frag}{mg:Str->Option Value}{base:Heap}{N ps:List Str}{qual:Str}{scope:Scope}{f:Addr}{cd:Value}{A:Around}{outer:List Env}{s s1:Shared}{H:Hp}{E:XK}{us:List Value}{vs:List V}
  (S:aU N ps scope)(hd:A.handled=none)(e0:QL P w K mg base A outer s H)(hl:vs.length=ps.length)(r:Vals vs us)
  (x:InCallC s s.heap.objs.size (bindL (envOfC qual scope s.heap.objs.size f cd).kindOf (ps.zip us) λ_=>none) (cellsFrom (s.heap.objs.size+1) scope.names []) (bindC (envOfC qual scope s.heap.objs.size f cd).kindOf (ps.zip us) λ_=>none) s1) :
  Inv (zH CX P w K mg base N qual scope f cd A outer s H E) [] (start N vs) H s1:=by
 have G:ps.length<=N.length:=by have:=congrArg List.length S.pre;rw[length_take] at this;lia
 obtain⟨o,tk,rfl,C⟩:=x.done;have j:∀ b:Addr,b ∉ (zH CX P w K mg base N qual scope f cd A outer s H E).ex:=λb z=>absurd (show b∈([]:List Addr) from z) (by simp)
 refine⟨⟨e0.mod,S.kind,rfl,rfl,ql _,λy z c o d=>?_,λy g=>?_,λy c _ h=>?_,λ_=>hd,Around.frames_deeper e0.frames,.inr ⟨rfl,rfl⟩,λb z=>absurd z (j b),e0.bs,e0.bsz,λb _ _=>j b,λb z=>absurd z (j b),e0.funs,e0.frf⟩,
  rfl,e0.bare,Un.kept C,⟨_,x.toInCall.ns,λi y v o d I=>?_⟩,λy c h=>⟨_,x.cell y c h⟩,e0.hok.fresh (ql _),λy c h=>?_,λp l=>absurd (show p∈([]:List (Addr × Obj)) from l) (by simp),e0.hok.kept C,?_⟩
 .exact name_of_addr x.apart (PySem.mem_of_lookup o) (PySem.mem_of_lookup d)
 .have g:scope.names.lookup y=some .cell\/scope.names.lookup y=some .free:=g;rcases g with g | g
  .exact zq g
  .exact absurd rfl (S.nofree _ (PySem.mem_of_lookup g))
 .exact Nat.le_of_lt (x.above y c (PySem.mem_of_lookup h))
 .have t:i<vs.length:=by
   unfold start at d;by_cases t:i<vs.length
   .exact t
   .rw[getElem?_append_right (by simpa using t)] at d;rw[List.getElem?_replicate] at d;split at d <;> cases d
  have D:vs[i]?=some v:=by
   unfold start at d;rw[getElem?_append_left (by simpa using t),XC] at d;cases e:vs[i]? with
   | none=>rw[e] at d;cases d
   | some a=>rw[e] at d;cases d;rfl
  obtain⟨u,B,F⟩:=r.get D;have l:ps[i]?=some y:=by
   rw[← S.pre,List.getElem?_take_of_lt (by lia)];exact o
  have m:ps.Nodup:=by rw[← S.pre];exact S.nd.sublist (List.take_sublist _ _)
  refine⟨u,F,?_⟩;rcases S.par y (Xu l) with k | k
  .exact .inl ⟨k,vh m l B k⟩
  .obtain⟨c,e⟩:=zq (n:=s.heap.objs.size+1) k;refine .inr ⟨.inl k,c,e,?_⟩;have q:=x.cell y c e;rw[uU m l B (by show scope.names.lookup y≠_;rw[k];decide)] at q;exact q
 .exact e0.hok.fresh (Nat.le_of_lt (x.above y c (PySem.mem_of_lookup h)))
 .unfold start;show _=N.length;rw[Xr,XF,length_replicate];lia
def Nu{CX:CXT}{P:Program}{w:World}{K:W.Frag}{mg:Str->Option Value}{base:Heap}{k:Nat}{f:Addr}{name qual:Str}{params:Arguments}{body:List Stmt}{scope:Scope}{dV kV doc pm cdv ct oc:Value}{an od:Option Addr}
  {osl:Array (Option Value)}{N ps:List Str}{sp:Sp}(lk:K.lookup f=some ⟨oc,od,.func (W.fnOf name qual params body scope dV kV doc pm an cdv ct),osl⟩)(hcd:W.codeIn K cdv qual=true)(S:aU N ps scope)
  (len:∀ a H Q E,sp a H Q E->a.length=ps.length)
  (hbody:∀(A:Around)(outer:List Env)(s:Shared)(H:Hp)(a:List V)(Q:VK)(E:XK),lZ k (A.deeper (envOfC qual scope s.heap.objs.size f cdv))->sp a H Q E ->
   ∃ t,PSs (zH CX P w K mg base N qual scope f cdv A outer s H E) body t/\t { nx:=λ_ c=>Q .non c,rt:=Q } (start N a) H) :
  vH P w K mg base CX (k+1) f (W.fnOf name qual params body scope dV kV doc pm an cdv ct) ps sp:=by
 refine⟨len,λA outer s H args F a Q E p h D r i=>?_⟩;have M:=len _ _ _ _ i;have B:K.In s.heap:=h.mod.kin.keeps λb o e=>(h.bs b o e).1
 have m:s.heap.NoLimit:=h.mod.nolimit.keeps λb o e=>(h.bs b o e).1
 have d:∀ y∈ps.zip F,scope.names.lookup y.1=some .local\/(scope.names.lookup y.1=some .cell/\((cellsFrom (s.heap.objs.size+1) scope.names []).lookup y.1).isSome=true):=λ⟨n,v⟩ L=>by
  rcases S.par n (of_mem_zip L).1 with q | q
  .exact .inl q
  .exact .inr ⟨q,W.cellsFrom_some _ _ _ (.inl q)⟩
 refine codeAny_call_function p.depth (B _ _ lk) rfl S.co S.gen rfl (W.codeRec_of B hcd) (D _ _ _ _ ?_);refine wpAny_newFunctionEnv_cells S.kind d λenv he C x=>?_
 subst he;refine⟨m.keeps x.toInCall.keep,codeAny_func ?_⟩;obtain⟨t,ht,O⟩:=hbody A outer s H a Q E (p.deeper _) i;have I:Inv (zH CX P w K mg base N qual scope f cdv A outer s H E) [] (start N a) H C:=Du S p.hd h M r x;refine wpAny_mono (ht [] C (start N a) H _ I O) (λG s' g=>?_) λe s' g=>g
 have j:∀ {l:St}{c:Hp}{v:V}{u:Value},Inv (zH CX P w K mg base N qual scope f cdv A outer s H E) [] l c s'->RelV v u->Q v c->CE outer P w H s Q u s' :=
  fun {l c v u} J z q=>⟨v,c,J.os,J.bare,J.base,J.hok,z,q⟩
 cases G with
 | ret u =>
  obtain⟨v,l,c,J,z,q⟩:=g;exact j J z q
 | next =>
  obtain⟨l,c,J,q⟩:=g;exact j (v:=V.non) (u:=Value.none) J rfl q
 | brk =>
  obtain⟨_,_,_,q⟩:=g;exact False.elim q
 | cont =>
  obtain⟨_,_,_,q⟩:=g;exact False.elim q
section
variable {X:Cx}{x:Str}{p pos:Pos}{e:Expr}{es:List Expr}{t:TA}{id T:String}{r:List V->Hp->VK->Prop}
def tCB(r:List V->Hp->VK->Prop)(t:TA):TE:=λσ H Q=>t σ H λb a=>r b a Q
def aR(hc:d7 X (.builtin id) r)(hg:Gl X x)(hm:X.mg x=none)(hv:bootBuiltins x=some (.builtin id))(ha:PA X (e::es) t)(hn:x ≠ "__name__":=by decide)(hdb:(x == ("__debug__" : Str))=false:=by decide)
  (he:starEach (e::es) X.env=(false,eval e X.env)::starEach es X.env:=by rfl)(hpl:(backTo pos (starEach es X.env)).any (·.1)=false:=by rfl):PE X (.Call (.Name x p) (e::es) [] pos) (tCB r t):=by
 intro a s σ H Q I h;refine wpAny_Call_Name_kw (yF I hg hm hv ?_ hn hdb);exact PyProof.Rows.callWith_builtin1 (thn (ha pos a s σ H _ I h) λi f ⟨j,c,g,b,d⟩=>hc a f σ c j i Q g b d) he hpl
def aP(hc:d7 X (.type T) r)(hg:Gl X x)(hm:X.mg x=none)(hv:bootBuiltins x=some (.type T))(ha:PA X (e::es) t)(hn:x ≠ "__name__":=by decide)(hdb:(x == ("__debug__" : Str))=false:=by decide)
  (he:starEach (e::es) X.env=(false,eval e X.env)::starEach es X.env:=by rfl)(hpl:(backTo pos (starEach es X.env)).any (·.1)=false:=by rfl):PE X (.Call (.Name x p) (e::es) [] pos) (tCB r t):=by
 intro a s σ H Q I h;refine wpAny_Call_Name_kw (yF I hg hm hv ?_ hn hdb);exact PyProof.Rows.callWith_type1 (thn (ha pos a s σ H _ I h) λi f ⟨j,c,g,b,d⟩=>hc a f σ c j i Q g b d) he hpl
end
end L2
namespace HT
open PySem PyProof.Rows
section
open PySem.SeqAt
open PySem.AutoSeq1 (wpAny_loadPart')
open PySem.MeetsSeq PySem.MeetsSeq2 PySem.MeetsSeq3
variable {prog:Program}{w:World}{A:Around}{E:Value->Shared->Prop}{s:Shared}
def Lj{t b:Addr}{vs ws:List Value}{Q:Value->Shared->Prop}(ht:IsTup s.heap t vs.toArray)(hb:IsTup s.heap b ws.toArray)(hv:vs≠[])
  (h1:ws=[]->Q (.ref t) s)(h2:ws≠[]->Q (.ref s.heap.objs.size) { s with heap:=s.heap.push { cls:=.type "tuple",data:=.seq (vs++ws).toArray } })
  (hsz:vs.length+ws.length<=sizeLine):wpAny (model prog w) A (binaryOp .Add (.ref t) (.ref b)) Q E s:=by
 obtain⟨⟨cls,dd,data,sl⟩,h,k,n,hd⟩:=id ht;obtain⟨⟨l,c,i,d⟩,a,f,j,g⟩:=id hb;simp only at k hd f g;subst k hd f g;have e:vs.toArray++ws.toArray=(vs++ws).toArray:=by simp
 by_cases hw:ws=[]
 .exact concat_meets ⟨_,h,rfl⟩ ⟨_,a,rfl⟩ noFill_tuple_add seq_tuple_add PySem.F.slot_tuple_add PySem.F.entry_tuple_add (PySem.F.args_tuple_add_2 _ _)
   (tuple_addW1 t b vs.toArray ws.toArray n j dd c sl d (by simpa using hv) (by simp[hw])) ⟨h,a,h1 hw⟩
 .refine concat_meets ⟨_,h,rfl⟩ ⟨_,a,rfl⟩ noFill_tuple_add seq_tuple_add PySem.F.slot_tuple_add PySem.F.entry_tuple_add (PySem.F.args_tuple_add_2 _ _)
   (tuple_addW2 t b vs.toArray ws.toArray n j dd c sl d (by simpa using hv) (by simpa using hw) (by rw[XM,XM];exact hsz)) ⟨h,a,?_⟩
  rw[e];exact h2 hw
def sIx(n d:Nat):Option Int->Nat
 | none=>d
 | some v=>if v<0 then (v+(n:Int)).toNat else min v.toNat n
def sJ(n d:Nat):sIx n d none=d:=rfl
def wO(n d k:Nat):sIx n d (some (k:Int))=min k n:=by
 show(if (k:Int)<0 then ((k:Int)+(n:Int)).toNat else min (k:Int).toNat n)=min k n;rw[if_neg (by lia),Int.toNat_natCast]
def N5(n d:Nat)(hd:d<=n)(o:Option Int):sIx n d o<=n:=by
 cases o with
 | none=>exact hd
 | some v =>
  show(if v<0 then (v+(n:Int)).toNat else min v.toNat n)<=n;by_cases hv:v<0
  .rw[if_pos hv];lia
  .rw[if_neg hv];exact Nat.min_le_right _ _
def Fj(v:Int)(n d:Nat):(if v<0 then max (v+(n:Int)) 0 else min v (n:Int))=((sIx n d (some v):Nat):Int):=by
 show(if v<0 then max (v+(n:Int)) 0 else min v (n:Int))=(((if v<0 then (v+(n:Int)).toNat else min v.toNat n):Nat):Int);by_cases hv:v<0
 .simp only[if_pos hv];lia
 .simp only[if_neg hv];lia
def Al(lo hi:Option Int)(n:Nat):Builtin.Slice.sliceAdjust lo hi 1 (n:Int)=(((sIx n 0 lo:Nat):Int),((sIx n n hi:Nat):Int)):=by
 have a:¬ ((1:Int)<0):=by lia
 unfold Builtin.Slice.sliceAdjust;simp only[a,if_false];refine Prod.ext ?_ ?_
 .cases lo with
  | none=>rfl
  | some v=>exact Fj v n 0
 .cases hi with
  | none=>rfl
  | some v=>exact Fj v n n
def zU(i j:Nat):Builtin.Slice.slicePlaces (i:Int) (j:Int) 1=j - i:=by
 unfold Builtin.Slice.slicePlaces;have a:(1:Int)>0:=by lia
 simp only[a,if_true,Int.ediv_one];split <;> lia
def qp{v:Value}{o:Option Int}{Q:Option Int->Shared->Prop}(p:IsPart v o)(h:Q o s):wpAny (model prog w) A (Builtin.Slice.slicePartIndex v) Q E s:=by
 cases p with
 | none=>exact slicePart_none h
 | int i t=>exact slicePart_int h
def gP{sl:Addr}{vl vu:Value}{lo hi:Option Int}{n:Nat}{Q:Int × Int × Nat->Shared->Prop}(hs:s.heap.IsSliceOf sl vl vu .none)(pl:IsPart vl lo)(pu:IsPart vu hi)
  (h:Q (((sIx n 0 lo:Nat):Int),1,sIx n n hi - sIx n 0 lo) s):wpAny (model prog w) A (Builtin.Slice.sliceApplied (.ref sl) (pure (n:Int))) Q E s:=by
 obtain⟨os,a,c,b⟩:=id hs;unfold Builtin.Slice.sliceApplied Builtin.Slice.sliceFields;refine ni (ni (wpAny_field a b (x:=vl) rfl (ni (wpAny_field a b (x:=vu) rfl (ni (wpAny_field a b (x:=.none) rfl (nF ?_)))))));refine ni (slicePart_none ?_);show wpAny _ _ (if ((1:Int) == 0)=true then _ else _) _ _ s;rw[if_neg (by decide)];refine ni (qp pl (ni (qp pu (ni (nF ?_)))));show wpAny _ _ (match Builtin.Slice.sliceAdjust lo hi 1 (n:Int) with | (lo,hi)=>pure (lo,(1:Int),Builtin.Slice.slicePlaces lo hi 1)) _ _ s;rw[Al lo hi n];show wpAny _ _ (pure (((sIx n 0 lo:Nat):Int),(1:Int),Builtin.Slice.slicePlaces ((sIx n 0 lo:Nat):Int) ((sIx n n hi:Nat):Int) 1)) _ _ s;rw[zU];exact nF h
def HX(xs:Array Value)(i k:Nat):((List.range k).filterMap λ(m:Nat)=>xs[((i:Int)+(m:Int)*1).toNat]?).toArray=((xs.toList.drop i).take k).toArray:=by
 have e:(λ(m:Nat)=>xs[((i:Int)+(m:Int)*1).toNat]?)=λm=>xs[i+m]?:=by
  funext m
  have:((i:Int)+(m:Int)*1).toNat=i+m:=by lia
  rw[this]
 rw[e];have:=pick_run xs i k;rw[List.filterMap_map] at this;have a:((λx=>xs[x]?) ∘ λx=>i+x)=λm=>xs[i+m]?:=rfl
 rw[a] at this;rw[this]
def lH{t sl:Addr}{items:Array Value}{vl vu:Value}{lo hi:Option Int}{Q:Value->Shared->Prop}(ht:IsTup s.heap t items)(hs:s.heap.IsSliceOf sl vl vu .none)(pl:IsPart vl lo)(pu:IsPart vu hi)
  (hw:¬ (sIx items.size 0 lo=0/\sIx items.size items.size hi=items.size))
  (h:Q (.ref s.heap.objs.size) { s with heap:=s.heap.push { cls:=.type "tuple",data:=.seq ((items.toList.drop (sIx items.size 0 lo)).take (sIx items.size items.size hi - sIx items.size 0 lo)).toArray } })
  (hsz:items.size<=sizeLine):wpAny (model prog w) A (getItem (.ref t) (.ref sl)) Q E s:=by
 have a:sizeOk (.seq ((items.toList.drop (sIx items.size 0 lo)).take (sIx items.size items.size hi - sIx items.size 0 lo)).toArray):=by
  show((items.toList.drop (sIx items.size 0 lo)).take (sIx items.size items.size hi - sIx items.size 0 lo)).toArray.size<=sizeLine;rw[XM,length_take,length_drop,Xj];lia
 have i:sIx items.size items.size hi<=items.size:=N5 _ _ (ql _) hi;obtain⟨os,c,d,e⟩:=id hs;have hTs:s.TypeIs (.ref sl) "slice":=⟨os,c,d⟩
 unfold getItem
 try with_reducible refine Xo ?_
 first | refine ni (nF ?_) | skip
 refine ni (wpAny_sequenceKey ht.typeIs (by decide) ?_);refine ni (wpAny_callSpecial?_slot (name:=Str.ofString "__getitem__") ht.typeIs PyProof.Rows.slot_tuple_getitem
  (Xy PyProof.Rows.slot_tuple_getitem ht.typeIs entry_tuple_getitem ?_ (args_tuple_getitem _ _)))
 show wpAny _ _ (Builtin.Tuple.tupleItemsOf (.ref t) >>= _) _ _ s;refine ni (tupleItemsOf_ ht ?_);refine ni (wpAny_typeOf hTs ?_);rw[if_pos (by decide)];refine ni (gP hs pl pu ?_);have b:¬ ((((sIx items.size 0 lo:Nat):Int) == 0 && (1:Int) == 1 && (sIx items.size items.size hi - sIx items.size 0 lo) == items.size)=true):=by
  intro q;rw[Bool.and_eq_true,Bool.and_eq_true] at q;have f:((sIx items.size 0 lo:Nat):Int)=0:=eq_of_beq q.1.1;have g:sIx items.size items.size hi - sIx items.size 0 lo=items.size:=eq_of_beq q.2;exact hw ⟨by lia,by lia⟩
 show wpAny _ _ (if (((sIx items.size 0 lo:Nat):Int) == 0 && (1:Int) == 1 && (sIx items.size items.size hi - sIx items.size 0 lo) == items.size)=true then _ else _) _ _ s;rw[if_neg b,HX]
 first
  | exact ni (m:=Builtin.Tuple.tupleExact _) (XQ (nF ⟨_,rfl,nF h⟩) a)
  | exact ni (m:=Builtin.Tuple.tupleExact _) (XQ (ni (nF (nF ⟨_,rfl,nF h⟩))) a)
  | exact ni (ni (m:=Builtin.Tuple.tupleExact _) (XQ (nF (nF ⟨_,rfl,nF h⟩)) a))
  | exact ni (ni (m:=Builtin.Tuple.tupleExact _) (XQ (nF ⟨_,rfl,nF h⟩) a))
end
end HT
namespace L2
open PySem PySem.Spec PyProof.Rows
abbrev TO:=St->Hp->(Option Int->Hp->Prop)->Prop
def PO(X:Cx)(e:Option Expr)(t:TO):Prop :=
 ∀(pins:List (Addr × Obj))(s:Shared)(σ:St)(H:Hp)(Q:Option Int->Hp->Prop),Inv X pins σ H s->t σ H Q ->
  wpAny (model X.prog X.w) X.A (evalPart e X.env) (λu s'=>∃ o a,Inv X pins σ a s'/\IsPart u o/\Q o a) X.xe s
def KR:TO:=λ_ H Q=>Q none H
def Q5(t:TE):TO:=λσ H Q=>t σ H λx a=>∃ i,x=.int i/\Q (some i) a
section
variable {X:Cx}{e:Expr}{te:TE}{lo hi:Option Expr}{tl th:TO}{pos p2:Pos}
def jy:PO X none KR:=by
 intro a s σ H Q I h;rw[evalPart_none];exact nF ⟨none,H,I,.none,h⟩
def iu(h:PE X e te):PO X (some e) (Q5 te):=by
 intro a s σ H Q I d;rw[evalPart_some];refine thn (h a s σ H _ I d) λu j ⟨x,b,f,g,c⟩=>?_
 obtain⟨i,rfl,q⟩:=c;obtain⟨t,rfl⟩:=g;exact⟨some i,b,f,.int i t,q⟩
def SlR(X:Cx)(r:V->Option Int->Option Int->Hp->VK->Prop):Prop :=
 ∀(pins:List (Addr × Obj))(s:Shared)(σ:St)(H:Hp)(x:V)(v vl vu:Value)(lo hi:Option Int)(sl:Addr)(Q:VK),Inv X pins σ H s->RelV x v->s.heap.IsSliceOf sl vl vu .none->IsPart vl lo->IsPart vu hi->r x lo hi H Q ->
  ∃ T id,typeLookup (.type T) "__getitem__" = pure (some (.builtin id))/\s.TypeIs v T/\wpAny (model X.prog X.w) X.A (getItem v (.ref sl)) (EP X pins σ Q) X.xe s
def tSl(r:V->Option Int->Option Int->Hp->VK->Prop)(te:TE)(tl th:TO):TE:=λσ H Q=>te σ H λx b=>tl σ b λl a=>th σ a λu c=>r x l u c Q
def gD{r:V->Option Int->Option Int->Hp->VK->Prop}(hr:SlR X r)(he:PE X e te)(hl:PO X lo tl)(hu:PO X hi th):PE X (.Subscript e (.Slice lo hi none p2) pos) (tSl r te tl th):=by
 intro a s σ H Q I h;refine Subscript_ (thn (he a s σ H _ I h) λv D ⟨x,j,o,t,k⟩=>?_);refine wpAny_Slice (thn (hl a D σ j _ o k) λd B ⟨l,i,C,pl,y⟩=>thn (hu a B σ i _ C y) λf c ⟨u,g,E,m,z⟩=>?_);rw[evalPart_none];refine nF ?_;have p:Inv X a σ g { c with heap:=c.heap.push { cls:=.type "slice",data:=.fields #[d,f,.none] } }:=E.kept (t':=c.toks) λb ob q=>n7 _ q
 obtain⟨T,id,n,ht,hg⟩:=hr a { c with heap:=c.heap.push { cls:=.type "slice",data:=.fields #[d,f,.none] } } σ g x v d f l u c.heap.objs.size Q p t (Heap.IsSliceOf.new ..) pl m z;show wpAny (model X.prog X.w) X.A (subscriptTail e (.Slice lo hi none p2) v (.ref c.heap.objs.size)) (EP X a σ Q) X.xe { c with heap:=c.heap.push { cls:=.type "slice",data:=.fields #[d,f,.none] } };exact tail_any (ops:=[.ref c.heap.objs.size,v]) ht n hg (by with_unfolding_all rfl)
def vZ(xs:List V)(lo hi:Option Int):List V:=(xs.drop (HT.sIx xs.length 0 lo)).take (HT.sIx xs.length xs.length hi - HT.sIx xs.length 0 lo)
def oJ(xs:List V)(lo hi:Option Int):(vZ xs lo hi).length<=xs.length:=by
 unfold vZ;rw[length_take,length_drop];lia
def T7(K:W.Frag):V->Option Int->Option Int->Hp->VK->Prop:=λx lo hi H Q=>∃ a xs,x=.ref a/\SqT K H a xs /\
 ¬ (HT.sIx xs.length 0 lo=0/\HT.sIx xs.length xs.length hi=xs.length)/\∀ p,H p=none->Q (.ref p) (upd H p (.tup (vZ xs lo hi)))
def O8:SlR X (T7 X.K):=by
 intro e s σ H x v l m lo hi sl Q I j i pl f h;obtain⟨a,xs,rfl,k,g,q⟩:=h;cases j;obtain⟨d,r,ht,hz⟩:=I.tuple k;have c:d.toArray.size=xs.length:=by rw[XM];exact r.length.symm
 refine⟨"tuple",_,PyProof.Rows.slot_tuple_getitem.lookup,ht.typeIs,?_⟩;refine HT.lH ht i pl f (by rw[c];exact g) ?_ (by rw[c];exact hz);rw[c];refine⟨.ref s.heap.objs.size,_,I.laid (t':=s.toks) (o:=.tup (vZ xs lo hi)) (λb ob q=>n7 _ q) (ql _) ?_,rfl,q _ (I.hok.fresh (ql _))⟩;exact⟨Xz (oJ xs lo hi) hz,_,(r.drop (HT.sIx xs.length 0 lo)).take (HT.sIx xs.length xs.length hi - HT.sIx xs.length 0 lo),IsTup.new _ _⟩
def Q7(K:W.Frag):R2:=λx y H Q=>∃ a b xs ys,x=.ref a/\y=.ref b/\SqT K H a xs/\SqT K H b ys/\xs≠[]/\xs.length+ys.length<=sizeLine /\
 (ys=[]->Q (.ref a) H)/\(ys≠[]->∀ p,H p=none->Q (.ref p) (upd H p (.tup (xs++ys))))
def Vals.nil_iff{xs:List V}{us:List Value}(r:Vals xs us):us=[]↔xs=[]:=by
 cases r with
 | nil=>simp
 | cons _ _=>simp
def Cr:OpR X (binaryOp .Add) (Q7 X.K):=by
 intro f s σ H x y v u Q I n j h;obtain⟨a,b,xs,ys,rfl,rfl,m,p,r,hz,g,k⟩:=h;cases n;cases j;obtain⟨i,d,l,_⟩:=I.tuple m;obtain⟨e,c,p2,_⟩:=I.tuple p;refine HT.Lj l p2 (λz=>r (d.nil_iff.mp z)) (λz=>⟨.ref a,H,I,rfl,g (c.nil_iff.mp z)⟩) (λz=>?_) (by rw[← d.length,← c.length];exact hz);refine⟨.ref s.heap.objs.size,_,I.laid (t':=s.toks) (o:=.tup (xs++ys)) (λb ob q=>n7 _ q) (ql _) ?_,rfl,k (λw=>z (c.nil_iff.mpr w)) _ (I.hok.fresh (ql _))⟩;exact⟨by rw[Xr];exact hz,_,d.append c,IsTup.new _ _⟩
end
def ixN(n:Nat)(i:Int):Option Nat:=if 0<=i then (if i<n then some i.toNat else none) else if -(n:Int)<=i then some (i+n).toNat else none
def atI{α:Type}(xs:List α)(i:Int):Option α:=(ixN xs.length i).bind λj=>xs[j]?
def Mj{n:Nat}{i:Int}{j:Nat}(h:ixN n i=some j):seqIndex? i n=some j/\j<n/\-(n:Int)<=i/\i<n:=by
 unfold ixN at h;by_cases h0:0<=i
 .rw[if_pos h0] at h;by_cases h1:i<n
  .rw[if_pos h1] at h;have e:i.toNat=j:=Xn h;exact⟨by rw[seqIndex_of h0 h1,e],by lia,by lia,h1⟩
  .rw[if_neg h1] at h;cases h
 .rw[if_neg h0] at h;by_cases h1:-(n:Int)<=i
  .rw[if_pos h1] at h;have e:(i+n).toNat=j:=Xn h;exact⟨by rw[seqIndex_neg (by lia) h1,e],by lia,h1,by lia⟩
  .rw[if_neg h1] at h;cases h
def wA{α:Type}{xs:List α}{i:Int}{v:α}(h:atI xs i=some v):∃ j,seqIndex? i xs.length=some j/\xs[j]?=some v/\j<xs.length/\-(xs.length:Int)<=i/\i<xs.length:=by
 unfold atI at h;cases e:ixN xs.length i with
 | none=>rw[e] at h;cases h
 | some j =>
  rw[e] at h;obtain⟨d,b,c,a⟩:=Mj e;exact⟨j,d,h,b,c,a⟩
def aZ{α:Type}{xs:List α}{j:Nat}{v:α}(h:xs[j]?=some v):atI xs (j:Int)=some v:=by
 have a:j<xs.length:=(pN.mp h).1;have e:ixN xs.length (j:Int)=some j:=by
  unfold ixN;rw[if_pos (by lia),if_pos (by lia)];simp
 unfold atI;rw[e];exact h
def Lx(b:Expr):Prop:=∀ o i,subscripted b false o i=operate [o,i] (getItem o i)
def IxR(X:Cx)(r:R2):Prop :=
 ∀(value slice:Expr)(pins:List (Addr × Obj))(s:Shared)(σ:St)(H:Hp)(x y:V)(v u:Value)(Q:VK),Inv X pins σ H s->RelV x v->RelV y u->r x y H Q ->
  subscripted slice false v u=operate [v,u] (getItem v u)->wpAny (model X.prog X.w) X.A (subscriptTail value slice v u) (EP X pins σ Q) X.xe s
def MtR(X:Cx)(id:String)(r:V->List V->Hp->VK->Prop):Prop :=
 ∀(pins:List (Addr × Obj))(s:Shared)(σ:St)(H:Hp)(x:V)(xs:List V)(v:Value)(us:List Value)(Q:VK),Inv X pins σ H s->RelV x v->Vals xs us->r x xs H Q ->
  wpAny (model X.prog X.w) X.A (call (.builtin id) (v::us)) (EP X pins σ Q) X.xe s
section
variable {X:Cx}{a b:Expr}{ta tb:TE}{pos:Pos}
def bA{r:R2}(hr:IxR X r)(ha:PE X a ta)(hb:PE X b tb)(hs:Lx b):PE X (.Subscript a b pos) (tOp r ta tb):=by
 intro c s σ H Q I h;exact Subscript_ (R3 ha hb I h λv u f x y d g i e q=>hr a b c f σ d x y v u Q g i e q (hs _ _))
def RN(K:W.Frag):R2:=λx y H Q=>∃ p xs i v,x=.ref p/\y=.int i/\SqL K H p xs/\atI xs i=some v/\Q v H
def SJ(K:W.Frag):R2:=λx y H Q=>∃ p xs i v,x=.ref p/\y=.int i/\SqT K H p xs/\atI xs i=some v/\Q v H
def Te:R2:=λx y H Q=>∃ z i c,x=.str z/\y=.int i/\z.length<=sizeLine/\atI z.cps.toList i=some c/\Q (.str ⟨#[c]⟩) H
def K3:IxR X (RN X.K):=by
 intro value slice a s σ H x y v u Q I n m h k;obtain⟨p,xs,i,z,rfl,rfl,C,he,q⟩:=h;cases n;obtain⟨t,rfl⟩:=m;obtain⟨e,r,pl,hz⟩:=I.list C;obtain⟨j,c,A,E,B,l⟩:=wA he;obtain⟨w,g,d⟩:=r.get A;have o:=r.length;have D:=tO;have b:EP X a σ Q w s:=⟨z,H,I,d,q⟩
 by_cases h0:0<=i
 .have f:i.toNat=j:=by
   rw[seqIndex_of h0 l] at c;exact Xn c
  exact item_listR pl.isList h0 (by lia) (by rw[f];simpa using g) b k
 .have f:(i+(e.toArray.size:Int)).toNat=j:=by
   rw[seqIndex_neg (by lia) B] at c;rw[XM,← o];exact Xn c
  exact subscriptTail_builtinR (x:=w) pl.isList.typeIs slot_list_getitem.lookup
   (wpAny_getItem_list_neg (Q:=λr s'=>r=w/\EP X a σ Q r s') pl.isList (by lia) (by rw[XM] <;> lia) (by lia) (by rw[f];simpa using g) ⟨rfl,b⟩) k
def lM:IxR X (SJ X.K):=by
 intro value slice a s σ H x y v u Q I f e h m;obtain⟨p,xs,i,z,rfl,rfl,o,he,q⟩:=h;cases f;obtain⟨t,rfl⟩:=e;obtain⟨g,r,pl,hz⟩:=I.tuple o;obtain⟨j,d,n,D,C,A⟩:=wA he;obtain⟨w,k,b⟩:=r.get n;have l:=r.length;have B:=tO;have c:EP X a σ Q w s:=⟨z,H,I,b,q⟩
 exact subscriptTail_builtinR (x:=w) pl.typeIs slot_tuple_getitem.lookup
  (getItem_tuple (j:=j) (Q:=λr s'=>r=w/\EP X a σ Q r s') pl (by lia) (by lia) (by rw[XM,← l];exact d) (by simpa using k) ⟨rfl,c⟩) m
def oR:IxR X Te:=by
 intro value slice b s σ H x y v u Q I o m h g;obtain⟨z,i,c,rfl,rfl,hz,he,q⟩:=h;obtain⟨t,rfl⟩:=o;obtain⟨t',rfl⟩:=m;obtain⟨j,a,k,r,n,e⟩:=wA he;have f:z.cps.toList.length=z.length:=by simp[Str.length]
 rw[f] at a n e;have p:=tO;exact tail_any (typeIs_str s z t) slot_str_getitem.lookup (getItem_str (c:=c) (by
  have d:decide (i < -(2^63:Int))=false:=Xp (by lia);have l:decide (i ≥ 2^63)=false:=Xp (by lia);rw[d,l,Bool.or_false]) (by rw[a];simpa using k) ⟨.str ⟨#[c]⟩,H,I.tok _,⟨_,rfl⟩,q⟩) g
def vC(lo hi:Option Int)(n:Nat):(sliceBounds lo hi none n).1=((HT.sIx n 0 lo:Nat):Int)/\(sliceBounds lo hi none n).2.1=((HT.sIx n n hi:Nat):Int)/\(sliceBounds lo hi none n).2.2=1:=by
 refine⟨?_,?_,rfl⟩
 .cases lo with
  | none=>simp[sliceBounds,HT.sIx]
  | some i =>
   simp only[sliceBounds,HT.sIx,Option.getD_none,show(1:Int)>0 by decide,if_true];by_cases h:i<0
   .simp only[h,if_true] <;> lia
   .simp only[h,if_false] <;> lia
 .cases hi with
  | none=>simp[sliceBounds,HT.sIx]
  | some i =>
   simp only[sliceBounds,HT.sIx,Option.getD_none,show(1:Int)>0 by decide,if_true];by_cases h:i<0
   .simp only[h,if_true] <;> lia
   .simp only[h,if_false] <;> lia
def rE(its:List Value)(lo hi:Option Int):slicePick its.toArray lo hi none=((its.drop (HT.sIx its.length 0 lo)).take (HT.sIx its.length its.length hi - HT.sIx its.length 0 lo)).toArray:=by
 obtain⟨c,a,b⟩:=vC lo hi its.toArray.size;unfold slicePick;rw[c,a,b];simp only[sliceRange_one,pick_run,XM] <;> rfl
def Tp(K:W.Frag):V->Option Int->Option Int->Hp->VK->Prop:=λx lo b H Q=>∃ a xs,x=.ref a/\SqL K H a xs/\∀ p,H p=none->Q (.ref p) (upd H p (.lst (vZ xs lo b)))
def K9:SlR X (Tp X.K):=by
 intro e s σ H x v l m lo d sl Q I j i pl f h;obtain⟨a,xs,rfl,k,q⟩:=h;cases j;obtain⟨g,r,ht,hz⟩:=I.list k;have c:=r.length;refine⟨"list",_,slot_list_getitem.lookup,ht.isList.typeIs,?_⟩;refine wpAny_getItem_list_slice ht.isList i pl f .none (by simp) ?_ (by rw[XM] <;> lia);rw[rE,← c];refine⟨.ref s.heap.objs.size,_,I.laid (t':=s.toks) (o:=.lst (vZ xs lo d)) (λb ob q=>n7 _ q) (ql _) ?_,rfl,q _ (I.hok.fresh (ql _))⟩;exact⟨Xz (oJ xs lo d) hz,_,0,(r.drop (HT.sIx xs.length 0 lo)).take (HT.sIx xs.length xs.length d - HT.sIx xs.length 0 lo),Q0 _ rfl⟩
def eX:V->Bool
 | .non=>true
 | .bl _=>true
 | .int _=>true
 | .str _=>true
 | _=>false
def eqV:V->V->Bool
 | .non,.non=>true
 | .bl a,.bl b=>a == b
 | .bl a,.int b=>(if a then 1 else 0) == b
 | .int a,.bl b=>a == (if b then 1 else 0)
 | .int a,.int b=>a == b
 | .str a,.str b=>a == b
 | _,_=>false
def Gr{A:Around}{s:Shared}{y x:V}{u v:Value}(ry:RelV y u)(rx:RelV x v)(fy:eX y=true)(fx:eX x=true):SeqAt.EqAt A s u v (eqV y x):=by
 cases y with
 | non =>
  cases ry;cases x with
  | non=>cases rx;exact SeqAt.EqAt.same _
  | bl b=>cases rx;exact SeqAt.EqAt.none_bool b
  | int b=>obtain⟨t,rfl⟩:=rx;exact SeqAt.EqAt.none_int b t
  | str b=>obtain⟨t,rfl⟩:=rx;exact SeqAt.EqAt.none_str b t
  | _=>exact absurd (show false=true from fx) TF
 | bl a =>
  cases ry;cases x with
  | non=>cases rx;exact SeqAt.EqAt.bool_none a
  | bl b=>cases rx;exact SeqAt.EqAt.bool_bool a b
  | int b=>obtain⟨t,rfl⟩:=rx;exact SeqAt.EqAt.bool_int a b t
  | str b=>obtain⟨t,rfl⟩:=rx;exact SeqAt.EqAt.bool_str a b t
  | _=>exact absurd (show false=true from fx) TF
 | int a =>
  obtain⟨t',rfl⟩:=ry;cases x with
  | non=>cases rx;exact SeqAt.EqAt.int_none a t'
  | bl b=>cases rx;exact SeqAt.EqAt.int_bool a t' b
  | int b=>obtain⟨t,rfl⟩:=rx;exact SeqAt.EqAt.int_int a t' b t
  | str b=>obtain⟨t,rfl⟩:=rx;exact SeqAt.EqAt.int_str a t' b t
  | _=>exact absurd (show false=true from fx) TF
 | str a =>
  obtain⟨t',rfl⟩:=ry;cases x with
  | non=>cases rx;exact SeqAt.EqAt.str_none a t'
  | bl b=>cases rx;exact SeqAt.EqAt.str_bool a t' b
  | int b=>obtain⟨t,rfl⟩:=rx;exact SeqAt.EqAt.str_int a t' b t
  | str b=>obtain⟨t,rfl⟩:=rx;exact SeqAt.EqAt.str_str a t' b t
  | _=>exact absurd (show false=true from fx) TF
 | _=>exact absurd (show false=true from fy) TF
def eqU(x:V)(u:Value):Bool:=match u with
 | .none=>eqV .non x
 | .bool b=>eqV (.bl b) x
 | .int i _=>eqV (.int i) x
 | .str z _=>eqV (.str z) x
 | _=>false
def yD{x y:V}{u:Value}(r:RelV y u)(f:eX y=true):eqU x u=eqV y x:=by
 cases y with
 | non=>cases r;rfl
 | bl b=>cases r;rfl
 | int i=>obtain⟨t,rfl⟩:=r;rfl
 | str z=>obtain⟨t,rfl⟩:=r;rfl
 | _=>exact absurd (show false=true from f) TF
theorem nZ{x:V}:∀ {xs:List V}{a:List Value},Vals xs a->xs.all eX=true->a.any (eqU x)=xs.any λy=>eqV y x
 | _,_,.nil,_=>rfl
 | y::xs,u::a,.cons r t,f=>by
  rw[all_cons,Bool.and_eq_true] at f;rw[any_cons,any_cons,yD r f.1,nZ t f.2]
theorem gG{A:Around}{s:Shared}{x:V}{v:Value}(rx:RelV x v)(fx:eX x=true):∀ {xs:List V}{b:List Value},Vals xs b->xs.all eX=true->∀ u∈b,SeqAt.EqAt A s u v (eqU x u)
 | _,_,.nil,_=>λu a=>by cases a
 | y::xs,u::b,.cons r t,f=>λc a=>by
  rw[all_cons,Bool.and_eq_true] at f;rcases mem_cons.mp a with rfl | a
  .rw[yD r f.1];exact Gr r rx f.1 fx
  .exact gG rx fx t f.2 c a
def inV(x:V)(xs:List V):Bool:=xs.any λy=>eqV y x
def rIn(K:W.Frag)(neg:Bool):R2:=λx y H Q=>∃ p xs,y=.ref p/\(SqL K H p xs\/SqT K H p xs)/\eX x=true/\xs.all eX=true/\Q (.bl (if neg then !inV x xs else inV x xs)) H
def vg:OpR X (compareOp .In) (rIn X.K false):=by
 intro d s σ H x y v u Q I f g h;obtain⟨p,xs,rfl,b,e,fs,q⟩:=h;cases g;rcases b with b | b
 .obtain⟨a,r,pl,hz⟩:=I.list b;refine SeqAt.in_listAt (eqU x) pl.isList (λw c=>gG f e r fs w (by simpa using c)) ⟨.bl _,H,I,rfl,?_⟩;rw[show a.toArray.any (eqU x)=a.any (eqU x) by simp,nZ r fs];exact q
 .obtain⟨a,r,pl,hz⟩:=I.tuple b;refine SeqAt.in_tupleAt (eqU x) pl (λw c=>gG f e r fs w (by simpa using c)) ⟨.bl _,H,I,rfl,?_⟩;rw[show a.toArray.any (eqU x)=a.any (eqU x) by simp,nZ r fs];exact q
def gY:OpR X (compareOp .NotIn) (rIn X.K true):=by
 intro d s σ H x y v u Q I f g h;obtain⟨p,xs,rfl,b,e,fs,q⟩:=h;cases g;rcases b with b | b
 .obtain⟨a,r,pl,hz⟩:=I.list b;refine SeqAt.notIn_listAt (eqU x) pl.isList (λw c=>gG f e r fs w (by simpa using c)) ⟨.bl _,H,I,rfl,?_⟩;rw[show a.toArray.any (eqU x)=a.any (eqU x) by simp,nZ r fs];exact q
 .obtain⟨a,r,pl,hz⟩:=I.tuple b;refine SeqAt.notIn_tupleAt (eqU x) pl (λw c=>gG f e r fs w (by simpa using c)) ⟨.bl _,H,I,rfl,?_⟩;rw[show a.toArray.any (eqU x)=a.any (eqU x) by simp,nZ r fs];exact q
def cM:d7 X (.builtin "len") (λxs H Q=>∃ p ys,xs=[.ref p]/\(SqL X.K H p ys\/SqT X.K H p ys)/\Q (.int ys.length) H):=by
 intro e s σ H xs g Q I r h;obtain⟨p,ys,rfl,b,q⟩:=h;obtain⟨u,rfl,f⟩:=vals1 r;cases f;have i:=tO;rcases b with b | b
 .obtain⟨c,d,pl,hz⟩:=I.list b;have a:=d.length;exact Calls.call_len_list pl.isList (by simp only[XM] <;> lia) ⟨.int ys.length,H,I.tok _,⟨s.toks+1,by rw[XM,a]⟩,q⟩
 .obtain⟨c,d,pl,hz⟩:=I.tuple b;have a:=d.length;exact len_tuple pl (by simp only[XM] <;> lia) ⟨.int ys.length,H,I.tok _,⟨s.toks+1,by rw[XM,a]⟩,q⟩
def cO:d7 X (.type "list") (λxs H Q=>∃ p ys,xs=[.ref p]/\(SqL X.K H p ys\/SqT X.K H p ys)/\∀ l,H l=none->Q (.ref l) (upd H l (.lst ys))):=by
 intro g s σ H xs x Q I r h;obtain⟨p,ys,rfl,j,q⟩:=h;obtain⟨u,rfl,v⟩:=vals1 r;cases v;have i:∀(a:List Value),Vals ys a->ys.length<=sizeLine->∀(h':Heap)(c:Nat),(∀ b t,s.heap.get? b=some t->h'.get? b=some t) ->
   h'.get? s.heap.objs.size=some { cls:=.type "list",dict:=none,data:=.seq a.toArray c,slots:=#[] }->EP X g σ Q (.ref s.heap.objs.size) { s with heap:=h' }:=λa d hz h' c kp e =>
  ⟨.ref s.heap.objs.size,_,I.laid (t':=s.toks) kp (ql _) (show cW X.prog X.w _ h' _ (.lst ys) from⟨hz,a,c,d,e⟩),rfl,q _ (I.hok.fresh (ql _))⟩
 rcases j with j | j
 .obtain⟨a,d,pl,hz⟩:=I.list j;have f:=d.length;obtain⟨o,m,k,n,hd⟩:=pl.isList;exact call_list_seq p (.inl rfl) m k hd (λh' c kp e=>i a d hz h' c kp e) (by simp only[XM] <;> lia)
 .obtain⟨a,d,pl,hz⟩:=I.tuple j;have f:=d.length;obtain⟨o,m,k,n,hd⟩:=pl;exact call_list_seq p (.inr rfl) m k hd (λh' c kp e=>i a d hz h' c kp e) (by simp only[XM] <;> lia)
def sY:d7 X (.type "tuple") (λxs H Q=>∃ p ys,xs=[.ref p]/\((SqL X.K H p ys/\∀ l,H l=none->Q (.ref l) (upd H l (.tup ys)))\/(SqT X.K H p ys/\Q (.ref p) H))):=by
 intro a s σ H xs m Q I r h;obtain⟨p,ys,rfl,h⟩:=h;obtain⟨u,rfl,k⟩:=vals1 r;cases k;rcases h with⟨f,q⟩ | ⟨f,q⟩
 .obtain⟨c,d,pl,hz⟩:=I.list f;have g:=d.length;refine call_tuple_list pl.isList (λh' kp=>?_) (by simp only[XM] <;> lia);have i:Inv X a σ H { s with heap:=h' }:=I.kept (t':=s.toks) kp;have j:Inv X a σ (upd H h'.objs.size (.tup ys)) { s with heap:=h'.push { cls:=.type "tuple",data:=.seq c.toArray } } :=
   i.laid (t':=s.toks) (λb o e=>n7 _ e) (ql _) (show cW X.prog X.w _ _ _ (.tup ys) from⟨hz,c,d,IsTup.new _ _⟩)
  exact⟨.ref h'.objs.size,_,j,rfl,q _ (i.hok.fresh (ql _))⟩
 .obtain⟨c,d,pl,hz⟩:=I.tuple f;exact call_tuple_same pl ⟨.ref p,H,I,rfl,q⟩
def tyV(K:W.Frag)(T:String)(x:V)(H:Hp):Prop:=match x with
 | .str _=>T = "str"
 | .int _=>T = "int"
 | .ref p=>(T = "list"/\∃ xs,SqL K H p xs)\/(T = "tuple"/\∃ o,K.lookup p=some o/\o.cls=.type "tuple"/\o.dict=none) \/
   (T = "dict"/\((∃ a,H p=some (.dK a))\/∃ a,H p=some (.dT a)))\/(T = "set"/\∃ S n,H p=some (.set S n))
 | _=>False
def Qd{pins:List (Addr × Obj)}{σ:St}{H:Hp}{s:Shared}{T:String}{x:V}{v:Value}(I:Inv X pins σ H s)(r:RelV x v)(ty:tyV X.K T x H) :
  s.TypeIs v T/\∀ a,v=.ref a->∃ ob,s.heap.get? a=some ob/\ob.dict=none:=by
 cases x with
 | str z =>
  obtain⟨t,rfl⟩:=r;cases(show T = "str" from ty);exact⟨typeIs_str s z t,λ_ e=>nomatch e⟩
 | int i =>
  obtain⟨t,rfl⟩:=r;cases(show T = "int" from ty);exact⟨typeIs_int s i t,λ_ e=>nomatch e⟩
 | ref p =>
  cases r;rcases ty with⟨rfl,xs,j⟩ | ⟨rfl,o,b,h,hd⟩ | ⟨rfl,b⟩ | ⟨rfl,S,n,b⟩
  .obtain⟨g,_,pl,_⟩:=I.list j;refine⟨pl.isList.typeIs,λa e=>?_⟩;cases e;obtain⟨o,n,e,c,hd,_⟩:=pl;exact⟨o,e,hd⟩
  .refine⟨⟨o,I.kIn p o b,h⟩,λa e=>?_⟩;cases e;exact⟨o,I.kIn _ o b,hd⟩
  .have z:∃ o,s.heap.get? p=some o/\o.ExactDict:=by
    rcases b with⟨d,b⟩ | ⟨d,b⟩
    .obtain⟨_,_,_,_,o,_,_,e,ex,_⟩:=I.hok p _ b;exact⟨o,e,ex⟩
    .obtain⟨_,_,_,_,o,_,_,e,ex,_⟩:=I.hok p _ b;exact⟨o,e,ex⟩
   obtain⟨o,e,ex⟩:=z;refine⟨⟨o,e,ex.1⟩,λa f=>?_⟩;cases f;exact⟨o,e,ex.2.1⟩
  .obtain⟨o,_,_,_,e,ex,_⟩:=I.hok p _ b;refine⟨⟨o,e,ex.1⟩,λa f=>?_⟩;cases f;exact⟨o,e,ex.2.1⟩
 | _=>exact False.elim ty
def tBM(K:W.Frag)(T:String)(r:V->List V->Hp->VK->Prop)(to:TE)(t:TA):TE:=λσ H Q=>to σ H λx a=>tyV K T x a/\t σ a λxs b=>r x xs b Q
variable {o e:Expr}{es:List Expr}{to:TE}{t:TA}{name:Str}{apos cpos:Pos}{T id:String}{r:V->List V->Hp->VK->Prop}
theorem PK(pa:PlainAttrs T)(slot:Slot T name id)(hty:typeOf (.builtin id)=pure (.type "method_descriptor"))(hm:MtR X id r)(ho:PE X o to)(ha:PA X (e::es) t)
  (hbase:attributeBase o name X.env (eval o X.env)=eval o X.env:=by rfl)
  (hfew:((backTo cpos (starEach (e::es) X.env)).all (λx=>!x.1) && (backToKw cpos (keywordEach [] X.env)).all (λx=>x.1.isSome)
   && decide ((e::es).length+([]:List Keyword).length+(if ([]:List Keyword).isEmpty then 0 else 1)<30))=true:=by rfl)
  (hline:(apos.endLine == cpos.line)=true:=by rfl)(hs:starEach (e::es) X.env=(false,eval e X.env)::starEach es X.env:=by rfl)(hplain:(backTo cpos (starEach es X.env)).any (·.1)=false:=by rfl) :
  PE X (.Call (.Attribute o name apos) (e::es) [] cpos) (tBM X.K T r to t):=by
 intro a s σ H Q I h;refine wpAny_Call_method_late hbase hfew hline rfl (thn (ho a s σ H _ I h) λv u ⟨x,g,c,d,ty,i⟩=>?_);obtain⟨k,l⟩:=Qd c d ty;refine⟨T,id,pa,slot,hty,k,l,?_⟩;have b:=ha cpos a u σ g _ c i;rw[hs] at b ⊢;refine Calls.callWith_builtin (by show(false || (backTo cpos (starEach es X.env)).any (·.1))=false;rw[hplain] <;> rfl) (Calls.evalArgs_plain ?_);exact thn b λw p ⟨m,f,q,j,n⟩=>hm a p σ f x m v w Q q d j n
end
def MtM(X:Cx)(id:String)(r:V->List V->Hp->VK->Prop):Prop :=
 ∀(pins:List (Addr × Obj))(s:Shared)(σ:St)(H:Hp)(x:V)(xs:List V)(v:Value)(us:List Value)(Q:VK),Inv X pins σ H s->RelV x v->Vals xs us->r x xs H Q ->
  wpAny (model X.prog X.w) X.A (call (.builtin id) (v::us)) (EP X pins σ Q) X.xe s
def Vals.one:∀ {x:V}{us:List Value},Vals [x] us->∃ u,us=[u]/\RelV x u
 | _,_,.cons r .nil=>⟨_,rfl,r⟩
theorem Vals.eraseIdx:∀ {xs:List V}{us:List Value} (i:Nat),Vals xs us->Vals (xs.eraseIdx i) (us.eraseIdx i)
 | _,_,_,.nil=>.nil
 | _,_,0,.cons _ t=>t
 | _,_,i+1,.cons r t=>.cons r (Vals.eraseIdx i t)
theorem Vals.rep{xs:List V}{us:List Value}(h:Vals xs us):∀ k:Nat,Vals (List.replicate k xs).flatten (List.replicate k us).flatten
 | 0=>.nil
 | k+1=>by
  rw[replicate_succ,replicate_succ,flatten_cons,flatten_cons];exact Vals.append h (Vals.rep h k)
theorem nM{α:Type}:∀(l:List α)(i:Nat),(l.eraseIdx i).length<=l.length
 | [],_=>ql _
 | _::_,0=>Nat.le_succ _
 | _::r,i+1=>Nat.succ_le_succ (nM r i)
theorem foldl_rep(its:List Value):∀(k:Nat)(a:List Value),
  List.foldl (λb c=>b++c) a.toArray (List.replicate k its.toArray)=(a++(List.replicate k its).flatten).toArray
 | 0,a=>by simp
 | k+1,a=>by
  have e:a.toArray++its.toArray=(a++its).toArray:=by simp
  have d:(a++its)++(List.replicate k its).flatten=a++(List.replicate (k+1) its).flatten:=by
   rw[replicate_succ,flatten_cons,append_assoc]
  rw[← d,← foldl_rep its k (a++its),← e,replicate_succ,foldl_cons]
section
variable {X:Cx}{pins:List (Addr × Obj)}{σ:St}{H:Hp}{s:Shared}{l b:Addr}{xs ys zs:List V}
def Inv.lset{its its':List Value}{n:Nat}{f:Array Value->Array Value}{t':Nat}(I:Inv X pins σ H s)(hH:H l=some (.lst xs))
  (e:s.heap.get? l=some { cls:=.type "list",data:=.seq its.toArray n })(hf:f its.toArray=its'.toArray)(hv:Vals ys its')(hz:ys.length<=sizeLine) :
  Inv X pins σ (upd H l (.lst ys)) { s with heap:=s.heap.update l (Obj.mapSeq f),toks:=t' }:=by
 have q:=PySem.IsL.update e f;rw[hf] at q;refine I.write (x:=l) (e:=l) (by rw[hH];exact trivial) (.inl rfl) (λc u b a=>(Heap.get?_update_other s.heap (Obj.mapSeq f) (Ne.symm b)).trans a) ⟨_,q⟩ ?_;exact⟨hz,its',_,hv,q⟩
def Inv.lnew{its:List Value}{t':Nat}(I:Inv X pins σ H s)(hv:Vals ys its)(hz:ys.length<=sizeLine) :
  Inv X pins σ (upd H s.heap.objs.size (.lst ys)) { s with heap:=s.heap.push { cls:=.type "list",data:=.seq its.toArray },toks:=t' } :=
 I.laid (λ_ _ q=>n7 _ q) (ql _) ⟨hz,its,0,hv,Q0 _ rfl⟩
def Inv.fresh(I:Inv X pins σ H s):H s.heap.objs.size=none:=I.hok.fresh (ql _)
def Inv.lstM(I:Inv X pins σ H s)(hH:H l=some (.lst xs)):xs.length<=sizeLine/\∃(a:List Value)(n:Nat),Vals xs a/\xs.length=a.length/\s.heap.get? l=some { cls:=.type "list",data:=.seq a.toArray n }:=by
 obtain⟨z,a,n,r,e⟩:=I.hok l _ hH;exact⟨z,a,n,r,r.length,e⟩
def nj{n:Nat}(h:n<=sizeLine):Builtin.List.listTooLong n=false:=by
 unfold Builtin.List.listTooLong;exact Xp (by lia)
def Ku:V->List V->Hp->VK->Prop:=λx a H Q=>∃ l xs y,x=.ref l/\a=[y]/\H l=some (.lst xs)/\xs.length<sizeLine/\Q .non (upd H l (.lst (xs++[y])))
def bJ:MtM X "list.append" Ku:=by
 intro b s σ H x j v k Q I g d h;obtain⟨l,xs,y,rfl,rfl,c,hz,q⟩:=h;cases g;obtain⟨u,rfl,f⟩:=d.one;obtain⟨z,a,n,r,i,e⟩:=I.lstM c;refine call_meets F.slot_list_append ⟨_,e,rfl⟩ F.entry_list_append (F.args_list_append_2 _ _) (PySem.list_append l a.toArray n u (by rw[XM];lia)) ⟨e,?_⟩;refine⟨.non,_,I.lset (its':=a++[u]) c e (by simp) (r.append (.cons f .nil)) ?_,rfl,q⟩;rw[Xr,length_singleton];lia
def K1:V->List V->Hp->VK->Prop:=λx a H Q=>∃ l b xs zs,x=.ref l/\a=[.ref b]/\H l=some (.lst xs)/\H b=some (.lst zs)/\xs.length+zs.length<=sizeLine/\Q .non (upd H l (.lst (xs++zs)))
def QB:MtM X "list.extend" K1:=by
 intro g s σ H x A v B Q I j w h;obtain⟨l,b,xs,zs,rfl,rfl,f,p,hz,q⟩:=h;cases j;obtain⟨u,rfl,i⟩:=w.one;cases i;obtain⟨z,c,n,r,y,e⟩:=I.lstM f;obtain⟨C,a,k,t,o,m⟩:=I.lstM p;have hsz:c.toArray.size+a.toArray.size<=sizeLine:=by rw[XM,XM];lia
 have d:¬ (!c.toArray.isEmpty && Builtin.List.listTooLong (c.toArray.size+a.toArray.size))=true:=by
  rw[nj hsz,Bool.and_false];exact TF
 refine call_meets F.slot_list_extend ⟨_,e,rfl⟩ F.entry_list_extend (F.args_list_extend_2 _ _)
  (AutoSeq1.list_extend_list_list_0 l c.toArray n b a.toArray k d (by rw[XM];lia) (by lia)) ⟨e,m,?_⟩
 refine⟨.non,_,I.lset (its':=c++a) f e (by simp) (r.append t) ?_,rfl,q⟩;rw[Xr];lia
def O1:V->List V->Hp->VK->Prop:=λx a H Q=>∃ l xs i k y,x=.ref l/\a=[.int i]/\H l=some (.lst xs)/\-(2^63)<=i/\i<2^63/\seqIndex? i xs.length=some k/\xs[k]?=some y/\Q y (upd H l (.lst (xs.eraseIdx k)))
def zf:MtM X "list.pop" O1:=by
 intro c s σ H x D v E Q I C A h;obtain⟨l,xs,i,k,y,rfl,rfl,d,f,p,j,g,q⟩:=h;cases C;obtain⟨u,rfl,B⟩:=A.one;obtain⟨t,rfl⟩:=B;obtain⟨z,a,n,r,m,e⟩:=I.lstM d;obtain⟨w,o,b⟩:=r.get g;refine call_meets F.slot_list_pop ⟨_,e,rfl⟩ F.entry_list_pop (F.args_list_pop_2 _ _)
  (MeetsSeq.list_pop_at l a.toArray n i t k w (fitsIndex_both f p) (by rw[XM,← m];exact j) (by rw[← Array.getElem?_toList];exact o) (by rw[XM];lia)) ⟨e,?_⟩
 refine⟨y,_,I.lset (its':=a.eraseIdx k) d e ?_ (r.eraseIdx k) ?_,b,q⟩
 .show a.toArray.eraseIdxIfInBounds k=(a.eraseIdx k).toArray;rw[List.eraseIdxIfInBounds_toArray]
 .have:=nM xs k;lia
def TX:R2:=λx y H Q=>∃ l b xs zs,x=.ref l/\y=.ref b/\H l=some (.lst xs)/\H b=some (.lst zs)/\xs.length+zs.length<=sizeLine/\∀ p,H p=none->Q (.ref p) (upd H p (.lst (xs++zs)))
def jw:OpR X (binaryOp .Add) TX:=by
 intro d s σ H x y v u Q I p k h;obtain⟨l,b,xs,zs,rfl,rfl,m,f,hz,q⟩:=h;cases p;cases k;obtain⟨z,c,n,r,t,e⟩:=I.lstM m;obtain⟨A,a,w,g,i,j⟩:=I.lstM f;refine PySem.P.add_list e j ?_ (by rw[XM,XM];lia);have o:c.toArray++a.toArray=(c++a).toArray:=by simp
 rw[o];exact⟨.ref _,_,I.lnew (t':=s.toks) (r.append g) (by rw[Xr];lia),rfl,q _ I.fresh⟩
def T9:R2:=λx y H Q=>∃ l k xs,x=.ref l/\y=.int k/\H l=some (.lst xs)/\-(2^63)<=k/\k<2^63/\xs.length*k.toNat<=sizeLine /\
 ∀ p,H p=none->Q (.ref p) (upd H p (.lst (List.replicate k.toNat xs).flatten))
def len_rep{α:Type}(xs:List α)(k:Nat):(List.replicate k xs).flatten.length=k*xs.length:=by
 induction k with
 | zero=>simp
 | succ k a=>rw[replicate_succ,flatten_cons,Xr,a,Nat.succ_mul,Nat.add_comm]
def J7:OpR X (binaryOp .Mult) T9:=by
 intro p s σ H x y v u Q I B w h;obtain⟨l,k,xs,rfl,rfl,A,D,G,hz,q⟩:=h;cases B;obtain⟨t,rfl⟩:=w;obtain⟨z,b,n,r,C,e⟩:=I.lstM A;have d:b.toArray.size*k.toNat<=sizeLine:=by rw[XM,← C];exact hz
 have g:¬ b.toArray.size*k.toNat>(2^63 - 1) / 8:=by
  have:(sizeLine:Nat)<=(2^63 - 1) / 8:=by decide
  lia
 have i:¬ (!Builtin.List.listFitsIndex k)=true:=by
  rw[fitsIndex_both D G];exact TF
 have c:¬ Builtin.List.listTooLong (b.toArray.size*k.toNat)=true:=by
  rw[nj d];exact TF
 have f:List.foldl (λo j=>o++j) #[] (List.replicate (if b.toArray.isEmpty=true then 0 else k.toNat) b.toArray)=(List.replicate k.toNat b).flatten.toArray:=by
  have E:∀ m:Nat,List.foldl (λo j=>o++j) #[] (List.replicate m b.toArray)=(List.replicate m b).flatten.toArray:=λm=>by
   have:=foldl_rep b m [];rw[List.nil_append] at this;exact this
  rw[E];cases b with
  | nil=>simp
  | cons a J=>rw[if_neg (by simp)]
 refine wpAny_binaryOp_repeat_ref (T:="list") (U:="int") (by decide) ⟨_,e,rfl⟩ (λs'=>typeIs_int s' k t) noFill_list_mul F.fills_int_mul F.slot_int_rmul repeat_list F.slot_int_index.lookup
  (call_meets F.slot_int_rmul (typeIs_int s k t) F.entry_int_rmul (F.args_int_rmul_2 _ _) (int___rmul___int_list k t l b.toArray n)
   ⟨e,rfl,⟨_,e,rfl⟩,call_meets F.slot_list_mul ⟨_,e,rfl⟩ F.entry_list_mul (F.args_list_mul_2 _ _) (AutoListH.list___mul___list_int_3 l b.toArray n k t i g c) ⟨e,?_⟩⟩)
 rw[f];exact⟨.ref _,_,I.lnew (t':=s.toks) (r.rep k.toNat) (by rw[len_rep,Nat.mul_comm];exact hz),rfl,q _ I.fresh⟩
variable {prog:Program}{w:World}{A:Around}{E:Value->Shared->Prop}
theorem Pb(its its2:List Value)(a c:Nat):its.toArray.extract 0 a++its2.toArray++its.toArray.extract c its.toArray.size=(its.take a++its2++its.drop c).toArray:=by
 grind
end
end L2
namespace Att
open PySem PySem.W PySem.Calls PyProof.Rows
def pO{P:Params}{h:Heap}:∀(ns:List Int)(c:List Value),WellAll P h c (ns.map WData.int)->IntsAre c ns:=by
 intro ns
 induction ns with
 | nil =>
  intro c w;rw[map_nil] at w;cases w;exact .nil
 | cons n ns d =>
  intro c w;rw[map_cons] at w;cases w with
  | cons a b =>
   cases a;exact .cons _ _ (d _ b)
def Ds{l:OpenLaw}{n:Nat}(hn:l.most=some n){P:Params}{h:Heap}{args:List WData}{vals:List Value}
  (hpre:l.row.toRowW.claim.pre args=true)(hwl:WellAll P h vals args) :
  ∃ a j ns,vals=[Value.ref a]/\args=[WData.list (ns.map WData.int)]/\h.get? a=some { cls:=.type "list",data:=.seq j.toArray }/\IntsAre j ns/\ns.length<=n:=by
 have g:WShape.hasAll [] args [.list .int]=true:=(pre_splitW hpre).1;have i:l.pre.holds [] { args:=args }=true:=(pre_splitW hpre).2;obtain⟨d,r,rfl,k,m⟩:=hasAllW_cons g;obtain rfl:=hasAllW_nil m;obtain⟨xs,rfl,s⟩:=hasW_list k;obtain⟨ns,rfl⟩:=items_int s;have b:ns.length<=n:=by
  unfold OpenLaw.pre at i;have f:(WTm.not (.lt (.lit (.int (n:Int))) (.len (.arg 0)))).holds [] { args:=[.list (ns.map .int)] }=true:=by
   have f:=(holds_andW i).1;rw[hn] at f;exact f
  have e:=condW_of f (w_not (w_lt w_lit (w_len_list (w_arg rfl))));rw[XF] at e;refine Nat.le_of_not_lt λq=>?_
  have p:(n:Int)<((ns.length:Nat):Int):=by lia
  first
   | (rw[XD p] at e;exact absurd e (by decide))
   | (simp at e;lia)
 cases hwl with
 | cons u t =>
  cases t;cases u with
  | list o c=>exact⟨_,_,ns,rfl,rfl,o,pO ns _ c,b⟩
def BL(l:OpenLaw)(args:List WData):l.row.toRowW.claim.post args (.bool true) args=true :=
 postW_of (r:=l.row.toRowW) (X:=(true == true))
  (show WShape.has [] (.bool true) .bool=true by first | rfl | decide | simp[WShape.has,WShape.arms,WShape.armsAll])
  (show(WTm.eq .res (.lit (.bool true))).value [] { args:=args,res:=some (.bool true),after:=args }=some (.bool (true == true)) from w_eq_bool (w_res rfl) w_lit) rfl
def vY{l:OpenLaw}{n:Nat}{q:Program}{loose:List Str}{XP:(Str->Option Value)->Heap->Prop}{YP:World->Heap->Prop}{d:DefRec}
  (hn:l.most=some n)(hdf:d.params.defaults=[])
  (call:∀(w:World)(s₀ b:Shared)(mg p:Str->Option Value)(k:Addr)(o:Obj)(s m c:Value)(a:Addr)(g:List Value)(ns:List Int),
   Ground q loose [] XP w s₀ mg p b.heap->YP w b.heap ->
   b.heap.get? k=some o->o.data=.func (docDef d.name d.params d.body d.scope s m c)->b.heap.CodeRec m d.name->mg d.name=some (.ref k) ->
   b.heap.get? a=some { cls:=.type "list",data:=.seq g.toArray }->IntsAre g ns->ns.length<=n->b.gens = #[] ->
   codeAny (model l.prog w) callerA (.call (.ref k) ⟨[.ref a],[]⟩) (λr s'=>r=.ok (.ret (.bool true))/\OldK b.heap s'.heap/\s'.os=b.os/\AllBare s'.gens) b) :
  WalkO q loose XP YP l.row.toRowW d [] (λf g=>PySem.call f g):=by
 intro w s₀ b mg p G Y k o s m c z kV E hd t y u hg args vals as j x A v B;obtain rfl:z=.none:=Dflts.none y hdf;obtain rfl:kV=.none:=Dflts.noKw y;obtain⟨a,g,ns,rfl,rfl,h,e,i⟩:=Ds hn j v;refine enter_call (codeAny_mono (call w s₀ b mg p k o s m c a g ns G Y E (fd_plain hd) t u h e i hg) λr s' I=>?_);obtain⟨rfl,D,H,F⟩:=I;exact⟨.inl ⟨.bool true,.bool true,[],rfl,λ_=>rfl,.bool true,BL l _,λ_=>⟨List.Pairwise.nil,λ_ C=>(nomatch C)⟩⟩,D,H,F⟩
section
variable {prog:Program}{w:World}{A:Around}{E:Value->Shared->Prop}{s:Shared}{K:Frag}
end
end Att
namespace L2
open PySem PySem.Spec PyProof.Rows
theorem uz:∀ {vs:List Value}{ns:List Int},IntsAre vs ns->Vals (ns.map V.int) vs
 | _,_,.nil=>.nil
 | _,_,.cons n t h=>.cons ⟨t,rfl⟩ (uz h)
def Only(H:Hp):Prop:=∀ b,H b=none\/∃ o xs,H b=some (.frz o (.lst xs))
def IV{P:Program}{w:World}{K:W.Frag}{mg mb:Str->Option Value}{CX:CXT}{k:Nat}{fa a:Addr}{fd:FuncData}{x:Str}{sp:Sp}{s₁:Shared}{vs:List Value}{ns:List Int}
  (KX:K.In s₁.heap)(hns:s₁.heap.Ns mainGlobals mg)(f:s₁.heap.Ns builtinsNs mb)(hbb:∀ x:Str,x ≠ "__name__"->mb x=bootBuiltins x)(hlim:s₁.heap.NoLimit)(hg:s₁.gens = #[])
  (ha:s₁.heap.get? a=some { cls:=.type "list",data:=.seq vs.toArray })(hi:IntsAre vs ns)(hl:ns.length<=sizeLine)(hr:lZ k callerA)
  (F:∀ base:Heap,K.In base->base.Ns mainGlobals mg->vH P w K mg base CX k fa fd [x] sp)(hbind:∀(s:Shared)(u:Value),BindsTo s fd ⟨[u],[]⟩ [(x,u)])
  (hsp:∀ H:Hp,Only H->SqL K H a (ns.map V.int)->sp [.ref a] H (λv _=>v=.bl true) λ_ _ _=>False)
  (A:∀ H e s',CX [] H s₁ (λ_ _ _=>False) e s'->False) :
  codeAny (model P w) callerA (.call (.ref fa) ⟨[.ref a],[]⟩) (λr s'=>r=.ok (.ret (.bool true))/\OldK s₁.heap s'.heap/\s'.os=s₁.os/\AllBare s'.gens) s₁:=by
 have D:=uz hi;have lenV:=hi.length;have i:∀ H:Hp,Only H->SqL K H a (ns.map V.int)->HOk P w H s₁.heap->(∀ b,H b≠none->b=a)->(H a≠none->K.lookup a=none) ->
   codeAny (model P w) callerA (.call (.ref fa) ⟨[.ref a],[]⟩) (λr s'=>r=.ok (.ret (.bool true))/\OldK s₁.heap s'.heap/\s'.os=s₁.os/\AllBare s'.gens) s₁:=by
  intro H hO J hok C O;have c:∀ {b:Addr}{o:Obj},s₁.heap.get? b=some o->H b=none->(G6 s₁.heap H).get? b=some o:=λe n=>Jf e n
  have t:∀ {b:Addr}{o:Obj}{es:Array DictEntry}{ep:Nat},s₁.heap.get? b=some o->o.data=.dict es ep->H b=none:=fun {b o es ep} e d=>by
   cases q:H b with
   | none=>rfl
   | some u =>
    have y:b=a:=C b (by rw[q];simp);subst y;rw[ha] at e;cases e;have d':Data.seq vs.toArray _=Data.dict es ep:=d;cases d'
  have g:∀ {b:Addr}{m:Str->Option Value},s₁.heap.Ns b m->(G6 s₁.heap H).Ns b m:=fun {b m} ⟨o,es,ep,e,d,r⟩=>⟨o,es,ep,c e (t e d),d,r⟩
  have p:K.In (G6 s₁.heap H):=λb o e=>c (KX b o e) (by
   cases q:H b with
   | none=>rfl
   | some u =>
    have y:b=a:=C b (by rw[q];simp);subst y;rw[O (by rw[q];simp)] at e;cases e)
  have E:Mod K mg (G6 s₁.heap H):=⟨p,g hns,⟨mb,g f,hbb⟩,let ⟨mc,h1,h2⟩:=hlim;⟨mc,g h1,h2⟩⟩
  have G:QL P w K mg (G6 s₁.heap H) callerA [] s₁ H:=⟨rfl,E,λb o e=>MK e,Nat.le_of_eq (Gq _ _),trivial,λb f=>absurd (show b∈([]:List Addr) from f) (by simp),hok,.of_eq hg⟩
  refine codeAny_mono ((F _ p (g hns)).run callerA [] s₁ H ⟨[.ref a],[]⟩ [.ref a] [.ref a] _ _ hr G (hbind s₁ (.ref a)) (.cons rfl .nil) (hsp H hO J)) λr s' h=>?_
  cases r with
  | error e=>exact(A H e s' h).elim
  | ok I =>
   cases I with
   | next=>exact False.elim h
   | brk=>exact False.elim h
   | cont=>exact False.elim h
   | ret u =>
    obtain⟨v,R,os,bare,un,j,L,q⟩:=h;have N:v=.bl true:=q;subst N;obtain rfl:u=Value.bool true:=L;refine⟨rfl,OldK.of_keep λb o e=>?_,os,bare⟩;cases q:H b with
    | none=>exact un.keep b o e q (by intro z;exact absurd (show b∈([]:List Addr) from z) (by simp)) (by simp)
    | some u =>
     rcases hO b with z | ⟨ob,xs,z⟩
     .rw[q] at z;cases z
     .have Q:=un.frzs b ob _ z;obtain⟨B,_⟩:=hok b _ z;obtain⟨M,_⟩:=j b _ Q;rw[e] at B;cases B;exact M
 cases hk:K.lookup a with
 | some o =>
  have e:=KX a o hk;rw[ha] at e;cases e;refine i (λ_=>none) (λ_=>.inl rfl) (.inr ⟨_,vs.toArray,_,hk,rfl,rfl,rfl,by rw[XM,lenV];exact hl,by simpa using D⟩) (λb u z=>by have l:(none:Option HO)=some u:=z;cases l) (λb z=>absurd rfl z) λz=>absurd rfl z
 | none =>
  refine i (λb=>if b=a then some (.frz { cls:=.type "list",data:=.seq vs.toArray } (.lst (ns.map V.int))) else none) (λb=>?_) (.inl (.inr ⟨{ cls:=.type "list",data:=.seq vs.toArray },if_pos rfl⟩)) (λb u z=>?_) (λb z=>?_) λ_=>hk
  .by_cases f:b=a
   .exact .inr ⟨_,_,if_pos f⟩
   .exact .inl (if_neg f)
  .by_cases f:b=a
   .have l:=(if_pos f).symm.trans z;cases l;subst f;exact⟨ha,by rw[XF];exact hl,vs,_,D,ha⟩
   .have l:=(if_neg f).symm.trans z;cases l
  .by_cases f:b=a
   .exact f
   .exact absurd (if_neg f) z
def Ly{l:W.OpenLaw}{n k:Nat}{q:Program}{loose:List Str}{XP:(Str->Option Value)->Heap->Prop}{YP:World->Heap->Prop}{d:DefRec}{K:Params->W.Frag}{CX:World->CXT}{sp:World->Sp}{x:Str}
  (hn:l.most=some n)(hn2:n<=sizeLine)(hdf:d.params.defaults=[])(hr:lZ k callerA)
  (hY:∀(w:World)(h:Heap),YP w h->(K w.params).In h)
  (F:∀(w:World)(mg:Str->Option Value)(m:Addr)(h:Heap),(K w.params).In h->h.Ns mainGlobals mg->mg d.name=some (.ref m) ->
   ∃ p:FuncData,(∀(s:Shared)(u:Value),BindsTo s p ⟨[u],[]⟩ [(x,u)]) /\
    ∀ base:Heap,(K w.params).In base->base.Ns mainGlobals mg->vH l.prog w (K w.params) mg base (CX w) k m p [x] (sp w))
  (hsp:∀(w:World)(H:Hp)(a:Addr)(ns:List Int),ns.length<=n->Only H->SqL (K w.params) H a (ns.map V.int)->sp w [.ref a] H (λv _=>v=.bl true) λ_ _ _=>False)
  (r:∀(w:World)(H:Hp)(s:Shared)(e:Value)(s':Shared),CX w [] H s (λ_ _ _=>False) e s'->False) :
  W.WalkO q loose XP YP l.row.toRowW d [] (λf y=>PySem.call f y):=by
 refine Att.vY hn hdf λw s₀ A mg J m o L M B a y ns G Y N hd E t j i c hg=>?_
 have z:=hY w _ Y;obtain⟨p,C,D⟩:=F w mg m _ z G.T.g t;exact IV z G.T.g G.T.b G.T.builtins G.T.nolimit hg j i (Xz c hn2) hr D C (λH hO I=>hsp w H a ns c hO I) λH e s'=>r w H A e s'
def iG(s:Stmt):Arguments:=match s with
 | .FunctionDef _ a _ _ _ _ _ _ _ _=>a
 | _=>{ posonlyargs:=[],args:=[],vararg:=none,kwonlyargs:=[],kw_defaults:=[],kwarg:=none,defaults:=[] }
def fB(s:Stmt):List Stmt:=match s with
 | .FunctionDef _ _ b _ _ _ _ _ _ _=>b
 | _=>[]
def aC(s:Stmt):Scope:=match s with
 | .FunctionDef _ _ _ _ _ _ sc _ _ _=>sc
 | _=>{ kind:=.function,names:=[],isGenerator:=false,isCoroutine:=false }
abbrev CX0:CXT:=λ_ _ _ _ _ _=>False
abbrev E0:XK:=λ_ _ _=>False
def R4{X:Cx}:Passes CX0 X E0:=λ_ _ _ _ _ _ _ h=>h.elim
structure Fun(K:W.Frag)(x qual:Str)(st:Stmt)(f:Addr)(fd:FuncData):Prop where
 ex:∃(oc:Value)(od:Option Addr)(kV doc pm:Value)(an:Option Addr)(cdv ct:Value)(osl:Array (Option Value)),
  fd=W.fnOf x qual (iG st) (fB st) (aC st) .none kV doc pm an cdv ct/\K.lookup f=some ⟨oc,od,.func fd,osl⟩/\W.codeIn K cdv qual=true
 kp:W.keepIn K (.ref f)=true
section
variable {P:Program}{w:World}{K:W.Frag}{mg:Str->Option Value}{base:Heap}
def Fun.ok{x qual:Str}{st:Stmt}{f:Addr}{fd:FuncData}{N ps:List Str}{k:Nat}{sp:Sp}(F:Fun K x qual st f fd)(S:aU N ps (aC st))(len:∀ b H Q E,sp b H Q E->b.length=ps.length)
  (hbody:∀(a:Value)(A:Around)(outer:List Env)(s:Shared)(H:Hp)(b:List V)(Q:VK)(E:XK),lZ k (A.deeper (envOfC qual (aC st) s.heap.objs.size f a))->sp b H Q E ->
   ∃ t,PSs (zH CX0 P w K mg base N qual (aC st) f a A outer s H E).nox (fB st) t/\t { nx:=λ_ g=>Q .non g,rt:=Q } (start N b) H):vH P w K mg base CX0 (k+1) f fd ps sp:=by
 obtain⟨n,m,kV,j,l,an,a,ct,i,rfl,lk,d⟩:=F.ex;refine Nu lk d S len λA outer s H b Q E e c=>?_
 obtain⟨t,h,q⟩:=hbody a A outer s H b Q E e c;exact⟨t,h.nox,q⟩
def Fun.binds{x qual:Str}{st:Stmt}{f:Addr}{fd:FuncData}{ps:List Str}(F:Fun K x qual st f fd)
  (h:∀(kV a c:Value)(an:Option Addr)(b ct:Value)(us:List Value),us.length=ps.length->bindArgs (W.fnOf x qual (iG st) (fB st) (aC st) .none kV a c an b ct) ⟨us,[]⟩=pure (ps.zip us)):Binds K fd ps []:=by
 obtain⟨g,i,kV,a,c,an,b,ct,d,rfl,lk,e⟩:=F.ex;exact .all (h kV a c an b ct)
def Jx{x qual:Str}{st:Stmt}{f:Addr}{oc:Value}{od an:Option Addr}{osl:Array (Option Value)}{kV doc pm cdv ct:Value}(l:K.lookup f=some ⟨oc,od,.func (W.fnOf x qual (iG st) (fB st) (aC st) .none kV doc pm an cdv ct),osl⟩)
  (c:W.codeIn K cdv qual=true)(k:W.keepIn K (.ref f)=true):Fun K x qual st f (W.fnOf x qual (iG st) (fB st) (aC st) .none kV doc pm an cdv ct):=⟨⟨oc,od,kV,doc,pm,an,cdv,ct,osl,rfl,l,c⟩,k⟩
end
def bZ{A:Around}{k:Nat}(hr:lZ k A):A.units+1<cLine:=Nat.lt_of_le_of_lt (Nat.add_le_add_left (by decide:1<=64) _) hr.units
def aH{n:Nat}(h:n<=1000):n<sizeLine:=Nat.lt_of_le_of_lt h (by decide)
section
variable {X:Cx}
def pv(i:Nat){x:Str}{pos:Pos}(hN:X.N[i]?=some x:=by rfl)(hv:Vis X.env.scope x:=by first | exact Or.inl rfl | exact Or.inr (Or.inl rfl) | exact Or.inr (Or.inr rfl))(hd:(x == ("__debug__" : Str))=false:=by decide)
  (hcd:(x == ("__classdict__" : Str))=false:=by decide):PE X (.Name x pos) (QG i):=Qu hN hv hd hcd
end
def Gw{A B:Prop}(h:B):if false=true then A else B:=by
 rw[if_neg TF];exact h
def lQ{A B:Prop}(h:A):if true=true then A else B:=by
 rw[if_pos rfl];exact h
def dO{c A B:Prop}[Decidable c](h1:c->A)(h2:¬ c->B):if c then A else B:=by
 by_cases h:c
 .rw[if_pos h];exact h1 h
 .rw[if_neg h];exact h2 h
def Same(H H':Hp):Prop:=∀ b o,H b=some o->H' b=some o
def Same.refl(H:Hp):Same H H:=λ_ _ h=>h
def Same.trans{H H1 H2:Hp}(a:Same H H1)(b:Same H1 H2):Same H H2:=λc o h=>b c o (a c o h)
def Same.free{H H':Hp}(e:Same H H'){l:Addr}(h:H' l=Option.none):H l=Option.none:=by
 cases q:H l with
 | none=>rfl
 | some o =>
  rw[e l o q] at h;cases h
def Same.seq{K:W.Frag}{H H':Hp}{a:Addr}{xs:List V}(e:Same H H')(h:SqL K H a xs):SqL K H' a xs:=by
 rcases h with(h | ⟨o,h⟩) | h
 .exact .inl (.inl (e _ _ h))
 .exact .inl (.inr ⟨o,e _ _ h⟩)
 .exact .inr h
theorem ig:∀(names:List (Str × NameKind))(acc:List (Str × Addr)),(∀ y∈names,y.2=.free->∃ c,env.cells.lookup y.1=some c) ->
  ∃ cl,(forIn names acc (λ(x:Str × NameKind) (b:List (Str × Addr))=>(if x.2 == .free then (do let c ← cellOf env x.1;pure (ForInStep.yield ((x.1,c)::b))) else pure (ForInStep.yield b):Sem (ForInStep (List (Str × Addr))))))=pure cl /\
   (∀ y∈names,y.2=.free->∃ c,cl.lookup y.1=some c)/\(∀ y c,acc.lookup y=some c->∃ d,cl.lookup y=some d)/\(∀ y c,cl.lookup y=some c->env.cells.lookup y=some c\/acc.lookup y=some c)
 | [],acc,_=>⟨acc,rfl,(λ_ h=>nomatch h),(λy c h=>⟨c,h⟩),(λy c h=>.inr h)⟩
 | (n,k)::r,acc,h=>by
  rw[List.forIn_cons];by_cases hk:k=.free
  .subst hk;obtain⟨c,i⟩:=h (n,.free) Xl rfl;obtain⟨cl,e,f,g,j⟩:=ig r ((n,c)::acc) λy a=>h y (Xm _ a)
   refine⟨cl,?_,?_,?_,?_⟩
   .have l:cellOf env n=pure c:=by unfold cellOf;rw[i]
    grind
   .grind
   .grind
   .grind
  .have m:(k == NameKind.free)=false:=by simpa using hk
   obtain⟨cl,e,f,g,j⟩:=ig r acc λy a=>h y (Xm _ a)
   grind
def lB(h:∀ y∈scope.names,y.2=.free->∃ c,env.cells.lookup y.1=some c) :
  ∃ cl,closureFor scope env=pure cl/\(∀ y∈scope.names,y.2=.free->∃ c,cl.lookup y.1=some c)/\∀ y c,cl.lookup y=some c->env.cells.lookup y=some c:=by
 obtain⟨cl,e,b,_,a⟩:=ig scope.names [] h;refine⟨cl,?_,b,λy c q=>(a y c q).elim id λz=>by simp at z⟩;rw[← e];unfold closureFor;simp only[bind_pure]
theorem lN{env:Env}:∀ {names:List (Str × NameKind)}{x:Str},names.lookup x=some .free ->
  (names.map λ(n,k)=>if (k == NameKind.free && env.scope.kind == .function && env.kindOf n == some .cell) then (n,NameKind.cell) else (n,k)).lookup x=some .cell \/
  (names.map λ(n,k)=>if (k == NameKind.free && env.scope.kind == .function && env.kindOf n == some .cell) then (n,NameKind.cell) else (n,k)).lookup x=some .free
 | [],_,h=>by simp at h
 | (n,k)::r,x,h=>by
  have a:=@lN env r x
  grind
theorem jB{env:Env}:∀ {names:List (Str × NameKind)}{x:Str}{k':NameKind},
  (names.map λ(n,k)=>if (k == NameKind.free && env.scope.kind == .function && env.kindOf n == some .cell) then (n,NameKind.cell) else (n,k)).lookup x=some k'->(k'=.cell\/k'=.free) ->
  ∃ k,(x,k)∈names/\(k=.cell\/k=.free)
 | [],_,_,h,_=>by simp at h
 | (n,k)::r,x,k',h,hk=>by
  have a:=@jB env r x k'
  grind
abbrev bM(X:Cx)(scope:Scope)(N:List Str)(cl:List (Str × Addr))(C:Addr)(s:Shared)(H:Hp)(ex:List Addr)(pn:List (Addr × Obj))(E:Value->Shared->Prop):Cx :=
 { X with N:=N,s₀:=s,H₀:=H,env:=compEnvC scope cl C X.env,outer:=X.stack,stack:=X.stack,ex:=ex,fn:=λ_=>false,pn:=pn,xe:=E }
def tM{X:Cx}{pins:List (Addr × Obj)}{σ σ':St}{H:Hp}{s:Shared}{scope:Scope}{N:List Str}{cl:List (Str × Addr)}{fp:List Addr}{E:Value->Shared->Prop}{h1:Heap}{t:Nat}
  (I:Inv X pins σ H s)(hkind:scope.kind=.function)(hcell:∀ y∈scope.names,y.2≠.cell)(hfree:∀ y∈scope.names,y.2=.free->X.env.kindOf y.1=some .cell\/X.env.kindOf y.1=some .free)
  (f:∀ y∈scope.names,y.2=.free->∃ c,cl.lookup y.1=some c)(a:∀ y c,cl.lookup y=some c->X.env.cells.lookup y=some c)
  (hf:∀ b∈fp,Aq X pins H b)(hfo:∀ b∈fp,∃ o,s.heap.get? b=some o)
  (hl:σ'.length=N.length)(hσ:∀(i:Nat)(x:Str)(v:V),N[i]?=some x->σ'[i]?=some (some v)->scope.names.lookup x=some .free/\∃ j:Nat,X.N[j]?=some x/\σ[j]?=some (some v))
  (hns:h1.Ns s.heap.objs.size (λ_=>none))(hold:∀ b o,s.heap.get? b=some o->h1.get? b=some o) :
  Inv (bM X scope N cl s.heap.objs.size s H fp (X.pn++pins) E) [] σ' H { s with heap:=h1,toks:=t }:=by
 have A:∀ b o,s.heap.get? b=some o->b≠s.heap.objs.size:=λb o e=>J6 (I3 e)
 have F:(bM X scope N cl s.heap.objs.size s H fp (X.pn++pins) E).Ok:=by
  refine⟨I.ok.mod,hkind,I.ok.glob,I.ok.blt,ql _,λx y c J K=>I.ok.inj x y c (a _ _ J) (a _ _ K),λx hx=>?_,λx c W _=>?_,I.ok.hd,I.ok.frames,.inl rfl,λb h=>⟨?_,λx c e z=>?_⟩,I.bs,Xz I.ok.bsz I.sz,λb o e h=>?_,λb h z=>?_,I.stack,I.stkFree⟩
  .have L:=hx;have q:∃ k,(x,k)∈scope.names/\(k=.cell\/k=.free):=by
    rcases L with z | z
    .exact jB z (.inl rfl)
    .exact jB z (.inr rfl)
   obtain⟨k,B,D⟩:=q;rcases D with rfl | rfl
   .exact absurd rfl (hcell _ B)
   .exact f _ B rfl
  .grind
  .obtain⟨o,e⟩:=hfo b h;exact A b o e
  .exact(hf b h).2.2.2.2.1 x c (a _ _ e) z
  .rcases(hf b h).2.2.2.1 with z | z
   .exact I.ok.noex b o e z
   .exact absurd (Xk (I3 e) (Xz I.ok.bsz z)) (Nat.lt_irrefl _)
  .rcases mem_cons.mp (I.stkSub b z) with q | q
   .exact(hf b h).2.1 q
   .exact(hf b h).2.2.1 q
 obtain⟨m,hn,g⟩:=id I.loc;refine⟨F,rfl,I.bare,Un.kept hold,⟨_,hns,λi x v J K _=>?_⟩,λx c e=>?_,I.hok.fresh (ql _),λx c e=>I.freeC x c (a _ _ e),λp Y=>?_,I.hok.kept hold,hl⟩
 .obtain⟨w,j,ej,es⟩:=hσ i x v J K;have B:=PySem.mem_of_lookup w;have D:=hfree _ B rfl;have Z:Vis X.env.scope x:=by
   rcases D with z | z
   .exact .inr (.inl z)
   .exact .inr (.inr z)
  obtain⟨u,r,l⟩:=g j x v ej es Z;refine⟨u,r,.inr ⟨?_,?_⟩⟩
  .exact lN w
  .rcases l with⟨k,_⟩ | ⟨_,c,S,T⟩
   .grind
   .obtain⟨d,hd⟩:=f _ B rfl;have e:=a _ _ hd;have C:=e;rw[S] at C;cases C;obtain⟨o,M,n⟩:=T;exact⟨c,hd,o,hold c o M,n⟩
 .obtain⟨v,o,M,n⟩:=I.cell x c (a _ _ e);exact⟨v,o,hold c o M,n⟩
 .have G:p∈X.pn++pins:=by simpa using Y
  obtain⟨O,U,P,Q,R⟩:=I.pin p G;refine⟨hold _ _ O,U,A _ _ O,λz=>?_,R⟩;rcases mem_cons.mp (I.stkSub _ z) with q | q
  .exact P q
  .exact Q q
def Jw(X:Cx)(ifs:List Expr)(t:TT):Prop :=
 ∀(pins:List (Addr × Obj))(s:Shared)(σ:St)(H:Hp)(Q:Bool->Hp->Prop),Inv X pins σ H s->t σ H Q ->
  wpAny (model X.prog X.w) X.A (forIn ifs true λc r=>if r=true then do let ok ← isTrue c X.env (eval c X.env);pure (ForInStep.yield ok) else pure (ForInStep.yield r)) (TP X pins σ Q) X.xe s
def Ss:TT:=λ_ H Q=>Q true H
def cu:Jw X [] Ss:=λ_ _ _ H _ I h=>wpAny_tests_nil ⟨H,I,h⟩
def j5(h:PT X c t):Jw X [c] t:=λa s σ H Q I b=>wpAny_tests_one (h a s σ H Q I b)
section
variable {prog:Program}{w:World}{A:Around}{R:Result->Shared->Prop}{s:Shared}
def cV(I:Nat->Shared->Prop)
  (turn:∀ n s,I n s->wpAny (model prog w) A (pyNext it) (λr b=>match r with
   | none=>R (.ok .next) b
   | some v=>wpAny (model prog w) A (letOwnedTupleGo target it v) (λ_ a=>wpAny (model prog w) A (assign target env v) (λ_ l =>
     wpAny (model prog w) A (forIn ifs true λc r=>if r=true then do let ok ← isTrue c env (eval c env);pure (ForInStep.yield ok) else pure (ForInStep.yield r)) (λok d =>
      if ok=true then wpAny (model prog w) A (eval elt env) (λx k =>
       wpAny (model prog w) A (call (.builtin "list.append") [acc,x]) (λ_ g=>∃ m,m<n/\I m g) (notedBy (model prog w) A env λe s'=>R (.error e) s') k) (notedBy (model prog w) A env λe s'=>R (.error e) s') d
      else ∃ m,m<n/\I m d) (notedBy (model prog w) A env λe s'=>R (.error e) s') l) (notedBy (model prog w) A env λe s'=>R (.error e) s') a) (notedBy (model prog w) A env λe s'=>R (.error e) s') b)
    (notedBy (model prog w) A env λe s'=>R (.error e) s') s)
  (n:Nat)(h:I n s) :
  codeAny (model prog w) A (.compLoop (.ListComp elt [⟨target,iter,ifs,0⟩] scope pos) 0 it acc env) R s:=by
 refine codeAny_loop rfl I (λn s q=>?_) n h;refine wpAny_noted ?_;rw[compTurn_list];refine ni (wpAny_standAt (ni (wpAny_mono (turn n s q) (λr b i=>?_) λ_ _ h'=>h')));cases r with
 | none=>exact nF i
 | some v =>
  refine ni (wpAny_mono i (λ_ a f=>?_) λ_ _ h'=>h');refine ni (wpAny_mono f (λ_ l t=>ni (wpAny_mono t (λok d j=>?_) λ_ _ h'=>h')) λ_ _ h'=>h');cases ok with
  | false=>exact nF ⟨rfl,j⟩
  | true =>
   exact ni (ni (wpAny_mono j (λx k p=>ni (wpAny_mono p (λ_ g o=>nF (nF ⟨rfl,o⟩)) λ_ _ h'=>h')) λ_ _ h'=>h'))
end
def Ac(wi:TI)(g:TG)(tc:TT)(te:TE)(lift:St->St):TE:=λσ H Q=>wi σ H λJ d=>∀ l,d l=none->∃ W:Nat->Nat->St->Hp->Prop,(∃ m,W 0 m (lift σ) (upd d l (.lst [])))/\∀ i m σ H,W i m σ H ->
 (J.stop i H/\Q (.ref l) H)\/(J.go i H/\∃ N:St->Hp->Prop,(∀ f a,N f a->∃ j,j<m/\W (i+1) j f a) /\
  ∀ x a,J.yld i H x a->g x σ a λc k=>tc c k λb h=>if b=true then te c h λv e=>∃ ys,e l=some (.lst ys)/\ys.length<sizeLine/\N c (upd e l (.lst (ys++[v]))) else N c h)
def KZ(N:List Str)(lift:St->St)(hc:X.calm=true)(hi:PI X tg iter wi)
  (hkind:scope.kind=.function)(hcell:∀ y∈scope.names,y.2≠.cell)(hfree:∀ y∈scope.names,y.2=.free->X.env.kindOf y.1=some .cell\/X.env.kindOf y.1=some .free)
  (hnames:∀ y∈scope.names,y.2=.local->scope.names.lookup y.1=some .local)
  (hlen:∀ σ:St,σ.length=X.N.length->(lift σ).length=N.length)
  (hσ:∀(σ:St)(i:Nat)(x:Str)(v:V),σ.length=X.N.length->N[i]?=some x->(lift σ)[i]?=some (some v)->scope.names.lookup x=some .free/\∃ j:Nat,X.N[j]?=some x/\σ[j]?=some (some v))
  (hg:∀ cl C s H ex pn E,PG (bM X scope N cl C s H ex pn E) tg g)(ht:∀ cl C s H ex pn E,Jw (bM X scope N cl C s H ex pn E) ifs tc)(he:∀ cl C s H ex pn E,PE (bM X scope N cl C s H ex pn E) elt te)
  (hs:∀ x,foldedSetIterable iter X.env x=pure x:=by intro _;rfl) :
  PE X (.ListComp elt [⟨tg,iter,ifs,0⟩] scope pos) (Ac wi g tc te lift):=by
 intro f s σ H Q I h;rw[eval_ListComp];obtain⟨cl,U,ar,F⟩:=lB λy hy hf=>I.ok.has y.1 (hfree y hy hf)
 refine wpAny_comprehension_free rfl hs U hkind hnames (thn (hi f s σ H _ I h) λv s1 h1=>thn h1 λcn t h2=>?_);obtain⟨it,D,tn,J,H2,e,I2,T,O,f2,q⟩:=h2;subst e;refine XQ (wpAny_newFunctionEnv hcell (by intro y hy;simp at hy) (λh₁ ac ap=>?_) hkind);have M:=I2.lnew (t':=t.toks) .nil (Nat.zero_le _);have fr:=I2.fresh;have hold:=λb o e=>ap.extBut b o (J6 (I3 e)) (n7 _ e)
 have B:∀ b∈D,Aq X f (upd H2 t.heap.objs.size (.lst [])) b:=λb a=>by
  obtain⟨o,eo,_⟩:=T.obj 0 _ O b a;exact⟨by rw[aG (J6 (I3 eo))];exact(f2 b a).1,(f2 b a).2⟩
 have fo:∀ b∈D,∃ o,(t.heap.push { cls:=.type "list",data:=.seq ([]:List Value).toArray }).get? b=some o:=λb a=>by
  obtain⟨o,eo,_⟩:=T.obj 0 _ O b a;exact⟨o,n7 _ eo⟩
 generalize hP:t.heap.push { cls:=.type "list",data:=.seq ([]:List Value).toArray }=P at *;obtain⟨W,⟨m0,w0⟩,am⟩:=q t.heap.objs.size fr;generalize hL:t.heap.objs.size=L at *
 let R:Result->Shared->Prop:=compPost (model X.prog X.w) X.A X.xe none (EP X f σ Q) (.ref L) P.objs.size
 let Y:Cx:=bM X scope N cl P.objs.size { t with heap:=P } (upd H2 L (.lst [])) D (X.pn++f) (notedBy (model X.prog X.w) X.A (compEnvC scope cl P.objs.size X.env) λe s'=>R (.error e) s')
 have IY:Inv Y [] (lift σ) (upd H2 L (.lst [])) { t with heap:=h₁,toks:=t.toks+([]:List (Str × Value)).length } :=
  tM M hkind hcell hfree ar F B fo (hlen σ I.len) (λi x v=>hσ σ i x v I.len) ac hold
 have ae:=T.keep _ _ _ O λb a o e=>hold b o (by rw[← hP];exact n7 _ e)
 have fC:∀ b∈D,b≠P.objs.size/\(b∈D):=λb a=>by
  obtain⟨o,eo⟩:=fo b a;exact⟨J6 (I3 eo),a⟩
 have S:∀ {k:Hp},(∀ b∈D,k b=none)->∀ b∈D,Aq Y [] k b:=fun {k} hn b a=>by
  refine⟨hn b a,(fC b a).1,λz=>?_,.inl a,λx c ex=>(B b a).2.2.2.2.1 x c (F _ _ ex),λp hp=>?_⟩
  .rcases mem_cons.mp (M.stkSub b z) with y | y
   .exact(B b a).2.1 y
   .exact(B b a).2.2.1 y
  .have af:=hp;rw[append_nil] at af;exact(B b a).2.2.2.2.2 p af
 have G:∀ s4:Shared,s4={ t with heap:=h₁,toks:=t.toks+([]:List (Str × Value)).length } ->
   codeAny (model X.prog X.w) X.A (.compLoop (.ListComp elt [⟨tg,iter,ifs,0⟩] scope pos) 0 (.ref it) (.ref L) (compEnvC scope cl P.objs.size X.env)) R s4:=by
  rintro s4 rfl;refine cV (λn s'=>∃ i σ' k,Inv Y [] σ' k s'/\tn i s'.heap/\(∀ b∈D,k b=none)/\W i n σ' k) ?_ m0 ⟨0,_,_,IY,ae,λb a=>(B b a).1,w0⟩;rintro n s5 ⟨i,σ5,H5,I5,ad,ab,w5⟩;rcases am i n σ5 H5 w5 with⟨stop,qn⟩ | ⟨go,Nx,aI,step⟩
  .refine thn (T.done Y rfl rfl rfl hc i [] s5 σ5 H5 Y.xe I5 (S ab) ad stop) λr s6 ⟨hr,I6⟩=>?_
   subst hr;obtain⟨m6,az,_⟩:=id I6.loc;have IX:=M.call' I6.os I6.base I6.hok I6.bare λb a=>⟨(B b a).2.2.2.1,(B b a).2.1,(B b a).2.2.2.2.1,(B b a).2.2.2.2.2⟩
   refine⟨m6,az,λh' sb=>⟨.ref L,H5,IX.turned (λb o a e=>(sb.2 b a).trans e) I6.free (Nat.ne_of_gt M.lt) (.inr M.sz) (λx c ec z=>?_) λp hp z=>?_,rfl,qn⟩⟩
   .obtain⟨v0,qv⟩:=M.cell x c ec;exact absurd qv.lt (by rw[z];exact Nat.lt_irrefl _)
   .have z0:=I3 (M.pin p hp).1;exact absurd z0 (by rw[z];exact Nat.lt_irrefl _)
  .refine thn (T.item Y rfl rfl rfl hc i [] s5 σ5 H5 Y.xe I5 (S ab) ad go) λr s6 ⟨u,hr,h6⟩=>?_
   subst hr;refine thn h6 λ_ s7 ⟨x,H7,I7,r7,y7,Z,a1⟩=>?_
   have a3:=I7.pinned (S a1) (T.obj _ _ Z);refine thn (hg _ _ _ _ _ _ _ _ s7 σ5 H7 x u _ a3 r7 (step x H7 y7)) λ_ s8 ⟨K,H8,I8,q8⟩=>?_
   refine thn (ht _ _ _ _ _ _ _ _ s8 K H8 _ I8 q8) λok s9 ⟨H9,I9,q9⟩=>?_
   have l:∀ {sx:Shared}{Hx:Hp},Inv Y ([]++nW D s7.heap) K Hx sx->Nx K Hx->∃ m,m<n/\∃ i σ' k,Inv Y [] σ' k sx/\tn i sx.heap/\(∀ b∈D,k b=none)/\W i m σ' k:=fun {sx Hx} Ix nx=>by
    obtain⟨m',hm,wx⟩:=aI K Hx nx;refine⟨m',hm,i+1,K,Hx,Ix.unpinned,T.keep _ _ _ Z λb a o e=>(Ix.pin (b,o) (Xw _ (Xw _ (dH a e)))).1,λb a=>?_,wx⟩;obtain⟨o,e,d⟩:=T.obj _ _ Z b a;exact(Ix.pin (b,o) (Xw _ (Xw _ (dH a e)))).2.1
   cases ok with
   | false =>
    rw[if_neg TF] at q9 ⊢;exact l I9 q9
   | true =>
    rw[if_pos rfl] at q9 ⊢;refine thn (he _ _ _ _ _ _ _ _ s9 K H9 _ I9 q9) λy a4 ⟨ag,aT,bc,a0,ys,a8,hz,a5⟩=>?_
    refine thn (bJ _ a4 K aT (.ref L) [ag] (.ref L) [y] (λ_ k=>Nx K k) bc rfl (.cons a0 .nil) ⟨L,ys,ag,rfl,rfl,a8,hz,a5⟩) λ_ b0 ⟨_,b3,aE,_,aS⟩=>?_
    exact l aE aS
 exact codeAny_compStart_list (G _ rfl) (T.self X.A 0 _ _ _ ae (G _ rfl))
def iz{J:It}{g:TG}{tc:TT}{te:TE}{R:Hp->Prop}{l:Addr}{k:St}{H0:Hp}(n:Nat)(Pv:Nat->St->Hp->Prop)(h0:Pv 0 k H0)(hstop:∀ σ H,Pv n σ H->J.stop n H/\R H)
  (hgo:∀ i σ H,i<n->Pv i σ H->J.go i H/\∀ x c,J.yld i H x c->g x σ c λa h=>tc a h λb f=>if b=true then te a f λv d=>∃ ys,d l=some (.lst ys)/\ys.length<sizeLine/\Pv (i+1) a (upd d l (.lst (ys++[v]))) else Pv (i+1) a f) :
  ∃ W:Nat->Nat->St->Hp->Prop,(∃ m,W 0 m k H0)/\∀ i m σ H,W i m σ H ->
   (J.stop i H/\R H)\/(J.go i H/\∃ N:St->Hp->Prop,(∀ j c,N j c->∃ o,o<m/\W (i+1) o j c) /\
    ∀ x c,J.yld i H x c->g x σ c λa h=>tc a h λb f=>if b=true then te a f λv d=>∃ ys,d l=some (.lst ys)/\ys.length<sizeLine/\N a (upd d l (.lst (ys++[v]))) else N a f):=by
 refine⟨λi m σ H=>m=n - i/\i<=n/\Pv i σ H,⟨n,by simp,Nat.zero_le _,h0⟩,?_⟩;rintro i m σ H ⟨rfl,r,p⟩;by_cases hlt:i<n
 .obtain⟨go,st⟩:=hgo i σ H hlt p;exact .inr ⟨go,Pv (i+1),λj c q=>⟨n - (i+1),by lia,rfl,hlt,q⟩,st⟩
 .have e:i=n:=by lia
  subst e;exact .inl (hstop σ H p)
def uH{F:Bool->Hp->Prop}(h:F true H):Ss σ H F:=h
def gN{Q:St->Hp->Prop}(h:Q (σ.set i (some v)) H):tY i v σ H Q:=h
def gK:d7 X (.builtin "isinstance") (λxs H Q=>∃ x n t b,xs=[x,.ty n]/\Av X.K H x t/\W.kitOne X.K t (.type n)=some b/\Q (.bl b) H):=by
 intro a s σ H xs f Q I r h;obtain⟨x,n,t,b,rfl,ty,e,q⟩:=h;obtain⟨u,v,rfl,d,c⟩:=vals2 r;cases c;exact Cv I d ty e λtk=>⟨.bl b,H,I.tok _,rfl,q⟩
def Ay:∀ {a:List Value},Vals (ys.map V.str) a->StrsAre a ys:=by
 induction ys with
 | nil=>intro a r;rw[map_nil] at r;cases r;exact .nil
 | cons y ys d =>
  intro a r;rw[map_cons] at r;cases r with
  | cons b c =>
   obtain⟨t,e⟩:=b;subst e;exact .cons y t (d c)
def Rb(i j:Int):Prop:=0<j/\j<2^64
def jH:OpR X (binaryOp .FloorDiv) (rI Rb λi j=>.int (i / j)):=opI λi j _ _ _ _ _ a q=>by
 have e:(0:Int)<j:=a.1;have f:j<2^64:=a.2;refine floordiv_int (by lia) (by rw[Int.fdiv_eq_ediv_of_nonneg i (by lia)];exact q) (.inl (PyProof.noPylong_of_log2 ?_));have c:j.natAbs≠0:=by lia
 have b:j.natAbs<2^64:=by lia
 have d:j.natAbs.log2<64:=(Nat.log2_lt c).mpr b;lia
def ju(js:List (Option Nat))(σ:St):St:=js.map λj=>match j with | some j=>σ.getD j none | none=>none
def jE(N:List Str)(js:List (Option Nat))(XN:List Str)(names:List (Str × NameKind)):Bool :=
 decide (N.length=js.length) && (N.zip js).all λp=>match p.2 with | none=>true | some j=>decide (XN[j]?=some p.1) && decide (names.lookup p.1=some .free)
def wK(h:jE N js XN names=true)(σ:St):(ju js σ).length=N.length:=by
 unfold jE at h;rw[Bool.and_eq_true] at h;unfold ju;rw[XF];exact(Xv h.1).symm
def Dq(h:jE N js XN names=true)(σ:St)(i:Nat)(x:Str)(v:V)(h1:N[i]?=some x)(h2:(ju js σ)[i]?=some (some v)) :
  names.lookup x=some .free/\∃ j:Nat,XN[j]?=some x/\σ[j]?=some (some v):=by
 unfold jE at h;rw[Bool.and_eq_true,all_eq_true] at h;unfold ju at h2;rw[XC] at h2;cases e:js[i]? with
 | none=>rw[e] at h2;cases h2
 | some j =>
  rw[e] at h2;cases j with
  | none=>cases h2
  | some j =>
   have a:σ.getD j none=some v:=Xn h2;have b:(x,some j)∈N.zip js:=by
    refine Xu (i:=i) ?_;rw[List.getElem?_zip_eq_some];exact⟨h1,e⟩
   have q:=h.2 _ b;simp only[Bool.and_eq_true,decide_eq_true_eq] at q;refine⟨q.2,j,q.1,?_⟩;rw[qu] at a;cases e2:σ[j]? with
   | none=>rw[e2] at a;cases a
   | some o=>rw[e2] at a;exact congrArg some a
def cH(XN:List Str)(sc:Scope)(N:List Str)(js:List (Option Nat))(a:X.N=XN)(hsc:X.env.scope=sc)(hc:X.calm=true)(hi:PI X tg iter wi)
  (hkind:scope.kind=.function)(hchk:jE N js XN scope.names=true)(hcell:∀ y∈scope.names,y.2≠.cell)(hfree:∀ y∈scope.names,y.2=.free->sc.names.lookup y.1=some .cell\/sc.names.lookup y.1=some .free)
  (hnames:∀ y∈scope.names,y.2=.local->scope.names.lookup y.1=some .local)
  (hg:∀ cl C s H ex pn E,PG (bM X scope N cl C s H ex pn E) tg g)(ht:∀ cl C s H ex pn E,Jw (bM X scope N cl C s H ex pn E) ifs tc)(he:∀ cl C s H ex pn E,PE (bM X scope N cl C s H ex pn E) elt te)
  (hs:∀ x,foldedSetIterable iter X.env x=pure x:=by intro _;rfl) :
  PE X (.ListComp elt [⟨tg,iter,ifs,0⟩] scope pos) (Ac wi g tc te (ju js)):=by
 subst a;subst hsc;exact KZ N (ju js) hc hi hkind hcell hfree hnames (λσ _=>wK hchk σ) (λσ i x v _ b c=>Dq hchk σ i x v b c) hg ht he hs
def oU(K:W.Frag)(h:(if (Value.type T == Value.type U)=true then some true else (if W.kitMeta U=true then (fastBuiltinMro T).map (·.contains (.type U)) else none))=some b) :
  W.kitOne K (.type T) (.type U)=some b:=h
def rW(K:W.Frag):W.kitOne K (.type "int") (.type "tuple")=some false:=oU K (by decide +kernel)
def tR(K:W.Frag):W.kitOne K (.type "int") (.type "bool")=some false:=oU K (by decide +kernel)
def wR(K:W.Frag):W.kitOne K (.type "int") (.type "str")=some false:=oU K (by decide +kernel)
def xK(K:W.Frag):W.kitOne K (.type "int") (.type "int")=some true:=oU K (by decide +kernel)
def Qw{α:Type}{xs:List α}{r:Int}(h0:0<=r)(h1:r<xs.length):∃ v,atI xs r=some v/\v∈xs:=by
 have a:r.toNat<xs.length:=by lia
 have ek:r=((r.toNat:Nat):Int):=by lia
 refine⟨xs[r.toNat],?_,getElem_mem a⟩;have q:=aZ (n6 a);rw[← ek] at q;exact q
def ao(h:H p=none)(o:HO):Same H (upd H p o):=λb u q=>by rw[aG (aD q h)];exact q
def zM{ns:List Int}{i:Nat}{y:V}(h:(ns.map V.int)[i]?=some y):∃ z,y=V.int z:=by
 rw[XC] at h;cases e:ns[i]? with
 | none=>rw[e] at h;cases h
 | some z=>rw[e] at h;exact⟨z,(Xn h).symm⟩
def small(h:n<=1000):n<=sizeLine:=Nat.le_of_lt (aH h)
def smn(n:Nat)(h:n<=1000:=by decide):n<=sizeLine:=small h
def iM:(1000000:Nat)<=sizeLine:=by rw[sizeLine_eq];decide
def Jq{bs:List Bool}{its:List Value}(r:Vals (bs.map V.bl) its){i:Nat}{v:Value}(h:its.toArray[i]?=some v):v=.bool (bs.getD i true):=by
 have h':its[i]?=some v:=by simpa using h
 have d:=r.length;have f:i<its.length:=(pN.mp h').1;have c:i<bs.length:=by grind
 obtain⟨u,a,b⟩:=r.get (i:=i) (x:=V.bl bs[i]) (by rw[XC,n6 c];rfl);rw[h'] at a;cases a;have e:bs.getD i true=bs[i]:=by grind
 rw[e];exact b
def all_range(bs:List Bool):(List.range bs.length).all (λi=>bs.getD i true)=bs.all id:=by
 rw[Bool.eq_iff_iff,all_eq_true,all_eq_true];constructor
 .intro h b d;obtain⟨i,c,e⟩:=getElem_of_mem d;have q:=h i (mem_range.mpr c)
  grind
 .intro h i c;have a:=mem_range.mp c;rw[qu,n6 a];exact h _ (getElem_mem a)
def vo(hc:X.calm=true):d7 X (.builtin "all") (λxs H Q=>∃(l:Addr)(bs:List Bool),xs=[.ref l]/\SqL X.K H l (bs.map V.bl)/\Q (.bl (bs.all id)) H):=by
 intro c s σ H xs G Q I r h;obtain⟨l,bs,rfl,E,q⟩:=h;obtain⟨u,rfl,j⟩:=vals1 r;cases j;obtain⟨a,f,p,hz⟩:=I.list E;have hd:X.A.in1.handled=none:=I.ok.hd hc;have z:=f.length;refine call_all_walk (wpAny_pyIter_list p.isList ?_);obtain⟨o,n,x,_⟩:=id p;have d:l≠s.heap.objs.size:=J6 (I3 x);refine⟨s.heap.objs.size,_,_,_,_,_,λi=>bs.getD i true,rfl,Walks.list hd s.heap.objs.size l d a.toArray,⟨⟨_,Q0 _ rfl,rfl,rfl⟩,p.isList.push _⟩,λi v s' J L y hQ'=>?_,λh' tk g=>?_⟩
 .rw[Jq f y];exact wpAny_truthy_bool hQ'
 .have e:a.toArray.size=bs.length:=by rw[XM,← z,XF]
  rw[e,all_range];have B:Inv X c σ H { s with heap:=s.heap.push { cls:=.type "list_iterator",data:=.fields #[.ref l,.int 0 0] } }:=I.kept (t':=s.toks) λb o q=>n7 _ q
  obtain⟨t,w,F,C,m,D⟩:=I.fpOk (b:=s.heap.objs.size) (ql _) I.fresh;exact⟨.bl _,H,B.turned (it:=s.heap.objs.size) (λb o k e=>g b o (by simpa using k) e) t w C m D,rfl,q⟩
def rK(K:W.Frag):W.kitOne K (.type "str") (.type "tuple")=some false:=oU K (by decide +kernel)
def xQ(K:W.Frag):W.kitOne K (.type "str") (.type "str")=some true:=oU K (by decide +kernel)
def pJ(K:W.Frag):W.kitOne K (.type "tuple") (.type "tuple")=some true:=oU K (by decide +kernel)
def LET:Str:="abcdefghijklmnopqrstuvwxyz"
def vQ:LET.length=26:=by decide +kernel
def isNm(x:Str):Bool:=decide (1<=x.length) && decide (x.length<=8) && x.cps.toList.all λc=>decide (97<=c/\c<=122)
def ug(h:IsPart v o):∃ q:Option (Int × Tok),v=partValue q/\o=q.map (·.1):=by
 cases h with
 | none=>exact⟨none,rfl,rfl⟩
 | int i t=>exact⟨some (i,t),rfl,rfl⟩
def T6:V->Option Int->Option Int->Hp->VK->Prop:=λx lo a H Q=>∃ y:Str,x=.str y/\y.length<=sizeLine/\Q (.str (Txt.slice y lo a)) H
def Bm:SlR X T6:=by
 intro a s σ H x v g i lo j sl Q I e c pl b h;obtain⟨y,rfl,hz,q⟩:=h;obtain⟨t,rfl⟩:=e;obtain⟨d,rfl,rfl⟩:=ug pl;obtain⟨f,rfl,rfl⟩:=ug b;refine⟨"str",_,F.slot_str_getitem.lookup,typeIs_str _ _ _,?_⟩;refine wpAny_getItem_str_slice (l:=d) (u:=f) (st:=none) c rfl ?_;exact post_val_or_str ⟨Xz (Txt.slice_le y _ _) hz,λt' k=>⟨.str _,H,I.tok _,⟨_,rfl⟩,q⟩⟩
structure Cal(P:Program)(w:World)(K:W.Frag)(mg:Str->Option Value)(base:Heap)(x:Str)(k:Nat)(ps:List Str)(sp:Sp):Prop where
 ex:∃(f:Addr)(fd:FuncData),vH P w K mg base CX0 k f fd ps sp/\Binds K fd ps []/\W.keepIn K (.ref f)=true/\mg x=some (.ref f)
structure Has(K:W.Frag)(mg:Str->Option Value)(x:Str)(st:Stmt)(ps:List Str):Prop where
 ex:∃(f:Addr)(fd:FuncData),Fun K x x st f fd/\Binds K fd ps []/\mg x=some (.ref f)
section
variable {P:Program}{w:World}{K:W.Frag}{mg:Str->Option Value}{base:Heap}
def Has.cal{x:Str}{st:Stmt}{ps:List Str}{k:Nat}{sp:Sp}(h:Has K mg x st ps)(ok:∀(f:Addr)(a:FuncData),Fun K x x st f a->mg x=some (.ref f)->Binds K a ps []->vH P w K mg base CX0 k f a ps sp):Cal P w K mg base x k ps sp:=by
 obtain⟨f,a,F,b,m⟩:=h.ex;exact⟨f,a,ok f a F m b,b,F.kp,m⟩
def Has.mk'{x:Str}{st:Stmt}{N ps:List Str}{k:Nat}{sp:Sp}(h:Has K mg x st ps)(S:aU N ps (aC st))(len:∀ a H Q E,sp a H Q E->a.length=ps.length)
  (hbody:∀(f:Addr)(cdv:Value)(A:Around)(outer:List Env)(s:Shared)(H:Hp)(a:List V)(Q:VK)(E:XK),lZ k (A.deeper (envOfC x (aC st) s.heap.objs.size f cdv))->sp a H Q E ->
   ∃ t,PSs (zH CX0 P w K mg base N x (aC st) f cdv A outer s H E).nox (fB st) t/\t { nx:=λ_ b=>Q .non b,rt:=Q } (start N a) H):Cal P w K mg base x (k+1) ps sp :=
 h.cal λf c F _ _=>F.ok S len (hbody f)
end
def aN(C:Cal X.prog X.w X.K X.mg X.base x k ps sp)(hr:lZ n X.A)(hk:k<=n)(hg:Gl X x)(ha:PA X (e::es) t)
  (hdb:(x == ("__debug__" : Str))=false:=by decide)(he:starEach (e::es) X.env=(false,eval e X.env)::starEach es X.env:=by rfl)(hpl:(backTo pos (starEach es X.env)).any (·.1)=false:=by rfl) :
  PE X (.Call (.Name x p) (e::es) [] pos) (Kp sp [] E0 t):=by
 obtain⟨f,a,F,b,kp,m⟩:=C.ex;exact Ma F (hr.mono hk) hg m kp b .nil R4 ha hdb he hpl
inductive D where
 | non | bl (b:Bool) | int (i:Int) | str (x:Str) | tup (ds:List D)
mutual
def Den(H:Hp):V->D->Prop
 | v,.non=>v=.non
 | v,.bl b=>v=.bl b
 | v,.int i=>v=.int i
 | v,.str x=>v=.str x
 | v,.tup a=>∃(p:Addr)(vs:List V),v=.ref p/\H p=some (.tup vs)/\bW H vs a
def bW(H:Hp):List V->List D->Prop
 | [],[]=>True
 | v::b,d::a=>Den H v d/\bW H b a
 | _,_=>False
end
mutual
theorem Den.same(e:Same H H'):∀ {d:D}{v:V},Den H v d->Den H' v d
 | .non,_,h=>h
 | .bl _,_,h=>h
 | .int _,_,h=>h
 | .str _,_,h=>h
 | .tup ds,_,h=>by
  obtain⟨p,a,rfl,b,hd⟩:=h;exact⟨p,a,rfl,e _ _ b,bW.same e hd⟩
theorem bW.same(e:Same H H'):∀ {ds:List D}{vs:List V},bW H vs ds->bW H' vs ds
 | [],[],_=>trivial
 | _::_,_::_,h=>⟨Den.same e h.1,bW.same e h.2⟩
 | [],_::_,h=>h.elim
 | _::_,[],h=>h.elim
end
theorem bW.len:∀ {a:List D}{b:List V},bW H b a->b.length=a.length
 | [],[],_=>rfl
 | _::a,_::b,h=>by rw[length_cons,length_cons,bW.len h.2]
 | [],_::_,h=>h.elim
 | _::_,[],h=>h.elim
theorem bW.at_:∀ {a:List D}{b:List V}{i:Nat}{v:V},bW H b a->b[i]?=some v->∃ d,a[i]?=some d/\Den H v d
 | [],[],i,v,_,h=>by simp at h
 | d::a,_::b,0,v,h,e=>by
  simp at e;subst e;exact⟨d,rfl,h.1⟩
 | _::a,_::b,i+1,v,h,e=>bW.at_ (i:=i) h.2 (by simpa using e)
 | [],_::_,_,_,h,_=>h.elim
 | _::_,[],_,_,h,_=>h.elim
theorem bW.snoc(hd:Den H v d):∀ {ds:List D}{vs:List V},bW H vs ds->bW H (vs++[v]) (ds++[d])
 | [],[],_=>⟨hd,trivial⟩
 | _::_,_::_,h=>⟨h.1,bW.snoc hd h.2⟩
 | [],_::_,h=>h.elim
 | _::_,[],h=>h.elim
def dz:Nat->D->Prop
 | 0,d=>d≠.non/\∀ a,d≠.tup a
 | n+1,d=>d≠.non/\∀ a,d=.tup a->a.length<=100000/\∀ e∈a,dz n e
def dz.up:∀ {n:Nat}{d:D},dz n d->dz (n+1) d
 | 0,d,h=>⟨h.1,λa e=>absurd e (h.2 a)⟩
 | n+1,d,h=>⟨h.1,λa e=>⟨(h.2 a e).1,λx b=>((h.2 a e).2 x b).up⟩⟩
def dz.ne:∀ {n:Nat}{d:D},dz n d->d≠.non
 | 0,_,h=>h.1
 | _+1,_,h=>h.1
def NT{xs:List Str}(h:xs.length<=100000):dz 1 (.tup (xs.map D.str)):=by
 refine⟨(λz=>nomatch z),λa e=>?_⟩;injection e with e;subst e;refine⟨by rw[XF];exact h,λd hd=>?_⟩;obtain⟨x,_,rfl⟩:=mem_map.mp hd;exact⟨(λz=>nomatch z),λa e=>nomatch e⟩
def eN(x:Str):dz 0 (.str x):=⟨(λz=>nomatch z),λ_ z=>nomatch z⟩
def rJ(x:Int):dz 0 (.int x):=⟨(λz=>nomatch z),λ_ z=>nomatch z⟩
def Has.never{P:Program}{w:World}{K:W.Frag}{mg:Str->Option Value}{base:Heap}{x:Str}{st:Stmt}{ps:List Str}{sp:Sp}(h:Has K mg x st ps)(no:∀ a H Q E,¬ sp a H Q E):Cal P w K mg base x 0 ps sp :=
 h.cal λf c F _ _=>⟨λa H Q E z=>absurd z (no a H Q E),λA outer s H args b a Q E _ _ _ _ z=>absurd z (no a H Q E)⟩
def aO(h:Den H v (.tup ds)):∃(p:Addr)(vs:List V),v=.ref p/\H p=some (.tup vs)/\bW H vs ds:=h
mutual
theorem Den.keepT(e:∀(b:Addr)(a:List V),H b=some (.tup a)->H' b=some (.tup a)):∀ {d:D}{v:V},Den H v d->Den H' v d
 | .non,_,h=>h
 | .bl _,_,h=>h
 | .int _,_,h=>h
 | .str _,_,h=>h
 | .tup ds,_,h=>by
  obtain⟨p,a,rfl,c,hd⟩:=h;exact⟨p,a,rfl,e _ _ c,bW.keepT e hd⟩
theorem bW.keepT(e:∀(b:Addr)(vs:List V),H b=some (.tup vs)->H' b=some (.tup vs)):∀ {ds:List D}{vs:List V},bW H vs ds->bW H' vs ds
 | [],[],_=>trivial
 | _::_,_::_,h=>⟨Den.keepT e h.1,bW.keepT e h.2⟩
 | [],_::_,h=>h.elim
 | _::_,[],h=>h.elim
end
section
variable {κ:Type} [DecidableEq κ]
def gQ(kvs:List (κ × V))(k:κ):Option V:=(kvs.find? λa=>decide (a.1=k)).map (·.2)
def putK(kvs:List (κ × V))(k:κ)(v:V):List (κ × V) :=
 if (kvs.any λa=>decide (a.1=k))=true then kvs.map (λa=>if a.1=k then (a.1,v) else a) else kvs++[(k,v)]
def bD{p:κ × V}{r:List (κ × V)}{k:κ}(e:p.1=k):gQ (p::r) k=some p.2:=by simp[gQ,find?_cons,e]
def aV{p:κ × V}{r:List (κ × V)}{k:κ}(e:¬ p.1=k):gQ (p::r) k=gQ r k:=by simp[gQ,find?_cons,e]
theorem mR(k:κ):∀ a:List (κ × V),(a.any λb=>decide (b.1=k))=(gQ a k).isSome
 | []=>rfl
 | p::r=>by
  rw[any_cons];by_cases e:p.1=k
  .simp only[bD e,XD e,Bool.true_or,Option.isSome_some]
  .rw[aV e,Xp e,Bool.false_or];exact mR k r
theorem yH(k j:κ)(y:V):∀ a:List (κ × V),gQ (a.map λb=>if b.1=k then (b.1,y) else b) j=(gQ a j).map λx=>if j=k then y else x
 | []=>rfl
 | p::r=>by
  have c:=yH k j y r;rw[map_cons];by_cases h:p.1=k
  .rw[if_pos h];by_cases e:p.1=j
   .rw[bD (p:=(p.1,y)) e,bD e,Option.map_some,if_pos (e.symm.trans h)]
   .rw[aV (p:=(p.1,y)) e,aV e,c]
  .rw[if_neg h];by_cases e:p.1=j
   .rw[bD (p:=p) e,bD e,Option.map_some,if_neg (λz=>h (e.trans z))]
   .rw[aV (p:=p) e,aV e,c]
theorem uL(k j:κ)(y:V):∀ a:List (κ × V),gQ a k=none->gQ (a++[(k,y)]) j=if j=k then some y else gQ a j
 | [],_=>by
  by_cases e:k=j
  .rw[if_pos e.symm];exact bD (p:=(k,y)) e
  .rw[if_neg (λz=>e z.symm)];exact aV (p:=(k,y)) e
 | p::r,b=>by
  rw[List.cons_append];have c:¬ p.1=k:=λz=>by rw[bD z] at b;cases b
  rw[aV c] at b;have d:=uL k j y r b;by_cases e:p.1=j
  .rw[bD e,bD e,if_neg (λz=>c (e.trans z))]
  .rw[aV e,aV e,d]
def tH(kvs:List (κ × V))(k j:κ)(y:V):gQ (putK kvs k y) j=if j=k then some y else gQ kvs j:=by
 unfold putK;by_cases a:(kvs.any λb=>decide (b.1=k))=true
 .rw[if_pos a,yH];rw[mR] at a;by_cases e:j=k
  .obtain⟨x,c⟩:=Option.isSome_iff_exists.mp a;rw[if_pos e,e,c,Option.map_some,if_pos rfl]
  .rw[if_neg e];cases gQ kvs j with
   | none=>rfl
   | some x=>rw[Option.map_some,if_neg e]
 .rw[if_neg a];refine uL k j y kvs ?_;rw[mR] at a;cases q:gQ kvs k with
  | none=>rfl
  | some x=>rw[q] at a;exact(a rfl).elim
def jA(kvs:List (κ × V))(k:κ)(v:V):(putK kvs k v).length<=kvs.length+1:=by
 unfold putK;split
 .rw[XF];lia
 .rw[Xr,length_cons,length_nil];lia
def CG.isSome_eq{o:Option V}{u:Option Value}(r:CG o u):o.isSome=u.isSome:=by
 cases o with
 | none=>cases u with
  | none=>rfl
  | some _=>exact(show False from r).elim
 | some _=>cases u with
  | none=>exact(show False from r).elim
  | some _=>rfl
def KV.val{kvs:List (κ × V)}{vs:List (κ × Value)}(r:KV kvs vs)(k:κ):CG (gQ kvs k) (valueAt vs k):=by
 unfold KV at r
 induction r with
 | nil=>exact True.intro
 | @cons p q ps qs h t ih =>
  obtain⟨c,d⟩:=h;by_cases e:p.1=k
  .have a:q.1=k:=c.symm.trans e;have b:valueAt (q::qs) k=some q.2:=by simp[valueAt,find?_cons,a]
   rw[bD e,b];exact d
  .have a:¬ q.1=k:=λz=>e (c.trans z)
   have b:valueAt (q::qs) k=valueAt qs k:=by simp[valueAt,find?_cons,a]
   rw[aV e,b];exact ih
def KV.any{kvs:List (κ × V)}{vs:List (κ × Value)}(r:KV kvs vs)(k:κ):(kvs.any λa=>decide (a.1=k))=vs.any λa=>decide (a.1=k):=by
 unfold KV at r
 induction r with
 | nil=>rfl
 | cons h t b=>rw[any_cons,any_cons,b,h.1]
def KV.repl{kvs:List (κ × V)}{vs:List (κ × Value)}(r:KV kvs vs)(k:κ){y:V}{u:Value}(ry:RelV y u) :
  KV (kvs.map λa=>if a.1=k then (a.1,y) else a) (vs.map λa=>if a.1=k then (a.1,u) else a):=by
 unfold KV at r ⊢
 induction r with
 | nil=>exact .nil
 | @cons p q ps qs h t ih =>
  rw[map_cons,map_cons];refine .cons ?_ ih;obtain⟨b,c⟩:=h;by_cases e:p.1=k
  .rw[if_pos e,if_pos (b.symm.trans e)];exact⟨b,ry⟩
  .rw[if_neg e,if_neg (λz=>e (b.trans z))];exact⟨b,c⟩
def KV.put{kvs:List (κ × V)}{vs:List (κ × Value)}(r:KV kvs vs)(k:κ){y:V}{u:Value}(ry:RelV y u):KV (putK kvs k y) (stored vs k u):=by
 unfold putK stored;rw[r.any k];by_cases e:(vs.any λa=>decide (a.1=k))=true
 .rw[if_pos e,if_pos e];exact r.repl k ry
 .rw[if_neg e,if_neg e];exact Paired.snoc r ⟨rfl,ry⟩
def KV.length{kvs:List (κ × V)}{vs:List (κ × Value)}(r:KV kvs vs):kvs.length=vs.length:=Paired.length r
end
def Hs{P:Program}{w:World}{k:Key}{u:Value}(r:RelV (kV k) u):(dD P w).is k u=true:=by
 cases k with
 | inl i=>obtain⟨t,e⟩:=(show ∃ t,u=Value.int i t from r);subst e;exact wW P w i t
 | inr x=>obtain⟨t,e⟩:=(show ∃ t,u=Value.str x t from r);subst e;exact wz P w x t
theorem uc{P:Program}{w:World}:∀ {ks:List Key}{us:List Value},Vals (ks.map kV) us->ItemsAre (dD P w) ks us
 | [],_,r=>by rw[map_nil] at r;cases r;exact .nil
 | k::ks,_,r=>by
  rw[map_cons] at r;cases r with
  | cons h t=>exact .cons (Hs h) (uc t)
abbrev KT(H:Hp):List (List Key × V)->List (List Key × Addr × Value)->Prop:=Paired λp q=>p.1=q.1/\H q.2.1=some (.tup (p.1.map kV))/\RelV p.2 q.2.2
def KT.val{H:Hp}{kvs:List (List Key × V)}{xs:List (List Key × Addr × Value)}(r:KT H kvs xs)(k:List Key):CG (gQ kvs k) ((atKey xs k).map (·.2)):=by
 induction r with
 | nil=>exact True.intro
 | @cons p q ps qs h t ih =>
  obtain⟨c,_,d⟩:=h;by_cases e:p.1=k
  .have a:q.1=k:=c.symm.trans e;have b:atKey (q::qs) k=some q.2:=by simp[atKey,find?_cons,a]
   rw[bD e,b];exact d
  .have a:¬ q.1=k:=λz=>e (c.trans z)
   have b:atKey (q::qs) k=atKey qs k:=by simp[atKey,find?_cons,a]
   rw[aV e,b];exact ih
def KT.repl{H:Hp}{kvs:List (List Key × V)}{xs:List (List Key × Addr × Value)}(r:KT H kvs xs)(k:List Key){y:V}{u:Value}(ry:RelV y u) :
  KT H (kvs.map λb=>if b.1=k then (b.1,y) else b) (xs.map (putAt k u)):=by
 induction r with
 | nil=>exact .nil
 | @cons p q ps qs h t ih =>
  rw[map_cons,map_cons];refine .cons ?_ ih;obtain⟨a,c,d⟩:=h;unfold putAt;by_cases e:p.1=k
  .rw[if_pos e,if_pos (a.symm.trans e)];exact⟨a,c,ry⟩
  .rw[if_neg e,if_neg (λz=>e (a.trans z))];exact⟨a,c,d⟩
def KT.put{H:Hp}{kvs:List (List Key × V)}{xs:List (List Key × Addr × Value)}(r:KT H kvs xs)(k:List Key){b:Addr}{y:V}{u:Value}(hb:H b=some (.tup (k.map kV)))(ry:RelV y u) :
  KT H (putK kvs k y) (storedH xs k b u):=by
 have e:(kvs.any λa=>decide (a.1=k))=(atKey xs k).isSome:=by
  rw[mR,(r.val k).isSome_eq,Option.isSome_map]
 unfold putK storedH;rw[e];by_cases q:(atKey xs k).isSome=true
 .rw[if_pos q,if_pos q];exact r.repl k ry
 .rw[if_neg q,if_neg q];exact Paired.snoc r ⟨rfl,hb,ry⟩
def KT.keeps{H H':Hp}{kvs:List (List Key × V)}{xs:List (List Key × Addr × Value)}(r:KT H kvs xs)(ht:∀ b ys,H b=some (.tup ys)->H' b=some (.tup ys)):KT H' kvs xs :=
 Paired.mapP r λ_ _ z=>⟨z.1,ht _ _ z.2.1,z.2.2⟩
section
variable {P:Program}{w:World}{H:Hp}{h:Heap}{a:Addr}
def O2{u:HO}(ok:HOk P w H h)(e:Rd H a u):cW P w H h a u:=e.ok ok
def Kd{kvs:List (Key × V)}(ok:HOk P w H h)(e:Rd H a (.dK kvs)):kvs.length<=sizeLine/\(a == sysModules)=false/\∃ b,KV kvs b/\h.DictOf (dD P w) a b :=
 show cW P w H h a (.dK kvs) from O2 ok e
def Qz{kvs:List (Key × V)}(ok:HOk P w H h)(e:H a=some (.dK kvs)):kvs.length<=sizeLine/\(a == sysModules)=false/\∃ b,KV kvs b/\h.DictOf (dD P w) a b:=Kd ok (.inl e)
def Gn{ks:List Key}(ok:HOk P w H h)(e:H a=some (.tup (ks.map kV))):(tupleKind (dD P w)).is h ks a:=by
 obtain⟨_,b,r,o,d,f,n,c⟩:=(show cW P w H h a (.tup (ks.map kV)) from ok a _ e)
 exact⟨o,b.toArray,n,d,f,c,by simpa using uc r⟩
def Mt{kvs:List (List Key × V)}(ok:HOk P w H h)(e:Rd H a (.dT kvs)):kvs.length<=sizeLine/\(a == sysModules)=false /\
  ∃ xs,KT H kvs xs/\h.DictOfH (tupleKind (dD P w)) a xs:=by
 obtain⟨z,y,xs,r,o,es,ep,d,f,i,g,c⟩:=(show cW P w H h a (.dT kvs) from O2 ok e)
 refine⟨z,y,xs,r,o,es,ep,d,f,i,g,λx b=>?_,c⟩;have all:∀ {l:List (List Key × V)}{m:List (List Key × Addr × Value)},KT H l m->∀ x∈m,(tupleKind (dD P w)).is h x.1 x.2.1:=by
  intro l m q
  induction q with
  | nil=>intro x b;exact nomatch b
  | @cons p q ps qs hq t ih =>
   intro x b;rcases mem_cons.mp b with e | b
   .subst e;exact Gn ok (by rw[← hq.1];exact hq.2.1)
   .exact ih x b
 exact all r x b
def RT{kvs:List (List Key × V)}(ok:HOk P w H h)(e:H a=some (.dT kvs)):kvs.length<=sizeLine/\(a == sysModules)=false /\
  ∃ xs,KT H kvs xs/\h.DictOfH (tupleKind (dD P w)) a xs:=Mt ok (.inl e)
end
def iH(H:Hp)(a:Addr)(y:V)(r:Option V):Prop :=
 (∃ c k,Rd H a (.dK c)/\y=kV k/\r=gQ c k)\/∃ c k b,Rd H a (.dT c)/\y=.ref b/\H b=some (.tup (k.map kV))/\r=gQ c k
def vJ(H:Hp)(a:Addr)(y v:V)(H':Hp):Prop :=
 (∃ c k,H a=some (.dK c)/\y=kV k/\c.length<sizeLine/\H'=upd H a (.dK (putK c k v))) \/
 ∃ c k b,H a=some (.dT c)/\y=.ref b/\H b=some (.tup (k.map kV))/\c.length<sizeLine/\H'=upd H a (.dT (putK c k v))
def iH.k{H:Hp}{a:Addr}{kvs:List (Key × V)}{k:Key}(e:H a=some (.dK kvs)):iH H a (kV k) (gQ kvs k):=.inl ⟨kvs,k,.inl e,rfl,rfl⟩
def vJ.k{H:Hp}{a:Addr}{kvs:List (Key × V)}{k:Key}{v:V}(e:H a=some (.dK kvs))(hl:kvs.length<sizeLine):vJ H a (kV k) v (upd H a (.dK (putK kvs k v))):=.inl ⟨kvs,k,e,rfl,hl,rfl⟩
section
variable {X:Cx}{pins:List (Addr × Obj)}{σ:St}{H:Hp}{s:Shared}{a:Addr}{y v:V}{u r:Value}{o:Option V}{A:Around}{E:Value->Shared->Prop}
def Inv.big(I:Inv X pins σ H s):sysModules<s.heap.objs.size:=by
 have h:mainGlobals<s.heap.objs.size:=(I.mod.glob.keeps I.bk).lt;exact Nat.lt_trans (by decide) h
def BP{Q:Value->Shared->Prop}(hu:A.units+1<cLine)(I:Inv X pins σ H s)(g:iH H a y (some v))(ry:RelV y u)(h:∀ f s',Inv X pins σ H s'->RelV v f->Q f s') :
  wpAny (model X.prog X.w) A (getItem (.ref a) u) Q E s:=by
 rcases g with⟨j,k,e,n,l⟩ | ⟨j,k,b,e,n,q,l⟩
 .subst n;obtain⟨z,hd,t,c,dd⟩:=Kd I.hok e;obtain⟨f,i,d⟩:=CG.some_of (v:=v) (o:=valueAt t k) (by rw[l];exact c.val k);exact wpAny_getItem_of (Hs ry) dd.mapOf i (h f _ (I.tok _) d)
 .subst n;cases(show u=Value.ref b from ry);obtain⟨z,hd,xs,c,dd⟩:=Mt I.hok e;obtain⟨f,i,d⟩:=CG.some_of (v:=v) (o:=(atKey xs k).map (·.2)) (by rw[l];exact c.val k);obtain⟨p,r,m⟩:=Option.map_eq_some_iff.mp i;refine wpAny_getItem_heap (tupleKind_room_in1 hu) (Gn I.hok q) dd r ?_;rw[m];exact h f _ (I.tok _) d
def wH{h':Heap}{t':Nat}{ob:HO}(I:Inv X pins σ H s)(mu:Mut (H a))(hs:Heap.SameBut a s.heap h')(he:∃ q,h'.get? a=some q)(new:cW X.prog X.w (upd H a ob) h' a ob) :
  Inv X pins σ (upd H a ob) { s with heap:=h',toks:=t' } :=
 I.write (x:=a) (e:=a) mu (.inl rfl) (λb q c z=>(hs.2 b c).trans z) he new
def JX{P:Program}{w:World}{H':Hp}{h':Heap}{kvs:List (Key × V)}{vs:List (Key × Value)}(z:kvs.length<=sizeLine)(hd:(a == sysModules)=false)(rel:KV kvs vs)(dd:h'.DictOf (dD P w) a vs) :
  cW P w H' h' a (.dK kvs):=⟨z,hd,vs,rel,dd⟩
def Bg{H':Hp}{Q:Unit->Shared->Prop}(hu:A.units+1<cLine)(I:Inv X pins σ H s)(g:vJ H a y v H')(ry:RelV y u)(B:RelV v r)(h:∀ s',Inv X pins σ H' s'->Q () s') :
  wpAny (model X.prog X.w) A (setItem (.ref a) u r) Q E s:=by
 rcases g with⟨f,k,e,p,l,m⟩ | ⟨f,k,b,e,p,t,l,m⟩
 .subst p m;obtain⟨z,hd,F,d,dd⟩:=Qz I.hok e;have hz:F.length<=sizeLine:=by rw[← d.length];exact z
  have n:(putK f k v).length<=sizeLine:=by have:=jA f k v;lia
  refine wpAny_setItem_pairs (hsz:=hz) (Hs ry) dd λh' i o=>h _ ?_
  have he:∃ q,h'.get? a=some q:=let ⟨q,_,_,j,_⟩:=i;⟨q,j⟩;exact wH I (by rw[e];exact True.intro) o he (JX n hd (d.put k B) i)
 .subst p m;cases(show u=Value.ref b from ry);obtain⟨z,hd,xs,d,dd⟩:=RT I.hok e;have hz:xs.length<=sizeLine:=by rw[← Paired.length d];exact z
  have n:(putK f k v).length<=sizeLine:=by have:=jA f k v;lia
  refine wpAny_setItem_heap (hsz:=hz) (tupleKind_room_in1 hu) (Gn I.hok t) dd λh' i o=>h _ ?_
  obtain⟨q,es,ep,j,D,J,G,_,C⟩:=i;refine wH I (by rw[e];exact True.intro) o ⟨q,j⟩ ⟨n,hd,_,(d.put k t B).keeps λc ys x=>?_,q,es,ep,j,D,J,G,C⟩;rw[aG (mH x e (λz=>nomatch z))];exact x
end
def RJ(i:Expr):Prop:=∀ a iv,subscripted i false a iv=operate [a,iv] (getItem a iv)
def Fe{prog:Program}{w:World}{A:Around}{E:Value->Shared->Prop}{s:Shared}{env:Env}{value slice:Expr}{pos:Pos}{T id:String}{Q:Value->Shared->Prop}
  (hl:typeLookup (.type T) "__getitem__" = pure (some (.builtin id)))(hs:RJ slice)
  (h:wpAny (model prog w) A (eval value env) (λo d=>wpAny (model prog w) A (eval slice env) (λi b=>b.TypeIs o T/\wpAny (model prog w) A (getItem o i) Q E b) E d) E s) :
  wpAny (model prog w) A (eval (.Subscript value slice pos) env) Q E s:=by
 refine Subscript_ (wpAny_mono h (λo d g=>wpAny_mono g (λi b c=>?_) λ_ _ x=>x) λ_ _ x=>x);obtain⟨e,c⟩:=c;unfold subscriptTail;refine ni ?_;rw[getitemInPython_of_ne e.not_modules];refine ni (wpAny_specialOf e hl ?_);have a:wpAny (model prog w) A (subscripted slice false o i) (λr f=>wpAny (model prog w) A (letTemporaryGo value o r >>= λ_=>pure r) Q E f) E b:=by
  rw[hs o i];exact wpAny_operating (wpAny_mono c (λr f j=>ni (wpAny_letTemporaryGo (nF j))) λ_ _ x=>x)
 first
  | exact nF (ni a)
  | exact ni (nF (ni a))
  | exact ni a
def wg{X:Cx}{pins:List (Addr × Obj)}{σ:St}{H:Hp}{s:Shared}{a:Addr}{y:V}{o:Option V}(I:Inv X pins σ H s)(g:iH H a y o):s.TypeIs (.ref a) "dict":=by
 rcases g with⟨c,k,e,_,_⟩ | ⟨c,k,b,e,_,_,_⟩
 .obtain⟨_,_,d,_,dd⟩:=Kd I.hok e;exact dd.typeIs
 .obtain⟨_,_,xs,_,dd⟩:=Mt I.hok e;exact dd.typeIs
def Rw(td ty:TE):TE:=λσ H Q=>td σ H λx c=>ty σ c λy b=>∃ a v,x=.ref a/\iH b a y (some v)/\Q v b
def Rg(td ty tv:TE):TS:=λD σ H=>tv σ H λv d=>td σ d λx c=>ty σ c λy e=>∃ a b,x=.ref a/\vJ e a y v b/\D.nx σ b
section
variable {X:Cx}{o i e value:Expr}{pos pos' tpos:Pos}{td ty tv:TE}
def bx(hu:X.A.units+1<cLine)(ho:PE X o td)(hi:PE X i ty)(hs:RJ i):PE X (.Subscript o i pos) (Rw td ty):=by
 intro b s σ H Q I h;refine Fe PySem.F.slot_dict_getitem.lookup hs (thn (ho b s σ H _ I h) λu n ⟨x,f,k,p,j⟩=>thn (hi b n σ f _ k j) λiv t ⟨y,e,d,l,a,v,ex,g,m⟩=>?_);subst ex;obtain rfl:u=Value.ref a:=p;exact⟨wg d g,BP hu d g l λr w q c=>⟨v,e,q,c,m⟩⟩
def fW(hu:X.A.units+1<cLine)(ho:PE X o td)(hi:PE X i ty)(hv:PE X value tv)(hs:swapsWith value (some (.Subscript o i pos')) pos.line X.env=pure false) :
  PS X (.Assign [.Subscript o i pos'] value pos) (Rg td ty tv):=by
 intro b s σ H D I h;refine wpAny_Assign_Subscript (thn (hv b s σ H _ I h) λr B ⟨v,n,p,z,d⟩=>thn (ho b B σ n _ p d) λu w ⟨x,c,k,l,t⟩=>thn (hi b w σ c _ k t) λiv F ⟨y,E,m,f,a,q,ex,g,j⟩=>?_) hs;subst ex;obtain rfl:u=Value.ref a:=l;exact Bg hu m g f z λC e=>⟨σ,q,e,j⟩
end
def yS{P:Program}{w:World}{H:Hp}(h:Heap)(hb:sysModules<h.objs.size):cW P w H (h.push { cls:=.type "dict",data:=.dict #[] }) h.objs.size (.dK []) :=
 ⟨Nat.zero_le _,beq_eq_false_iff_ne.mpr (Ne.symm (J6 hb)),[],.nil,Heap.DictOf.new h⟩
def Qq:TE:=λ_ H Q=>∀ p,H p=none->Q (.ref p) (upd H p (.dK []))
section
variable {X:Cx}{pos:Pos}
def yU:PE X (.Dict [] [] pos) Qq:=λb s σ H Q I h =>
 wpAny_Dict_empty ⟨.ref s.heap.objs.size,_,I.laid (a:=s.heap.objs.size) (o:=.dK []) (t':=s.toks) (λ_ _ q=>n7 _ q) (ql _) (yS s.heap I.big),rfl,h _ (I.hok.fresh (ql _))⟩
end
def DG:List (TE × TE)->St->Hp->(List (V × V)->Hp->Prop)->Prop
 | [],_,H,Q=>Q [] H
 | (tk,tv)::r,σ,H,Q=>tk σ H λx b=>tv σ b λy a=>DG r σ a λd c=>Q ((x,y)::d) c
abbrev VV:List (V × V)->List (Value × Value)->Prop:=Paired λp q=>RelV p.1 q.1/\RelV p.2 q.2
def PPs(X:Cx)(pos:Pos)(keys:List (Option Expr))(values:List Expr)(a:List (TE × TE)):Prop :=
 ∀(pins:List (Addr × Obj))(s:Shared)(σ:St)(H:Hp)(Q:List (V × V)->Hp->Prop),Inv X pins σ H s->DG a σ H Q ->
  wpAny (model X.prog X.w) X.A (evalPairs (pairTrees keys values X.env pos)) (λd s'=>∃ b c,Inv X pins σ c s'/\VV b d/\Q b c) X.xe s
def vN{X:Cx}{pos:Pos}:PPs X pos [] [] []:=λa s σ H Q I h=>pairTrees_nil_walk ⟨[],H,I,.nil,h⟩
def eV{X:Cx}{pos:Pos}{k v:Expr}{ks:List (Option Expr)}{vs:List Expr}{tk tv:TE}{b:List (TE × TE)}(hk:PE X k tk)(hv:PE X v tv)(hr:PPs X pos ks vs b) :
  PPs X pos (some k::ks) (v::vs) ((tk,tv)::b):=λa s σ H Q I h =>
 pairTrees_cons_walk (thn (hk a s σ H _ I h) λu q ⟨x,e,g,r,f⟩=>thn (hv a q σ e _ g f) λz n ⟨y,d,p,j,l⟩ =>
  thn (hr a n σ d _ p l) λw A ⟨i,o,t,c,m⟩=>⟨(x,y)::i,o,t,.cons ⟨r,j⟩ c,m⟩)
def iB(kvs more:List (Key × V)):List (Key × V):=more.foldl (λa b=>putK a b.1 b.2) kvs
def KV.merge:∀ {more:List (Key × V)}{c:List (Key × Value)}{a:List (Key × V)}{b:List (Key × Value)},KV more c->KV a b->KV (iB a more) (merged b c):=by
 intro more c a b r;unfold KV at r
 induction r generalizing a b with
 | nil=>intro q;exact q
 | @cons p q ps qs h t ih =>
  intro d;have e:KV (putK a p.1 p.2) (stored b q.1 q.2):=by
   have:=d.put p.1 h.2;rw[← h.1];exact this
  exact ih e
theorem j6:∀(more a:List (Key × V)),(iB a more).length<=a.length+more.length
 | [],a=>by show a.length<=a.length+0;lia
 | p::r,a=>by
  have c:=j6 r (putK a p.1 p.2);have b:=jA a p.1 p.2;show(iB (putK a p.1 p.2) r).length<=_;rw[length_cons];lia
theorem qF{P:Program}{w:World}:∀ {d:List (Key × V)}{ws:List (Value × Value)},VV (d.map λf=>(kV f.1,f.2)) ws->∃ e,Carries (dD P w) ws e/\KV d e
 | [],_,r=>by rw[map_nil] at r;cases r;exact⟨[],True.intro,.nil⟩
 | p::d,_,r=>by
  rw[map_cons] at r;cases r with
  | @cons a b as bs h t =>
   obtain⟨e,c,q⟩:=qF (P:=P) (w:=w) t;obtain⟨i,g⟩:=b;exact⟨(p.1,g)::e,⟨Hs h.1,rfl,c⟩,.cons ⟨rfl,h.2⟩ q⟩
def Ou(b:List (TE × TE)):TE:=λσ H Q=>∀ p,H p=none->DG b σ (upd H p (.dK [])) λe c=>c p=some (.dK [])/\∃ a:List (Key × V),e=a.map (λd=>(kV d.1,d.2))/\a.length<=15/\Q (.ref p) (upd c p (.dK (iB [] a)))
def xu{X:Cx}{pos:Pos}{keys:List (Option Expr)}{values:List Expr}{d:List (TE × TE)}(h:PPs X pos keys values d)(hall:keys.all (·.isSome)=true)(hl:keys.length=values.length)(h0:keys≠[])
  (h15:keys.length<=15):PE X (.Dict keys values pos) (Ou d):=by
 intro g s σ H Q I q;have m:=I.hok.fresh (ql s.heap.objs.size);have p:=I.laid (a:=s.heap.objs.size) (o:=.dK []) (h':=s.heap.push { cls:=.type "dict",data:=.dict #[] }) (t':=s.toks) (λ_ _ q=>n7 _ q) (ql _) (yS s.heap I.big);refine wpAny_Dict_walk (knd:=dD X.prog X.w) hall hl h0 h15 (thn (h g _ σ _ _ p (q _ m)) λy B ⟨A,x,j,i,e,b,ep,lk,u⟩=>?_);subst ep;obtain⟨v,c,k⟩:=qF (P:=X.prog) (w:=X.w) i;obtain⟨z,hd,n,t,dd⟩:=Qz j.hok e;cases t;refine⟨v,c,dd,λh' f r=>⟨.ref s.heap.objs.size,_,?_,rfl,u⟩⟩;have hz:(iB [] b).length<=sizeLine:=by
  have l:=j6 b [];rw[length_nil] at l;rw[sizeLine_eq];lia
 have he:∃ q,h'.get? s.heap.objs.size=some q:=let ⟨q,_,_,hq,_⟩:=f;⟨q,hq⟩;exact wH j (by rw[e];exact True.intro) r he (JX hz hd (k.merge .nil) f)
end L2
namespace SLi
open PySem
def clip(a b n:Nat):Builtin.Str.strSliceIndices (some (a:Int)) (some (b:Int)) 1 n=Builtin.Str.strSliceIndices (some ((min a n:Nat):Int)) (some ((min b n:Nat):Int)) 1 n:=by
 have c:¬ ((a:Int)<0):=by lia
 have h:¬ ((b:Int)<0):=by lia
 have d:¬ (((min a n:Nat):Int)<0):=by lia
 have f:¬ (((min b n:Nat):Int)<0):=by lia
 have e:max (0:Int) (min (a:Int) (n:Int))=max 0 (min ((min a n:Nat):Int) (n:Int)):=by lia
 have g:max (0:Int) (min (b:Int) (n:Int))=max 0 (min ((min b n:Nat):Int) (n:Int)):=by lia
 simp only[Builtin.Str.strSliceIndices,c,h,d,f,if_false,e,g]
 rfl
def both(x:Str){a b:Nat}(h:a<=b):Txt.slice x (some (a:Int)) (some (b:Int))=⟨((x.cps.toList.drop a).take (b - a)).toArray⟩:=by
 have g:x.cps.toList.length=x.length:=by simp[Str.length]
 have e:Txt.slice x (some (a:Int)) (some (b:Int))=Txt.slice x (some ((min a x.length:Nat):Int)) (some ((min b x.length:Nat):Int)):=by
  unfold Txt.slice;rw[clip]
 rw[e];have p:=StrLaws.sliceText_plain (x:=x) (i:=((min a x.length:Nat):Int)) (j:=((min b x.length:Nat):Int)) ⟨by lia,by lia,by lia⟩;have d:Txt.slice x (some ((min a x.length:Nat):Int)) (some ((min b x.length:Nat):Int))=_:=p;rw[d];congr 1;have c:(((min a x.length:Nat):Int)).toNat=min a x.length:=by lia
 have f:(((min b x.length:Nat):Int) - ((min a x.length:Nat):Int)).toNat=min b x.length - min a x.length:=by lia
 rw[c,f];congr 1;by_cases ha:a<=x.length
 .rw[Nat.min_eq_left ha];by_cases hb:b<=x.length
  .rw[Nat.min_eq_left hb]
  .rw[Nat.min_eq_right (by lia)];rw[take_of_length_le (by rw[length_drop];lia),take_of_length_le (by rw[length_drop];lia)]
 .rw[Nat.min_eq_right (by lia),List.drop_eq_nil_of_le (by lia),List.drop_eq_nil_of_le (by lia)];simp
def upto(x:Str)(b:Nat):Txt.slice x none (some (b:Int))=⟨(x.cps.toList.take b).toArray⟩:=by
 have e:Txt.slice x none (some (b:Int))=Txt.slice x (some ((0:Nat):Int)) (some (b:Int)):=by
  unfold Txt.slice;rw[StrLaws.sliceIdx_none_lo]
  rfl
 rw[e,both x (Nat.zero_le b)];simp
def from_(x:Str)(a:Nat):Txt.slice x (some (a:Int)) none=⟨(x.cps.toList.drop a).toArray⟩:=by
 have c:x.cps.toList.length=x.length:=by simp[Str.length]
 have e:Txt.slice x (some (a:Int)) none=Txt.slice x (some (a:Int)) (some (x.length:Int)):=by
  unfold Txt.slice;rw[StrLaws.sliceIdx_none_hi]
 rw[e];by_cases h:a<=x.length
 .rw[both x h,take_of_length_le (by rw[length_drop];lia)]
 .have b:Txt.slice x (some (a:Int)) (some (x.length:Int))=Txt.slice x (some ((x.length:Nat):Int)) (some (x.length:Int)):=by
   unfold Txt.slice;rw[clip,clip x.length x.length];rw[Nat.min_eq_right (by lia:x.length<=a),Nat.min_self]
  rw[b,both x (ql _),List.drop_eq_nil_of_le (by lia:x.cps.toList.length<=a),Nat.sub_self];simp
end SLi
namespace L2
open PySem PySem.Spec PyProof.Rows
abbrev mkT(r:List Nat):V:=V.str ⟨r.toArray⟩
abbrev sD(r:List Nat):D:=.str ⟨r.toArray⟩
def Tj{cs:List (List Nat)}{i:Nat}(hi:i<cs.length):(cs.map mkT)[i]?=some (mkT cs[i]):=by
 grind
def bF{α:Type}(x:α)(xs:List α):atI (x::xs) 0=some x:=aZ (xs:=x::xs) (j:=0) rfl
def Rv:R2:=λx y H Q=>∃(a b:Addr)(xs ys:List V),x=.ref a/\y=.ref b/\H a=some (.tup xs)/\H b=some (.tup ys)/\xs.length+ys.length<=sizeLine/\∀(q:Addr)(H':Hp),Same H H'->H' q=some (.tup (xs++ys))->Q (.ref q) H'
def gF:OpR X (binaryOp .Add) Rv:=by
 intro g s σ H x y v u Q I t r h;obtain⟨a,b,xs,ys,rfl,rfl,l,k,hz,q⟩:=h;cases xs with
 | cons M xs =>
  refine Cr g s σ H (.ref a) (.ref b) v u Q I t r ⟨a,b,_,_,rfl,rfl,SqT.of l,SqT.of k,by simp,hz,λz=>?_,λz p E=>q p _ (ao E _) ak⟩;refine q a H (Same.refl H) ?_;rw[l,z,append_nil]
 | nil =>
  cases t;cases r;obtain⟨D,J,C,_⟩:=I.tuple (SqT.of (K:=X.K) l);obtain⟨f,L,G,_⟩:=I.tuple (SqT.of (K:=X.K) k);tm_at"h"
theorem Dv(a:Str):∀ xs:List Str,inV (.str a) (xs.map V.str)=decide (a∈xs)
 | []=>rfl
 | x::xs=>by
  have b:=Dv a xs;unfold inV at b ⊢;rw[map_cons,any_cons,b];show(x == a || decide (a∈xs))=_
  grind
def lg{prog:Program}{w:World}{A:Around}{E:Value->Shared->Prop}{s:Shared}{t sl:Addr}{items:Array Value}{vl vu:Value}{lo hi:Option Int}{Q:Value->Shared->Prop}(ht:IsTup s.heap t items)(hs:s.heap.IsSliceOf sl vl vu .none)(pl:IsPart vl lo)(pu:IsPart vu hi)
  (hw:HT.sIx items.size 0 lo=0/\HT.sIx items.size items.size hi=items.size)(h:Q (.ref t) s):wpAny (model prog w) A (getItem (.ref t) (.ref sl)) Q E s:=by
 obtain⟨os,a,c,d⟩:=id hs;have hTs:s.TypeIs (.ref sl) "slice":=⟨os,a,c⟩
 unfold getItem
 try with_reducible refine Xo ?_
 first | refine ni (nF ?_) | skip
 refine ni (wpAny_sequenceKey ht.typeIs (by decide) ?_);refine ni (wpAny_callSpecial?_slot (name:=Str.ofString "__getitem__") ht.typeIs PyProof.Rows.slot_tuple_getitem
  (Xy PyProof.Rows.slot_tuple_getitem ht.typeIs PyProof.Rows.entry_tuple_getitem ?_ (PyProof.Rows.args_tuple_getitem _ _)))
 show wpAny _ _ (Builtin.Tuple.tupleItemsOf (.ref t) >>= _) _ _ s;refine ni (PyProof.Rows.tupleItemsOf_ ht ?_);refine ni (wpAny_typeOf hTs ?_);rw[if_pos (by decide)];refine ni (HT.gP hs pl pu ?_);have b:(((HT.sIx items.size 0 lo:Nat):Int) == 0 && (1:Int) == 1 && (HT.sIx items.size items.size hi - HT.sIx items.size 0 lo) == items.size)=true:=by
  rw[hw.1,hw.2];simp
 show wpAny _ _ (if (((HT.sIx items.size 0 lo:Nat):Int) == 0 && (1:Int) == 1 && (HT.sIx items.size items.size hi - HT.sIx items.size 0 lo) == items.size)=true then _ else _) _ _ s;rw[if_pos b];refine ni (m:=Builtin.Tuple.tupleIsExact _) (ni (wpAny_typeOf ht.typeIs (nF ?_)));rw[if_pos (by decide)];exact ni (wpAny_rule (nF ⟨_,rfl,nF h⟩))
def Q8(K:W.Frag):V->Option Int->Option Int->Hp->VK->Prop:=λx lo b H Q=>∃ a xs,x=.ref a/\H a=some (.tup xs)/\∀(p:Addr)(H':Hp),Same H H'->H' p=some (.tup (vZ xs lo b))->Q (.ref p) H'
def xJ:SlR X (Q8 X.K):=by
 intro c s σ H x v k l lo j sl Q I i g pl f h;obtain⟨a,xs,rfl,e,q⟩:=h;by_cases hw:HT.sIx xs.length 0 lo=0/\HT.sIx xs.length xs.length j=xs.length
 .cases i;obtain⟨d,r,ht,hz⟩:=I.tuple (SqT.of e);have b:d.toArray.size=xs.length:=by rw[XM];exact r.length.symm
  refine⟨"tuple",_,PyProof.Rows.slot_tuple_getitem.lookup,ht.typeIs,?_⟩;refine lg ht g pl f (by rw[b];exact hw) ⟨.ref a,H,I,rfl,q a H (Same.refl H) ?_⟩;rw[e];unfold vZ;rw[hw.1,hw.2,drop_zero,Nat.sub_zero,take_length]
 .exact O8 c s σ H _ v k l lo j sl Q I i g pl f ⟨a,xs,rfl,SqT.of e,hw,λp m=>q p _ (ao m _) ak⟩
def Ud:R2:=λx y H Q=>∃(l b:Addr)(xs:List V),x=.ref l/\y=.ref b/\H l=some (.lst xs)/\H b=some (.lst [])/\Q (.bl (!xs.isEmpty)) H
def Ge(hu:X.A.units<cLine):OpR X (compareOp .NotEq) Ud:=by
 intro d s σ H x y v u Q I p o h;obtain⟨l,b,xs,rfl,rfl,m,r,q⟩:=h;cases p;cases o;obtain⟨k,n,f,_⟩:=I.list (SqL.of (K:=X.K) m);obtain⟨a,g,c,_⟩:=I.list (SqL.of (K:=X.K) r);cases g;cases n with
 | nil=>exact SeqAt.RcNeAt.lists (e:=λ_=>true) f.isList c.isList rfl hu (λj i _=>absurd i (Nat.not_lt_zero j)) X.prog X.w _ _ ⟨.bl false,H,I,rfl,q⟩
 | cons _ _=>exact SeqAt.RcNeAt.lists_lengths f.isList c.isList (by simp) hu X.prog X.w _ _ ⟨.bl true,H,I,rfl,q⟩
theorem CT(I:Inv X pins σ H s):∀(n:Nat)(d:D)(A:Around)(x y:V)(v u:Value),dz n d->Den H x d->Den H y d->RelV x v->RelV y u->A.units+n<cLine->SeqAt.EqAt A s v u true
 | _,.non,A,x,y,v,u,k,h,g,f,c,l=>absurd rfl k.ne
 | _,.bl b,A,x,y,v,u,k,h,g,f,c,l=>by
  have B:=h;have w:=g;subst B;subst w;cases f;cases c;exact SeqAt.EqAt.same _
 | _,.int i,A,x,y,v,u,k,h,g,f,c,l=>by
  have B:=h;have w:=g;subst B;subst w;obtain⟨t,rfl⟩:=f;obtain⟨t',rfl⟩:=c;have:=SeqAt.EqAt.int_int (A:=A) (s:=s) i t i t'
  simpa using this
 | _,.str z,A,x,y,v,u,k,h,g,f,c,l=>by
  have B:=h;have w:=g;subst B;subst w;obtain⟨t,rfl⟩:=f;obtain⟨t',rfl⟩:=c;have:=SeqAt.EqAt.str_str (A:=A) (s:=s) z t z t'
  simpa using this
 | 0,.tup C,A,x,y,v,u,k,h,g,f,c,l=>absurd rfl (k.2 C)
 | n+1,.tup C,A,x,y,v,u,k,h,g,f,c,l=>by
  obtain⟨a,Q,rfl,ha,m⟩:=aO h;obtain⟨b,Z,rfl,Y,q⟩:=aO g;cases f;cases c;by_cases hab:a=b
  .subst hab;exact SeqAt.EqAt.same _
  .obtain⟨F,L,p1,_⟩:=I.tuple (SqT.of ha);obtain⟨r,M,p2,_⟩:=I.tuple (SqT.of Y);have l1:=m.len;have l2:=q.len;have R:=L.length;have m2:=M.length;have key:=SeqAt.EqAt.of_refs hab (SeqAt.RcAt.tuples (A:=A) (e:=λ_=>true) p1 p2 (by lia) λj T h2=>?_)
   .grind
   .have o:j<Q.length:=by simpa [R] using T
    have p:j<Z.length:=by simpa [m2] using h2
    obtain⟨N,J,P⟩:=m.at_ (n6 o);obtain⟨d2,K,W⟩:=q.at_ (n6 p);rw[J] at K;cases K;obtain⟨w1,O,G⟩:=L.get (n6 o);obtain⟨U,ac,E⟩:=M.get (n6 p);have S:F.toArray[j]=w1:=by
     grind
    have q2:r.toArray[j]=U:=by
     grind
    rw[S,q2];exact CT I n N A.in1 _ _ _ _ ((k.2 C rfl).2 N (Xu J)) P W G E (by first | (simp only[Around.in1];lia) | lia)
def Tr:R2:=λx y H Q=>∃(ds:List D)(n:Nat),Den H x (.tup ds)/\Den H y (.tup ds)/\dz n (.tup ds)/\n<=60/\Q (.bl false) H
def JQ(hu:X.A.units+64<cLine):OpR X (compareOp .NotEq) Tr:=by
 intro C s σ H x y v u Q I K G h;obtain⟨o,n,hx,U,B,hn,q⟩:=h;obtain⟨a,Y,rfl,ha,f⟩:=aO hx;obtain⟨b,O,rfl,M,k⟩:=aO U;cases K;cases G;cases n with
 | zero=>exact absurd rfl (B.2 o)
 | succ n =>
 obtain⟨d,D,P,_⟩:=I.tuple (SqT.of ha);obtain⟨c,t,V,_⟩:=I.tuple (SqT.of M);have l1:=f.len;have l2:=k.len;have m1:=D.length;have m2:=t.length;have key:=SeqAt.RcNeAt.tuples (A:=X.A) (e:=λ_=>true) P V (by lia) λj F W=>?_
 .have e:(!((List.range (min d.toArray.size c.toArray.size)).all (λ_=>true) && d.toArray.size == c.toArray.size))=false:=by
   simp;lia
  rw[e] at key;exact key X.prog X.w _ _ ⟨.bl false,H,I,rfl,q⟩
 .have g:j<Y.length:=by simpa [m1] using F
  have i:j<O.length:=by simpa [m2] using W
  obtain⟨z,p,R⟩:=f.at_ (n6 g);obtain⟨d2,r,L⟩:=k.at_ (n6 i);rw[p] at r;cases r;obtain⟨S,N,m⟩:=D.get (n6 g);obtain⟨J,T,l⟩:=t.get (n6 i);have E:d.toArray[j]=S:=by
   grind
  have Z:c.toArray[j]=J:=by
   grind
  rw[E,Z];exact CT I n z X.A.in1 _ _ _ _ ((B.2 o rfl).2 z (Xu p)) R L m l (by first | (simp only[Around.in1];lia) | lia)
def GZ(hN:X.N.Nodup)(hix:X.N[ix]?=some xn)(am:X.env.scope.names.lookup xn=some .local)(N:List Str)(lift:St->St)(hc:X.calm=true)(hi:PI X tg iter wi)
  (hkind:scope.kind=.function)(hcell:∀ y∈scope.names,y.2≠.cell)(hfree:∀ y∈scope.names,y.2=.free->X.env.kindOf y.1=some .cell\/X.env.kindOf y.1=some .free)
  (hnames:∀ y∈scope.names,y.2=.local->scope.names.lookup y.1=some .local)
  (hlen:∀ σ:St,σ.length=X.N.length->(lift σ).length=N.length)
  (hσ:∀(σ:St)(i:Nat)(x:Str)(v:V),σ.length=X.N.length->N[i]?=some x->(lift σ)[i]?=some (some v)->scope.names.lookup x=some .free/\∃ j:Nat,X.N[j]?=some x/\σ[j]?=some (some v))
  (hg:∀ cl C s H ex pn E,PG (bM X scope N cl C s H ex pn E) tg g)(ht:∀ cl C s H ex pn E,Jw (bM X scope N cl C s H ex pn E) ifs tc)(he:∀ cl C s H ex pn E,PE (bM X scope N cl C s H ex pn E) elt te)
  (hs:∀ x,foldedSetIterable iter X.env x=pure x)(hsw:swapsWith (.ListComp elt [⟨tg,iter,ifs,0⟩] scope pos) (some (.Name xn pos')) spos.line X.env=pure true) :
  PS X (.Assign [.Name xn pos'] (.ListComp elt [⟨tg,iter,ifs,0⟩] scope pos) spos) (Oc (Ac wi g tc te lift) (tY ix)):=by
 intro f s σ H D I h;rw[exec_Assign_Name_used _ _ _ _ hsw];refine ni (wpAny_standAt (ni ?_))
 suffices key:wpAny (model X.prog X.w) X.A (comprehension (.ListComp elt [⟨tg,iter,ifs,0⟩] scope pos) scope X.env (firstIterPos [⟨tg,iter,ifs,0⟩] pos) (newList []) (firstAsync [⟨tg,iter,ifs,0⟩]) (firstIter [⟨tg,iter,ifs,0⟩] X.env) (some (assign (.Name xn pos') X.env))) (λ_ ab=>∃ B k,Inv X f B k ab/\D.nx B k) X.xe s by
  exact ni (thn key λ_ s' q=>nF (nF q))
 obtain⟨cl,Z,av,O⟩:=lB λy hy hf=>I.ok.has y.1 (hfree y hy hf)
 refine wpAny_comprehension_free rfl hs Z hkind hnames (thn (hi f s σ H _ I h) λv s1 h1=>thn h1 λb6 l h2=>?_);obtain⟨it,F,tn,J,H2,e,I2,T,U,f2,q⟩:=h2;subst e;refine XQ (wpAny_newFunctionEnv hcell (by intro y hy;simp at hy) (λh₁ af as=>?_) hkind);have K:=I2.lnew (t':=l.toks) .nil (Nat.zero_le _);have fr:=I2.fresh;have hold:=λb o e=>as.extBut b o (J6 (I3 e)) (n7 _ e)
 have G:∀ b∈F,Aq X f (upd H2 l.heap.objs.size (.lst [])) b:=λb a=>by
  obtain⟨o,eo,_⟩:=T.obj 0 _ U b a;exact⟨by rw[aG (J6 (I3 eo))];exact(f2 b a).1,(f2 b a).2⟩
 have fo:∀ b∈F,∃ o,(l.heap.push { cls:=.type "list",data:=.seq ([]:List Value).toArray }).get? b=some o:=λb a=>by
  obtain⟨o,eo,_⟩:=T.obj 0 _ U b a;exact⟨o,n7 _ eo⟩
 generalize hP:l.heap.push { cls:=.type "list",data:=.seq ([]:List Value).toArray }=P at *;obtain⟨W,⟨m0,w0⟩,ad⟩:=q l.heap.objs.size fr;generalize hL:l.heap.objs.size=L at *
 let R:Result->Shared->Prop:=compPost (model X.prog X.w) X.A X.xe (some (assign (.Name xn pos') X.env)) (λ_ ab=>∃ B k,Inv X f B k ab/\D.nx B k) (.ref L) P.objs.size
 let Y:Cx:=bM X scope N cl P.objs.size { l with heap:=P } (upd H2 L (.lst [])) F (X.pn++f) (notedBy (model X.prog X.w) X.A (compEnvC scope cl P.objs.size X.env) λe s'=>R (.error e) s')
 have IY:Inv Y [] (lift σ) (upd H2 L (.lst [])) { l with heap:=h₁,toks:=l.toks+([]:List (Str × Value)).length } :=
  tM K hkind hcell hfree av O G fo (hlen σ I.len) (λi x v=>hσ σ i x v I.len) af hold
 have an:=T.keep _ _ _ U λb a o e=>hold b o (by rw[← hP];exact n7 _ e)
 have fC:∀ b∈F,b≠P.objs.size/\(b∈F):=λb a=>by
  obtain⟨o,eo⟩:=fo b a;exact⟨J6 (I3 eo),a⟩
 have S:∀ {k:Hp},(∀ b∈F,k b=none)->∀ b∈F,Aq Y [] k b:=fun {k} hn b a=>by
  refine⟨hn b a,(fC b a).1,λz=>?_,.inl a,λx c ex=>(G b a).2.2.2.2.1 x c (O _ _ ex),λp hp=>?_⟩
  .rcases mem_cons.mp (K.stkSub b z) with y | y
   .exact(G b a).2.1 y
   .exact(G b a).2.2.1 y
  .have ag:=hp;rw[append_nil] at ag;exact(G b a).2.2.2.2.2 p ag
 have Q:∀ s4:Shared,s4={ l with heap:=h₁,toks:=l.toks+([]:List (Str × Value)).length } ->
   codeAny (model X.prog X.w) X.A (.compLoop (.ListComp elt [⟨tg,iter,ifs,0⟩] scope pos) 0 (.ref it) (.ref L) (compEnvC scope cl P.objs.size X.env)) R s4:=by
  rintro s4 rfl;refine cV (λn s'=>∃ i B k,Inv Y [] B k s'/\tn i s'.heap/\(∀ b∈F,k b=none)/\W i n B k) ?_ m0 ⟨0,_,_,IY,an,λb a=>(G b a).1,w0⟩;rintro n s5 ⟨i,σ5,H5,I5,ai,ah,w5⟩;rcases ad i n σ5 H5 w5 with⟨stop,qn⟩ | ⟨go,Nx,aI,step⟩
  .refine thn (T.done Y rfl rfl rfl hc i [] s5 σ5 H5 Y.xe I5 (S ah) ai stop) λr s6 ⟨hr,I6⟩=>?_
   subst hr;obtain⟨m6,aE,_⟩:=id I6.loc;have IX:=K.call' I6.os I6.base I6.hok I6.bare λb a=>⟨(G b a).2.2.2.1,(G b a).2.1,(G b a).2.2.2.2.1,(G b a).2.2.2.2.2⟩
   have nC:∀ x c,X.env.cells.lookup x=some c->c≠P.objs.size:=λx c ec z=>by
    obtain⟨v0,qv⟩:=K.cell x c ec;exact absurd qv.lt (by rw[z];exact Nat.lt_irrefl _)
   have nP:∀ p∈X.pn++f,p.1≠P.objs.size:=λp hp z=>by
    have z0:=I3 (K.pin p hp).1;exact absurd z0 (by rw[z];exact Nat.lt_irrefl _)
   refine wpAny_assign_Name (vB IX hN hix (.inl am) (v:=.ref L) rfl (λs7 I7 bd=>?_) (.inr am));obtain⟨a7,bc,aT⟩:=bd;have a6:P.objs.size≠a7:=by
    rcases aT with z | z
    .rw[z];exact Nat.ne_of_gt K.lt
    .exact(nC _ _ z).symm
   refine⟨m6,aE.at' λo e=>(bc.2 _ a6).trans e,λh' sb=>⟨_,H5,I7.turned (λb o a e=>(sb.2 b a).trans e) I6.free (Nat.ne_of_gt K.lt) (.inr K.sz) nC nP,qn⟩⟩
  .refine thn (T.item Y rfl rfl rfl hc i [] s5 σ5 H5 Y.xe I5 (S ah) ai go) λr s6 ⟨u,hr,h6⟩=>?_
   subst hr;refine thn h6 λ_ s7 ⟨x,H7,I7,r7,y7,aa,a8⟩=>?_
   have bl:=I7.pinned (S a8) (T.obj _ _ aa);refine thn (hg _ _ _ _ _ _ _ _ s7 σ5 H7 x u _ bl r7 (step x H7 y7)) λ_ s8 ⟨M,H8,I8,q8⟩=>?_
   refine thn (ht _ _ _ _ _ _ _ _ s8 M H8 _ I8 q8) λok s9 ⟨H9,I9,q9⟩=>?_
   have t:∀ {sx:Shared}{Hx:Hp},Inv Y ([]++nW F s7.heap) M Hx sx->Nx M Hx->∃ m,m<n/\∃ i B k,Inv Y [] B k sx/\tn i sx.heap/\(∀ b∈F,k b=none)/\W i m B k:=fun {sx Hx} Ix nx=>by
    obtain⟨m',hm,wx⟩:=aI M Hx nx;refine⟨m',hm,i+1,M,Hx,Ix.unpinned,T.keep _ _ _ aa λb a o e=>(Ix.pin (b,o) (Xw _ (Xw _ (dH a e)))).1,λb a=>?_,wx⟩;obtain⟨o,e,d⟩:=T.obj _ _ aa b a;exact(Ix.pin (b,o) (Xw _ (Xw _ (dH a e)))).2.1
   cases ok with
   | false =>
    rw[if_neg TF] at q9 ⊢;exact t I9 q9
   | true =>
    rw[if_pos rfl] at q9 ⊢;refine thn (he _ _ _ _ _ _ _ _ s9 M H9 _ I9 q9) λy a0 ⟨ap,bi,bb,aS,ys,a2,hz,a1⟩=>?_
    refine thn (bJ _ a0 M bi (.ref L) [ap] (.ref L) [y] (λ_ k=>Nx M k) bb rfl (.cons aS .nil) ⟨L,ys,ap,rfl,rfl,a2,hz,a1⟩) λ_ b1 ⟨_,cq,a5,_,bg⟩=>?_
    exact t a5 bg
 exact codeAny_compStart_list (Q _ rfl) (T.self X.A 0 _ _ _ an (Q _ rfl))
def pL(hN:X.N.Nodup)(hix:X.N[ix]?=some xn)(b:X.env.scope.names.lookup xn=some .local)(XN:List Str)(sc:Scope)(N:List Str)(js:List (Option Nat))(a:X.N=XN)(hsc:X.env.scope=sc)(hc:X.calm=true)(hi:PI X tg iter wi)
  (hkind:scope.kind=.function)(hchk:jE N js XN scope.names=true)(hcell:∀ y∈scope.names,y.2≠.cell)(hfree:∀ y∈scope.names,y.2=.free->sc.names.lookup y.1=some .cell\/sc.names.lookup y.1=some .free)
  (hnames:∀ y∈scope.names,y.2=.local->scope.names.lookup y.1=some .local)
  (hg:∀ cl C s H ex pn E,PG (bM X scope N cl C s H ex pn E) tg g)(ht:∀ cl C s H ex pn E,Jw (bM X scope N cl C s H ex pn E) ifs tc)(he:∀ cl C s H ex pn E,PE (bM X scope N cl C s H ex pn E) elt te)
  (hs:∀ x,foldedSetIterable iter X.env x=pure x:=by intro _;rfl)(hsw:swapsWith (.ListComp elt [⟨tg,iter,ifs,0⟩] scope pos) (some (.Name xn pos')) spos.line X.env=pure true:=by rfl) :
  PS X (.Assign [.Name xn pos'] (.ListComp elt [⟨tg,iter,ifs,0⟩] scope pos) spos) (Oc (Ac wi g tc te (ju js)) (tY ix)):=by
 subst a;subst hsc;exact GZ hN hix b N (ju js) hc hi hkind hcell hfree hnames (λσ _=>wK hchk σ) (λσ i x v _ c d=>Dq hchk σ i x v c d) hg ht he hs hsw
end L2
namespace SO
open PySem PySem.W PyProof.Rows
variable {O:KeyOrd}{key:Nat->O.α}{N:Nat}
def KN(key:Nat->O.α)(p:Array Nat)(i:Nat):O.α:=key (p.getD i 0)
def dM(key:Nat->O.α)(p:Array Nat)(k:Nat):Prop:=∀ i j,i<=j->j<k->O.kle (KN key p i) (KN key p j)
def EY(key:Nat->O.α)(p:Array Nat)(k:Nat):Prop:=∀ i j,i<=j->j<k->O.kle (KN key p j) (KN key p i)
def InN(N:Nat)(p:Array Nat):Prop:=p.toList.Perm (List.range N)
def InN.size(h:InN N p):p.size=N:=by simpa using h.length_eq
def InN.lt(h:InN N p)(hi:i<N):p.getD i 0<N:=by
 have a:i<p.size:=by rw[h.size];exact hi
 have e:p.getD i 0=p[i]:=by simp[Array.getD,a]
 rw[e];exact mem_range.mp (h.mem_iff.mp (by simp))
def InN.of(h:InN N p)(g:q.Perm p):InN N q:=(Array.perm_iff_toList_perm.mp g).trans h
def kj(h:p[i]?=q[j]?):KN key p i=KN key q j:=by
 unfold KN;rw[Array.getD_eq_getD_getElem?,Array.getD_eq_getD_getElem?,h]
def uW(hs:src<p.size)(hd:d<=src)(k:Nat) :
  KN key (bubble p src d) k=if k=src - d then KN key p src else if src - d<k/\k<=src then KN key p (k - 1) else KN key p k:=by
 have e:=getElem?_bubble hs d hd k;by_cases h1:k=src - d
 .rw[if_pos h1] at e ⊢;exact kj e
 .rw[if_neg h1] at e ⊢;by_cases h2:src - d<k/\k<=src
  .rw[if_pos h2] at e ⊢;exact kj e
  .rw[if_neg h2] at e ⊢;exact kj e
def Dj(hj:j<=p.size)(k:Nat):KN key (kas_rev p i j) k=if i<=k/\k<j then KN key p (i+j - 1 - k) else KN key p k:=by
 have e:=getElem?_mirror_all (i:=i) hj k;unfold kas_rev;by_cases h1:i<=k/\k<j
 .rw[if_pos h1] at e ⊢;exact kj e
 .rw[if_neg h1] at e ⊢;exact kj e
def eO(hj:j<=p.size)(heq:∀ k,i<=k->k<j->KN key p k=KN key p (j - 1))(k:Nat):KN key (kas_rev p i j) k=KN key p k:=by
 rw[Dj hj]
 grind
def InN.rev(h:InN N p)(i j:Nat):InN N (kas_rev p i j):=h.of (mirror_perm _ _ _ _)
section
variable {cmp:Nat->Nat->(Bool->Shared->Prop)->Shared->Prop}{s:Shared}
def Cmp(key:Nat->O.α)(N:Nat)(cmp:Nat->Nat->(Bool->Shared->Prop)->Shared->Prop)(s:Shared):Prop :=
 ∀(i j:Nat)(C:Bool->Shared->Prop),i<N->j<N->C (O.blt (key i) (key j)) s->cmp i j C s
def ask{α:Type}{k:Bool->KasT α}{G:α->Shared->Prop}(hc:Cmp key N cmp s)(hp:InN N p)(hi:i<N)(hj:j<N)
  (h:(k (O.blt (KN key p i) (KN key p j))).kasWp cmp G s):(KasT.ask (p.getD i 0) (p.getD j 0) k).kasWp cmp G s :=
 hc _ _ _ (hp.lt hi) (hp.lt hj) h
theorem asc{G:Nat->Shared->Prop}(hc:Cmp key N cmp s)(hp:InN N p)(hN:nrem<=N):∀(f n:Nat),1<=n->n+f=nrem->dM key p n ->
  (∀ m,n<=m->m<=nrem->dM key p m->(m=nrem\/O.klt (KN key p m) (KN key p (m - 1)))->G m s)->(kas_asc p f n).kasWp cmp G s
 | 0,n,l,o,e,h=>h n (ql _) (by lia) e (.inl (by lia))
 | f+1,n,l,o,e,h=>by
  unfold kas_asc;refine ask hc hp (by lia) (by lia) ?_;cases hl:O.blt (KN key p n) (KN key p (n - 1)) with
  | true =>
   rw[if_pos rfl];exact h n (ql _) (by lia) e (.inr hl)
  | false =>
   rw[if_neg (by simp)];refine asc hc hp hN f (n+1) (by lia) (by lia) (λi j k q=>?_) λm a b c d=>h m (by lia) b c d
   by_cases hjx:j<n
   .exact e i j k hjx
   .have g:j=n:=by lia
    subst g;by_cases hi':i=j
    .subst hi';exact KeyOrd.kle_refl _
    .exact KeyOrd.kle_trans (e i (j - 1) (by lia) (by lia)) hl
theorem desc{G:Array Nat × Nat × Nat->Shared->Prop}(hc:Cmp key N cmp s)(hN:nrem<=N):∀(f:Nat)(p:Array Nat)(n q:Nat),InN N p->1<=n->n+f=nrem->EY key p n->q+1<=n ->
  (∀ i,n - (q+1)<=i->i<n->KN key p i=KN key p (n - 1)) ->
  (∀ p m q,InN N p->n<=m->m<=nrem->EY key p m->q+1<=m->(∀ i,m - (q+1)<=i->i<m->KN key p i=KN key p (m - 1))->G (p,m,q) s)->(kas_desc f p n q).kasWp cmp G s
 | 0,p,n,q,l,y,z,r,v,he,h=>h p n q l (ql _) (by lia) r v he
 | f+1,p,n,q,l,y,z,r,v,he,h=>by
  unfold kas_desc;have hsz:n<=p.size:=by rw[l.size];lia
  refine ask hc l (by lia) (by lia) ?_;cases hl:O.blt (KN key p n) (KN key p (n - 1)) with
  | true =>
   rw[if_pos rfl];have g:∀ xs:Array Nat,(∀ k,KN key xs k=KN key p k)->EY key xs (n+1):=by
    intro xs w i j t A;rw[w,w];by_cases hjx:j<n
    .exact r i j t hjx
    .have o:j=n:=by lia
     subst o;by_cases hi':i=j
     .subst hi';exact KeyOrd.kle_refl _
     .exact KeyOrd.kle_trans (KeyOrd.kle_of_klt hl) (r i (j - 1) (by lia) (by lia))
   by_cases hneq:q>0
   .rw[if_pos hneq];exact desc hc hN f _ (n+1) 0 (l.rev _ _) (by lia) (by lia) (g _ (eO hsz he)) (by lia) (λi a b=>by congr 1;lia) λp m q x a b c d e=>h p m q x (by lia) b c d e
   .rw[if_neg hneq];exact desc hc hN f _ (n+1) 0 l (by lia) (by lia) (g _ λ_=>rfl) (by lia) (λi a b=>by congr 1;lia) λp m q x a b c d e=>h p m q x (by lia) b c d e
  | false =>
   rw[if_neg (by simp)];refine ask hc l (by lia) (by lia) ?_;cases hg:O.blt (KN key p (n - 1)) (KN key p n) with
   | true =>
    rw[if_pos rfl];exact h p n q l (ql _) (by lia) r v he
   | false =>
    rw[if_neg (by simp)];have u:=KeyOrd.kle_antisymm hg hl;refine desc hc hN f p (n+1) (q+1) l (by lia) (by lia) (λi j t A=>?_) (by lia) (λi a b=>?_) λp m q x a b c d e=>h p m q x (by lia) b c d e
    .by_cases hjx:j<n
     .exact r i j t hjx
     .have o:j=n:=by lia
      subst o;by_cases hi':i=j
      .subst hi';exact KeyOrd.kle_refl _
      .rw[u];exact r i (j - 1) (by lia) (by lia)
    .grind
def tail3{G:Nat × Array Nat->Shared->Prop}(hc:Cmp key N cmp s)(hp:InN N p)(hN:nrem<=N)(h1:1<=n)(hn:n<=nrem)(hs:EY key p n)
  (h:∀ m q,InN N q->1<=m->m<=nrem->dM key q m->G (m,q) s):(kas_tail3 n nrem p).kasWp cmp G s:=by
 unfold kas_tail3;rw[KasT.kasWp_bind];have hsz:n<=p.size:=by rw[hp.size];lia
 refine asc hc (hp.rev _ _) hN _ n h1 (by lia) (λi j d e=>?_) λm a b c _=>h m _ (hp.rev _ _) (by lia) b c
 rw[Dj hsz,Dj hsz,if_pos (by lia),if_pos (by lia)];exact hs _ _ (by lia) (by lia)
def descPart{G:Nat × Array Nat->Shared->Prop}(hc:Cmp key N cmp s)(hp:InN N p)(hN:nrem<=N)(hn:n+1<=nrem)(hs:EY key p (n+1))
  (h:∀ m q,InN N q->1<=m->m<=nrem->dM key q m->G (m,q) s):(kas_descPart n nrem p).kasWp cmp G s:=by
 unfold kas_descPart;rw[KasT.kasWp_bind];refine desc hc hN _ p (n+1) 0 hp (by lia) (by lia) hs (by lia) (λi a b=>by congr 1;lia) λk m q c g d f o he=>?_
 dsimp only;have hsz:m<=k.size:=by rw[c.size];lia
 by_cases hneq:q>0
 .rw[if_pos hneq];refine tail3 hc (c.rev _ _) hN (by lia) d (λi j e l=>?_) h;rw[eO hsz he,eO hsz he];exact f i j e l
 .rw[if_neg hneq];exact tail3 hc c hN (by lia) d f h
def count{G:Nat × Array Nat->Shared->Prop}(hc:Cmp key N cmp s)(hp:InN N p)(hN:nrem<=N)(h1:1<=nrem)
  (h:∀ m q,InN N q->1<=m->m<=nrem->dM key q m->G (m,q) s):(kas_count nrem p).kasWp cmp G s:=by
 unfold kas_count;rw[KasT.kasWp_bind];refine asc hc hp hN _ 1 (ql _) (by lia) (λi j d u=>by have:i=j:=(by lia);subst this;exact KeyOrd.kle_refl _) λn g f b t=>?_
 by_cases hnn:n=nrem
 .rw[if_pos (by simpa using hnn)];exact h n p hp g f b
 .rw[if_neg (by simpa using hnn)];have c:=t.resolve_left hnn;by_cases hgt:n>1
  .rw[if_pos hgt];refine ask hc hp (by lia) (by lia) ?_;cases hrose:O.blt (KN key p 0) (KN key p (n - 1)) with
   | true =>
    rw[if_pos rfl];exact h n p hp g f b
   | false =>
    rw[if_neg (by simp)];have hsz:n<=p.size:=by rw[hp.size];lia
    have a:∀ k,0<=k->k<n->KN key p k=KN key p (n - 1):=by
     intro k _ v;have x:=b 0 k (by lia) v;have w:=b k (n - 1) (by lia) (by lia);exact KeyOrd.kle_antisymm w (KeyOrd.kle_trans hrose x)
    refine descPart hc (hp.rev _ _) hN (by lia) (λi j d u=>?_) h;rw[eO hsz a,eO hsz a];by_cases hjn:j<n
    .rw[a i (by lia) (by lia),a j (by lia) hjn];exact KeyOrd.kle_refl _
    .have r:j=n:=by lia
     subst r;by_cases hi':i=j
     .subst hi';exact KeyOrd.kle_refl _
     .rw[a i (by lia) (by lia)];exact KeyOrd.kle_of_klt c
  .rw[if_neg hgt];have e:n=1:=by lia
   subst e;refine descPart hc hp hN (by lia) (λi j d u=>?_) h;by_cases hi':i=j
   .subst hi';exact KeyOrd.kle_refl _
   .have o:i=0:=by lia
    have l:j=1:=by lia
    subst o;subst l;exact KeyOrd.kle_of_klt c
theorem place{G:Nat->Shared->Prop}(hc:Cmp key N cmp s)(hp:InN N p)(hk:k<N)(hs:dM key p k):∀(f l r:Nat),l<=r->r<=k->r - l<=f ->
  (∀ i,i<l->O.kle (KN key p i) (KN key p k))->(∀ i,r<=i->i<k->O.klt (KN key p k) (KN key p i)) ->
  (∀ l,l<=k->(∀ i,i<l->O.kle (KN key p i) (KN key p k))->(∀ i,l<=i->i<k->O.klt (KN key p k) (KN key p i))->G l s)->(kas_place p k f l r).kasWp cmp G s
 | 0,l,r,j,g,m,c,d,h=>by
  have e:l=r:=by lia
  subst e;exact h l g c d
 | f+1,l,r,j,g,m,c,d,h=>by
  unfold kas_place;by_cases hge:l ≥ r
  .rw[if_pos hge];have e:l=r:=by lia
   subst e;exact h l g c d
  .rw[if_neg hge];refine ask hc hp hk (by lia) ?_;cases hl:O.blt (KN key p k) (KN key p ((l+r) / 2)) with
   | true =>
    rw[if_pos rfl];exact place hc hp hk hs f l ((l+r) / 2) (by lia) (by lia) (by lia) c (λi a b=>KeyOrd.klt_of_klt_of_kle hl (hs _ _ a b)) h
   | false =>
    rw[if_neg (by simp)];exact place hc hp hk hs f ((l+r) / 2+1) r (by lia) (by lia) (by lia) (λi a=>KeyOrd.kle_trans (hs i ((l+r) / 2) (by lia) (by lia)) hl) d h
theorem bin{G:Array Nat->Shared->Prop}(hc:Cmp key N cmp s)(hN:n<=N):∀(f:Nat)(p:Array Nat)(k:Nat),InN N p->k+f=n->dM key p k ->
  (∀ p,InN N p->dM key p n->G p s)->(kas_bin f p k).kasWp cmp G s
 | 0,p,k,c,o,e,h=>h p c (by rw[show n=k by lia];exact e)
 | f+1,p,k,c,o,e,h=>by
  unfold kas_bin;rw[KasT.kasWp_bind];refine place hc c (by lia) e k 0 k (by lia) (ql _) (by lia) (λi a=>by lia) (λi a b=>by lia) λl r g m=>?_
  refine bin hc hN f _ (k+1) (c.of (bubble_perm _ _ _)) (by lia) (λi j q t=>?_) h;have d:k<p.size:=by rw[c.size];lia
  rw[uW d (by lia),uW d (by lia),show k - (k - l)=l by lia]
  repeat' split
  all_goals first
   | (exfalso;lia)
   | exact KeyOrd.kle_refl _
   | exact g _ (by lia)
   | exact KeyOrd.kle_of_klt (m _ (by lia) (by lia))
   | exact e _ _ (by lia) (by lia)
def sort{G:Array Nat->Shared->Prop}(hc:Cmp key N cmp s)(h1:1<=N)(h:∀ p,InN N p->dM key p N->G p s):(kas_sort N).kasWp cmp G s:=by
 unfold kas_sort;rw[KasT.kasWp_bind];refine count hc (show InN N _ by unfold InN;simp) (ql _) h1 λm q b c d a=>?_
 by_cases hlt:m<N
 .rw[if_pos hlt,show max m 1=m by lia];exact bin hc (ql _) _ q m b (by lia) a h
 .rw[if_neg hlt];obtain rfl:m=N:=by lia
  exact h q b a
variable {prog:Program}{w:World}{A:Around}{E:Value->Shared->Prop}
def Keeps(h h':Heap):Prop:=∀ b o,h.get? b=some o->h'.get? b=some o
def pH{P:PySem.Fin->Shared->Prop}(key:Nat->O.α)(κ:SortKind)(ho:s.heap.get? a=some (seqObj "list" vs.toArray n))(h64:vs.length<64)
  (hk:2<=vs.length->∀ h',(∀ b o,b≠a->s.heap.get? b=some o->h'.get? b=some o)->∀(Q:SortKind->Shared->Prop),Q κ { s with heap:=h' }->wpAny (model prog w) A (keyKind' vs.toArray) Q E { s with heap:=h' })
  (hc:∀ h',(∀ b o,b≠a->s.heap.get? b=some o->h'.get? b=some o)->Cmp key vs.length (kas_ask prog w A κ vs) { s with heap:=h' })
  (h:∀ p,InN vs.length p->dM key p vs.length->P (.done (.ret .none)) { s with heap:=sortedHeap s.heap a vs (List.toArray (p.toList.map λi=>vs.getD i Value.none)) }) :
  wpAny (model prog w) A (Builtin.«list.sort» ⟨[.ref a],[]⟩) P E s:=by
 rw[list_sort_plain];have v:=I3 ho;refine ni (listItems_at ho rfl ?_);refine ni (listUpdate_at ho rfl ?_ (by rw[sizeLine_eq];simp;lia));obtain⟨l,g⟩:∃ l,(s.heap.update a (Obj.mapSeq λ_=>#[])).get? a=some (seqObj "list" #[] l):=⟨_,get?_update_seq ho (λ_=>#[])⟩
 refine ni (seqEpoch_at g rfl ?_);refine ni (wpAny_newTuple ?_ (by rw[sizeLine_eq];simp;lia));refine ni (wpAny_newList ?_);refine Xo ?_;have keep:∀ b o,b≠a->s.heap.get? b=some o->(((s.heap.update a (Obj.mapSeq λ_=>#[])).push (seqObj "tuple" vs.toArray 0)).push (seqObj "list" #[] 0)).get? b=some o:=λb o B q=>by
  have k:=I3 q;rw[XJ _ _ _ (by rw[size_push',Xq];exact J6 (XH k)),XJ _ _ _ (by rw[Xq];exact J6 k),Heap.get?_update_ne _ _ _ _ B];exact q
 have d:(((s.heap.update a (Obj.mapSeq λ_=>#[])).push (seqObj "tuple" vs.toArray 0)).push (seqObj "list" #[] 0)).get? a=some (seqObj "list" #[] l):=by
  rw[XJ _ _ _ (by rw[size_push',Xq];exact J6 (XH v)),XJ _ _ _ (by rw[Xq];exact J6 v)];exact g
 dsimp only;have hsz:vs.toArray.size=vs.length:=by simp
 by_cases h2:vs.toArray.size<2
 .rw[if_pos h2,if_pos h2];refine ni (nF ?_);rw[StateT.run_pure];refine ni (nF ?_);refine ni (seqEpoch_at d rfl ?_);have e:((arrOf (SortSt.mk' general' (vs.toArray.zip vs.toArray) #[] 7 none)).map (·.2))=List.toArray ((List.range vs.length).toArray.toList.map λi=>vs.getD i Value.none):=by
   apply Array.toList_inj.mp;apply ext_getElem
   .simp
   .intro i u r;simp at u r ⊢;simp[u]
  rw[e];refine ni (listUpdate_at d rfl ?_ (hsz2:=by rw[sizeLine_eq];simp;lia));simp only[bne_self_eq_false,Bool.false_eq_true,if_false];refine nF (h _ (show InN vs.length (List.range vs.length).toArray from List.Perm.refl _) ?_);intro i j z D;have:i=j:=by lia
  subst this;exact KeyOrd.kle_refl _
 .rw[if_neg h2,if_neg h2];refine ni (hk (by lia) _ keep _ ?_);refine ni (wpAny_mono (kat_run (Q:=λc s'=>∃ p:Array Nat,arrOf c=p.map (kas_item (vs.toArray.zip vs.toArray))/\failedOf c=none/\s'=_/\InN vs.length p/\dM key p vs.length)
   rfl (by lia) h64 (λp c s' _ f m hg=>⟨p,f,m,hg⟩) (sort (hc _ keep) (by lia) λp a b=>⟨rfl,a,b⟩)) ?_ λ_ _ x=>x)
  rintro⟨⟨⟩,c⟩ s' ⟨p,f,m,rfl,y,t⟩;have C:p.size<=63:=by rw[y.size];lia
  refine ni (seqEpoch_at d rfl ?_);rw[kat_snds rfl f];refine ni (listUpdate_at d rfl ?_ (hsz2:=by rw[sizeLine_eq];simp;lia));rw[m];simp only[bne_self_eq_false,Bool.false_eq_true,if_false];exact nF (h p y t)
def Dy{Q:Value->Shared->Prop}(key:Nat->O.α)(κ:SortKind)(h64:a.length<64)(kg:Keeps s.heap g)
  (d:∀(Q:List Value->Shared->Prop),Q a { s with heap:=g }->wpAny (model prog w) A.in1 (collect v) Q E { s with heap:=s.heap })
  (hk:2<=a.length->∀ h',Keeps s.heap h'->∀(E:Value->Shared->Prop)(Q:SortKind->Shared->Prop),Q κ { s with heap:=h' }->wpAny (model prog w) A.in1.in1 (keyKind' a.toArray) Q E { s with heap:=h' })
  (hc:∀ h',Keeps s.heap h'->Cmp key a.length (kas_ask prog w A.in1.in1 κ a) { s with heap:=h' })
  (h:∀(g':Heap)(p:Array Nat),Keeps s.heap g'->InN a.length p->dM key p a.length->(∃ n,g'.get? g.objs.size=some (seqObj "list" (List.toArray (p.toList.map λi=>a.getD i Value.none)) n))->Q (.ref g.objs.size) { s with heap:=g' }) :
  wpAny (model prog w) A (call (.builtin "sorted") [v]) Q E s:=by
 refine Calls.call_function_entry kind_sorted plain_sorted entry_sorted (args_sorted1 _) ?_;unfold Builtin.«sorted»;refine ni (nF ?_);refine ni (d _ ?_);refine ni (wpAny_newList ?_ (by rw[sizeLine_eq];lia));have hoL:(g.push (seqObj "list" a.toArray 0)).get? g.objs.size=some (seqObj "list" a.toArray 0):=Q0 _ rfl;have keep:∀ h',(∀ b o,b≠g.objs.size->(g.push (seqObj "list" a.toArray 0)).get? b=some o->h'.get? b=some o)->Keeps s.heap h':=λh' k b o q=>by
  have l:=kg b o q;exact k b o (J6 (I3 l)) (n7 _ l)
 refine ni (Xo (Xy slot_list_sort ⟨_,hoL,rfl⟩ entry_list_sort (pH key κ hoL h64 (λz h' k Q q=>hk z h' (keep h' k) _ Q q) (λh' k=>hc h' (keep h' k)) λp t u=>⟨_,rfl,?_⟩) (args_list_sort _)));refine nF ⟨_,rfl,h _ p (keep _ λb o r q=>?_) t u ?_⟩
 .unfold sortedHeap;have c:=I3 q;rw[Heap.get?_update_ne _ _ _ _ r,XJ _ _ _ (by rw[size_push',Xq];exact J6 (XH c)),XJ _ _ _ (by rw[Xq];exact J6 c),Heap.get?_update_ne _ _ _ _ r];exact q
 .unfold sortedHeap;have m:=I3 hoL;obtain⟨e,f⟩:∃ e,((g.push (seqObj "list" a.toArray 0)).update g.objs.size (Obj.mapSeq λ_=>#[])).get? g.objs.size=some (seqObj "list" #[] e):=⟨_,get?_update_seq hoL (λ_=>#[])⟩
  have j:((((g.push (seqObj "list" a.toArray 0)).update g.objs.size (Obj.mapSeq λ_=>#[])).push (seqObj "tuple" a.toArray 0)).push (seqObj "list" #[] 0)).get? g.objs.size=some (seqObj "list" #[] e):=by
   rw[XJ _ _ _ (by rw[size_push',Xq];exact J6 (XH m)),XJ _ _ _ (by rw[Xq];exact J6 m)];exact f
  exact⟨_,get?_update_seq j _⟩
end
end SO
namespace PySem.SeqAt
open AutoSeq1 (wpAny_loadPart')
open MeetsSeq MeetsSeq2 MeetsSeq3 SeqRoads2
def Aj(A:Around)(s:Shared)(y x:Value)(b:Bool):Prop :=
 ∀(prog:Program)(w:World)(E:Value->Shared->Prop)(Q:Value->Shared->Prop),Q (.bool b) s->wpAny (model prog w) A (richCompare .Lt y x) Q E s
def pX(e f:Nat->Bool)(fin:Bool):List Nat->Bool
 | []=>fin
 | i::r=>if e i=true then pX e f fin r else f i
def zN(l b:Addr)(items items2:Array Value)(n n2:Nat)(dd dd2:Option Addr)(sl sl2:Array (Option Value))(e f:Nat->Bool) :
  Meets (Builtin.«tuple.__lt__» ⟨[.ref l,.ref b],[]⟩)
   (λA R s=>s.heap.get? l=some { cls:=.type "tuple",dict:=dd,data:=.seq items n,slots:=sl }/\s.heap.get? b=some { cls:=.type "tuple",dict:=dd2,data:=.seq items2 n2,slots:=sl2 } /\
    (∀ j (o:j<items.size) (q:j<items2.size),EqAt A.in1 s items[j] items2[j] (e j))/\(∀ j (o:j<items.size) (q:j<items2.size),e j=false->Aj A.in1 s items[j] items2[j] (f j)) /\
    R (.ok (.ret (.bool (pX e f (decide (items.size<items2.size)) (List.range (min items.size items2.size)))))) s) :=
 .of_wp λprog w A R s h=>by
  obtain⟨p,g,d,tk,os⟩:=s;obtain⟨v,z,he,B,h⟩:=h;have D:=AutoSeq1.sub_tuple_tuple;have u:(items.toList.zip items2.toList).length=min items.size items2.size:=by simp
  wp_walk using wpAny_loadPart' v,wpAny_loadPart' z,wpAny_forIn_list _ (λa b s'=>b.1=none/\s'=⟨p,g,d,tk,os⟩/\∃ i,a=(items.toList.zip items2.toList).drop i /\
   R (.ok (.ret (.bool (pX e f (decide (items.size<items2.size)) ((List.range (min items.size items2.size)).drop i))))) ⟨p,g,d,tk,os⟩) _
  case turn =>
   rintro⟨y,x⟩ a b s' ⟨c,rfl,i,hz,hR⟩;have k:i<(items.toList.zip items2.toList).length:=by
    rcases Nat.lt_or_ge i (items.toList.zip items2.toList).length with h' | h'
    .exact h'
    .rw[List.drop_of_length_le h'] at hz;cases hz
   have t:i<min items.size items2.size:=u ▸ k;have o:i<items.size:=Xk t (Nat.min_le_left _ _);have q:i<items2.size:=Xk t (Nat.min_le_right _ _);rw[List.drop_eq_getElem_cons k] at hz;injection hz with hyx hrest;have m:y=items[i]:=by have:=congrArg Prod.fst hyx;simpa using this
   have C:x=items2[i]:=by have:=congrArg Prod.snd hyx;simpa using this
   subst m C;have hd:(List.range (min items.size items2.size)).drop i=i::(List.range (min items.size items2.size)).drop (i+1):=by simp[List.drop_eq_getElem_cons,t]
   rw[hd] at hR;refine ni (he i o q prog w _ _ ?_);cases m:e i with
   | true =>
    have hR':R (.ok (.ret (.bool (pX e f (decide (items.size<items2.size)) ((List.range (min items.size items2.size)).drop (i+1)))))) ⟨p,g,d,tk,os⟩:=by
     have:pX e f (decide (items.size<items2.size)) (i::(List.range (min items.size items2.size)).drop (i+1))=pX e f (decide (items.size<items2.size)) ((List.range (min items.size items2.size)).drop (i+1)):=by
      show(if e i=true then _ else _)=_;rw[if_pos m]
     rw[this] at hR;exact hR
    wp_walk
    exact⟨rfl,rfl,i+1,hrest,hR'⟩
   | false =>
    have hR':R (.ok (.ret (.bool (f i)))) ⟨p,g,d,tk,os⟩:=by
     have:pX e f (decide (items.size<items2.size)) (i::(List.range (min items.size items2.size)).drop (i+1))=f i:=by
      show(if e i=true then _ else _)=_;rw[if_neg (by simp[m])]
     rw[this] at hR;exact hR
    simp only[Bool.not_false,if_true];refine ni (wpAny_rule (ni (B i o q m prog w _ _ ?_)))
    wp_walk
    exact⟨_,rfl,hR'⟩
  case fin =>
   rintro⟨E,F⟩ s' ⟨c,rfl,i,hz,hR⟩;simp only at c;subst c;have r:min items.size items2.size<=i:=by
    rcases Nat.lt_or_ge i (items.toList.zip items2.toList).length with h' | h'
    .rw[List.drop_eq_getElem_cons h'] at hz;cases hz
    .exact u ▸ h'
   rw[List.drop_of_length_le (by simpa using r)] at hR
   wp_walk
   exact⟨_,rfl,by simpa [Builtin.Tuple.tupleCompareSizes,pX] using hR⟩
  case h =>
   exact⟨rfl,rfl,0,rfl,by simpa using h⟩
section
variable {A:Around}{s:Shared}
def Aj.tuples{e f:Nat->Bool}(hl:s.heap.IsTuple l items)(hb:s.heap.IsTuple b items2)(hu:A.units<cLine)
  (he:∀ j (h1:j<items.size) (h2:j<items2.size),EqAt A.in1 s items[j] items2[j] (e j))(hf:∀ j (h1:j<items.size) (h2:j<items2.size),e j=false->Aj A.in1 s items[j] items2[j] (f j)) :
  Aj A s (.ref l) (.ref b) (pX e f (decide (items.size<items2.size)) (List.range (min items.size items2.size))):=λprog w E Q h=>by
 obtain⟨⟨cls,dd,data,sl⟩,o,m,n,hd⟩:=id hl;obtain⟨⟨p,k,g,i⟩,d,a,q,c⟩:=id hb;simp only at m hd a c;subst m hd a c;exact richCompare_meets_room (op:=.Lt) ⟨_,o,rfl⟩ ⟨_,d,rfl⟩ F.slot_tuple_lt F.entry_tuple_lt (F.args_tuple_lt_2 _ _) (zN l b items items2 n q dd k sl i e f)
  ⟨o,d,he,hf,show Value.bool (pX e f (decide (items.size<items2.size)) (List.range (min items.size items2.size)))≠Value.notImplemented/\Q (.bool (pX e f (decide (items.size<items2.size)) (List.range (min items.size items2.size)))) s from⟨(λx=>nomatch x),h⟩⟩ hu
end
end PySem.SeqAt
namespace L2
open PySem PySem.Spec PyProof.Rows
def d8:D->Nat
 | .non=>0 | .bl _=>1 | .int _=>2 | .str _=>3 | .tup _=>4
open Classical in
noncomputable def eqD(a b:D):Bool:=decide (a=b)
def Km{x y:Str}(e:x.cps.toList=y.cps.toList):x=y:=by
 cases x;cases y;simp only at e;congr;exact Array.toList_inj.mp e
def gR(h:eqD a b=true):a=b:=@of_decide_eq_true _ (Classical.propDecidable _) h
def mK(d:D):eqD d d=true:=@decide_eq_true _ (Classical.propDecidable _) rfl
def fj:eqD a b=true↔a=b:=⟨gR,λh=>by subst h;exact mK _⟩
def pC(h:eqD a b=false):a≠b:=λe=>by
 rw[fj.mpr e] at h;cases h
def Cp(h:a≠b):eqD a b=false:=by
 cases e:eqD a b with
 | true=>exact absurd (gR e) h
 | false=>rfl
def klt:D->D->Bool
 | .bl a=>λe=>match e with | .bl b=>!a && b | _=>false
 | .int a=>λe=>match e with | .int b=>decide (a<b) | _=>false
 | .str x=>λe=>match e with | .str y=>decide (x.cps.toList<y.cps.toList) | _=>false
 | _=>λ_=>false
def Gu(a b:D):Bool:=decide (d8 a<d8 b) || klt a b
mutual
noncomputable def dlt:D->D->Bool
 | .tup xs=>λe=>match e with | .tup ys=>vU xs ys | _=>false
 | .non=>Gu .non
 | .bl b=>Gu (.bl b)
 | .int i=>Gu (.int i)
 | .str x=>Gu (.str x)
noncomputable def vU:List D->List D->Bool
 | []=>λys=>match ys with | []=>false | _::_=>true
 | x::xs=>λys=>match ys with | []=>false | y::ys=>if eqD x y=true then vU xs ys else dlt x y
end
def wN(a b:Int):dlt (.int a) (.int b)=decide (a<b):=rfl
def Ec(x y:Str):dlt (.str x) (.str y)=decide (x.cps.toList<y.cps.toList):=rfl
def BX(xs ys:List D):dlt (.tup xs) (.tup ys)=vU xs ys:=rfl
def MP(y:D)(ys:List D):vU [] (y::ys)=true:=rfl
def Ko(x:D)(xs:List D):vU (x::xs) []=false:=rfl
def tD(x y:D)(xs ys:List D):vU (x::xs) (y::ys)=if eqD x y=true then vU xs ys else dlt x y:=rfl
def Lf{x y:Str}(h1:¬ x.cps.toList<y.cps.toList)(h2:¬ y.cps.toList<x.cps.toList):x=y :=
 Km (List.le_antisymm (not_lt.mp h2) (not_lt.mp h1))
def ff{P:Prop}(h:false=true):P:=Bool.noConfusion h
def Ny{P:D->D->Prop}(h1:P (.bl false) (.bl true))(h2:∀ i j:Int,i<j->P (.int i) (.int j))(h3:∀ x y:Str,x.cps.toList<y.cps.toList->P (.str x) (.str y)):∀ {a b:D},klt a b=true->P a b:=by
 intro a b h;cases a with
 | bl p =>
  cases b with
  | bl q=>cases p <;> cases q <;> first | exact h1 | exact ff h
  | non=>exact ff h
  | int _=>exact ff h
  | str _=>exact ff h
  | tup _=>exact ff h
 | int p =>
  cases b with
  | int q=>exact h2 p q (Xv h)
  | non=>exact ff h
  | bl _=>exact ff h
  | str _=>exact ff h
  | tup _=>exact ff h
 | str p =>
  cases b with
  | str q=>exact h3 p q (Xv h)
  | non=>exact ff h
  | bl _=>exact ff h
  | int _=>exact ff h
  | tup _=>exact ff h
 | non=>exact ff h
 | tup _=>exact ff h
def yI(h:klt a b=true):d8 a=d8 b/\d8 a<4:=Ny (P:=λa b=>d8 a=d8 b/\d8 a<4) ⟨rfl,by decide⟩ (λ_ _ _=>⟨rfl,by show 2<4;decide⟩) (λ_ _ _=>⟨rfl,by show 3<4;decide⟩) h
def Qc{a b c:D}(h:klt a b=true):klt b c=true->klt a c=true:=Ny (P:=λa b=>klt b c=true->klt a c=true) (λh=>by cases c <;> exact ff h)
 (λi j e h=>by
  cases c with
  | int k=>exact XD (Int.lt_trans e (Xv h))
  | _=>exact ff h)
 (λx y d h=>by
  cases c with
  | str z=>exact XD (List.lt_trans d (Xv h))
  | _=>exact ff h) h
def Gm(h:Gu a b=true):d8 a<d8 b\/klt a b=true:=(Bool.or_eq_true _ _ ▸ h:_\/_).imp Xv id
def yX(h:d8 a<d8 b):Gu a b=true:=by unfold Gu;rw[XD h];rfl
def Fg(h:klt a b=true):Gu a b=true:=by unfold Gu;rw[h,Bool.or_true]
def Bq:∀ {a:D} (b:D),d8 a<4->dlt a b=Gu a b
 | .non,_,_=>rfl
 | .bl _,_,_=>rfl
 | .int _,_,_=>rfl
 | .str _,_,_=>rfl
 | .tup _,_,h=>absurd h (by show ¬ 4<4;decide)
def Fw{xs:List D}{b:D}(h:dlt (.tup xs) b=true):∃ ys,b=.tup ys/\vU xs ys=true:=by
 cases b with
 | tup ys=>exact⟨ys,rfl,h⟩
 | _=>exact ff h
def Js(h:¬ d8 a<4):∃ xs,a=.tup xs:=by
 cases a with
 | tup xs=>exact⟨xs,rfl⟩
 | non=>exact absurd (show 0<4 by decide) h
 | bl _=>exact absurd (show 1<4 by decide) h
 | int _=>exact absurd (show 2<4 by decide) h
 | str _=>exact absurd (show 3<4 by decide) h
def G9(h:dlt a b=true):d8 a<=d8 b:=by
 by_cases ha:d8 a<4
 .rw[Bq b ha] at h;rcases Gm h with h | h
  .lia
  .exact Nat.le_of_eq (yI h).1
 .obtain⟨xs,rfl⟩:=Js ha;obtain⟨ys,rfl,_⟩:=Fw h;exact ql _
def tr0(ha:d8 a<4)(h1:dlt a b=true)(h2:dlt b c=true):dlt a c=true:=by
 rw[Bq _ ha] at h1 ⊢;have e:=G9 h2;rcases Gm h1 with h | h
 .exact yX (Xk h e)
 .have d:=yI h;rw[Bq _ (by rw[← d.1];exact d.2)] at h2;rcases Gm h2 with q | q
  .exact yX (by rw[d.1];exact q)
  .exact Fg (Qc h q)
def Qf:∀ {a:D} (b:D),d8 a<4->dlt a b=false->dlt b a=false->a=b:=by
 intro a b i c d;rw[Bq _ i] at c;have k1:¬ d8 a<d8 b:=λz=>by rw[yX z] at c;cases c
 have j:d8 b<4:=by lia
 rw[Bq _ j] at d;have k2:¬ d8 b<d8 a:=λz=>by rw[yX z] at d;cases d
 have f:klt a b=false:=by
  cases h:klt a b with
  | false=>rfl
  | true=>rw[Fg h] at c;cases c
 have g:klt b a=false:=by
  cases h:klt b a with
  | false=>rfl
  | true=>rw[Fg h] at d;cases d
 have e:d8 a=d8 b:=by lia
 cases a with
 | non=>cases b <;> first | rfl | exact absurd e (Nat.ne_of_beq_eq_false rfl)
 | bl p =>
  cases b with
  | bl q=>cases p <;> cases q <;> first | rfl | exact ff f.symm | exact ff g.symm
  | _=>exact absurd e (Nat.ne_of_beq_eq_false rfl)
 | int p =>
  cases b with
  | int q=>exact congrArg D.int (Int.le_antisymm (Int.not_lt.mp (of_decide_eq_false g)) (Int.not_lt.mp (of_decide_eq_false f)))
  | _=>exact absurd e (Nat.ne_of_beq_eq_false rfl)
 | str p =>
  cases b with
  | str q=>exact congrArg D.str (Lf (of_decide_eq_false f) (of_decide_eq_false g))
  | _=>exact absurd e (Nat.ne_of_beq_eq_false rfl)
 | tup _=>exact absurd i (by show ¬ 4<4;decide)
mutual
theorem wD:∀ d:D,dlt d d=false
 | .non=>rfl
 | .bl b=>by cases b <;> rfl
 | .int i=>Xp (Int.lt_irrefl i)
 | .str x=>Xp (List.lt_irrefl _)
 | .tup xs=>yL xs
theorem yL:∀ a:List D,vU a a=false
 | []=>rfl
 | d::a=>by rw[tD,if_pos (mK d)];exact yL a
end
mutual
theorem kW:∀ a b:D,dlt a b=false->dlt b a=false->a=b
 | .non,b,h1,h2=>Qf b (by show 0<4;decide) h1 h2
 | .bl x,b,h1,h2=>Qf b (by show 1<4;decide) h1 h2
 | .int x,b,h1,h2=>Qf b (by show 2<4;decide) h1 h2
 | .str x,b,h1,h2=>Qf b (by show 3<4;decide) h1 h2
 | .tup xs,b,h1,h2=>by
  by_cases hb:d8 b<4
  .exact(Qf (.tup xs) hb h2 h1).symm
  .obtain⟨ys,rfl⟩:=Js hb;exact congrArg D.tup (yg xs ys h1 h2)
theorem yg:∀ a b:List D,vU a b=false->vU b a=false->a=b
 | [],[],_,_=>rfl
 | [],_::_,c,_=>ff c.symm
 | _::_,[],_,d=>ff d.symm
 | x::xs,y::ys,c,d=>by
  rw[tD] at c d;cases he:eqD x y with
  | true =>
   have e:=gR he;subst e;rw[if_pos he] at c d;rw[yg xs ys c d]
  | false =>
   rw[if_neg (λz=>pC he (gR z))] at c;rw[if_neg (λz=>pC he (gR z).symm)] at d;exact absurd (kW x y c d) (pC he)
end
mutual
theorem zc:∀ a b c:D,dlt a b=true->dlt b c=true->dlt a c=true
 | .non,b,c,h1,h2=>tr0 (by show 0<4;decide) h1 h2
 | .bl x,b,c,h1,h2=>tr0 (by show 1<4;decide) h1 h2
 | .int x,b,c,h1,h2=>tr0 (by show 2<4;decide) h1 h2
 | .str x,b,c,h1,h2=>tr0 (by show 3<4;decide) h1 h2
 | .tup xs,b,c,h1,h2=>by
  obtain⟨ys,rfl,e⟩:=Fw h1;obtain⟨zs,rfl,d⟩:=Fw h2;exact DW xs ys zs e d
theorem DW:∀ a b c:List D,vU a b=true->vU b c=true->vU a c=true
 | [],[],_,f,_=>ff f
 | [],_::_,[],_,d=>ff d
 | [],_::_,_::_,_,_=>rfl
 | _::_,[],_,f,_=>ff f
 | _::_,_::_,[],_,d=>ff d
 | x::xs,y::ys,z::zs,f,d=>by
  rw[tD] at f d ⊢;cases hxy:eqD x y with
  | true =>
   have e:=gR hxy;subst e;rw[if_pos hxy] at f;cases hxz:eqD x z with
   | true =>
    rw[if_pos hxz] at d;rw[if_pos rfl];exact DW xs ys zs f d
   | false =>
    rw[if_neg (λz=>pC hxz (gR z))] at d;rw[if_neg TF];exact d
  | false =>
   rw[if_neg (λz=>pC hxy (gR z))] at f;cases hyz:eqD y z with
   | true =>
    have e:=gR hyz;subst e;rw[if_neg (λz=>pC hxy (gR z))];exact f
   | false =>
    rw[if_neg (λz=>pC hyz (gR z))] at d;have g:=zc x y z f d;rw[if_neg]
    .exact g
    .intro h;have e:=gR h;subst e;rw[wD] at g;cases g
end
noncomputable def Gv:KeyOrd where
 α:=D
 blt:=dlt
 irrefl:=wD
 trans:=zc
 negTrans:=λa b c h=>by
  cases h1:dlt a b with
  | true=>exact .inl rfl
  | false =>
   cases h2:dlt b a with
   | true=>exact .inr (zc b a c h2 h)
   | false =>
    have e:=kW a b h1 h2;subst e;exact .inr h
 total:=kW
def UpD(ds:List D):Prop:=ds.Pairwise λa b=>dlt b a=false
def qy(hx:UpD xs)(hy:UpD ys)(h:xs.Perm ys):xs=ys :=
 h.eq_of_pairwise (λa b _ _ d c=>kW a b c d) hx hy
mutual
def Sim:D->D->Prop
 | .int _=>λe=>match e with | .int _=>True | _=>False
 | .str _=>λe=>match e with | .str _=>True | _=>False
 | .tup xs=>λe=>match e with | .tup ys=>vL xs ys | _=>False
 | _=>λ_=>False
def vL:List D->List D->Prop
 | []=>λ_=>True
 | x::xs=>λys=>match ys with | []=>True | y::ys=>Sim x y/\vL xs ys
end
def Ae(h:vL xs ys):Sim (.tup xs) (.tup ys):=h
def Ov(h:Sim (.tup xs) (.tup ys)):vL xs ys:=h
def jm(h:Sim x y)(k:vL xs ys):vL (x::xs) (y::ys):=⟨h,k⟩
def CN(h:vL (x::xs) (y::ys)):Sim x y/\vL xs ys:=h
def zy(ys:List D):vL [] ys:=trivial
def Qj(xs:List D):vL xs []:=by cases xs <;> exact trivial
theorem vL.at_:∀ {xs ys:List D}{i:Nat}{x y:D},vL xs ys->xs[i]?=some x->ys[i]?=some y->Sim x y
 | [],_,i,x,y,_,d,_=>by simp at d
 | _::_,[],i,x,y,_,_,c=>by simp at c
 | a::xs,b::ys,0,x,y,h,d,c=>by
  simp at d c;subst d;subst c;exact(CN h).1
 | a::xs,b::ys,i+1,x,y,h,d,c=>by
  exact vL.at_ (CN h).2 (by simpa using d) (by simpa using c)
mutual
theorem Den.det:∀ {d e:D}{v:V},Den H v d->Den H v e->d=e
 | .non,e,v,h1,h2=>by
  have:=h1;subst this;cases e with
  | non=>rfl
  | tup a=>obtain⟨p,f,z,_⟩:=aO h2;cases z
  | bl b=>exact absurd (show V.non=.bl b from h2) (λz=>nomatch z)
  | int b=>exact absurd (show V.non=.int b from h2) (λz=>nomatch z)
  | str b=>exact absurd (show V.non=.str b from h2) (λz=>nomatch z)
 | .bl b,e,v,h1,h2=>by
  have:=h1;subst this;cases e with
  | bl c=>have z:V.bl b=.bl c:=h2;cases z;rfl
  | tup a=>obtain⟨p,f,z,_⟩:=aO h2;cases z
  | non=>exact absurd (show V.bl b=.non from h2) (λz=>nomatch z)
  | int c=>exact absurd (show V.bl b=.int c from h2) (λz=>nomatch z)
  | str c=>exact absurd (show V.bl b=.str c from h2) (λz=>nomatch z)
 | .int b,e,v,h1,h2=>by
  have:=h1;subst this;cases e with
  | int c=>have z:V.int b=.int c:=h2;cases z;rfl
  | tup a=>obtain⟨p,f,z,_⟩:=aO h2;cases z
  | non=>exact absurd (show V.int b=.non from h2) (λz=>nomatch z)
  | bl c=>exact absurd (show V.int b=.bl c from h2) (λz=>nomatch z)
  | str c=>exact absurd (show V.int b=.str c from h2) (λz=>nomatch z)
 | .str b,e,v,h1,h2=>by
  have:=h1;subst this;cases e with
  | str c=>have z:V.str b=.str c:=h2;cases z;rfl
  | tup a=>obtain⟨p,f,z,_⟩:=aO h2;cases z
  | non=>exact absurd (show V.str b=.non from h2) (λz=>nomatch z)
  | bl c=>exact absurd (show V.str b=.bl c from h2) (λz=>nomatch z)
  | int c=>exact absurd (show V.str b=.int c from h2) (λz=>nomatch z)
 | .tup a,e,v,h1,h2=>by
  obtain⟨p,f,rfl,h,hd⟩:=aO h1;cases e with
  | tup es =>
   obtain⟨q,i,z,g,he⟩:=aO h2;cases z;rw[h] at g;cases g;rw[bW.det hd he]
  | non=>exact absurd (show V.ref p=.non from h2) (λz=>nomatch z)
  | bl c=>exact absurd (show V.ref p=.bl c from h2) (λz=>nomatch z)
  | int c=>exact absurd (show V.ref p=.int c from h2) (λz=>nomatch z)
  | str c=>exact absurd (show V.ref p=.str c from h2) (λz=>nomatch z)
theorem bW.det:∀ {a es:List D}{b:List V},bW H b a->bW H b es->a=es
 | [],[],_,_,_=>rfl
 | [],_::_,[],_,h=>h.elim
 | [],_::_,_::_,h,_=>h.elim
 | _::_,[],[],h,_=>h.elim
 | _::_,[],_::_,_,h=>h.elim
 | _::_,_::_,[],h,_=>h.elim
 | d::a,e::es,v::b,c,f=>by rw[Den.det c.1 f.1,bW.det c.2 f.2]
end
open SeqAt (pX)
theorem yM(e f:Nat->Bool)(fin:Bool):∀ r:List Nat,pX e f fin (r.map Nat.succ)=pX (λi=>e (i+1)) (λi=>f (i+1)) fin r
 | []=>rfl
 | i::r=>by
  show(if e (i+1)=true then pX e f fin (r.map Nat.succ) else f (i+1))=_;rw[yM e f fin r]
  rfl
theorem mX:∀ xs ys:List D,pX (λj=>eqD (xs.getD j .non) (ys.getD j .non)) (λj=>dlt (xs.getD j .non) (ys.getD j .non)) (decide (xs.length<ys.length)) (List.range (min xs.length ys.length))=vU xs ys
 | [],[]=>rfl
 | [],y::ys=>by rw[MP];simp[pX]
 | x::xs,[]=>by rw[Ko];simp[pX]
 | x::xs,y::ys=>by
  have b:=mX xs ys;rw[tD,show min (x::xs).length (y::ys).length=min xs.length ys.length+1 by simp only[length_cons];lia,List.range_succ_eq_map];show(if eqD x y=true then pX _ _ _ ((List.range (min xs.length ys.length)).map Nat.succ) else dlt x y)=_;rw[yM];have a:decide ((x::xs).length<(y::ys).length)=decide (xs.length<ys.length):=by simp
  rw[a];cases he:eqD x y with
  | true =>
   rw[if_pos rfl,if_pos rfl]
   simpa using b
  | false =>
   rw[if_neg (by simp),if_neg (by simp)]
def allR_eq:∀ xs ys:List D,((List.range (min xs.length ys.length)).all (λj=>eqD (xs.getD j .non) (ys.getD j .non)) && xs.length == ys.length)=eqD (.tup xs) (.tup ys):=by
 intro xs ys;rw[Bool.eq_iff_iff,fj];constructor
 .intro h;simp only[Bool.and_eq_true,all_eq_true,mem_range,beq_iff_eq] at h;obtain⟨c,d⟩:=h;congr 1;apply ext_getElem d;intro i a b;have:=fj.mp (c i (by lia))
  simpa [qu,a,b] using this
 .intro h;injection h with h;subst h;simp[fj]
section
variable {X:Cx}{pins:List (Addr × Obj)}{σ:St}{H:Hp}{s:Shared}
def mQ(k:SO.Keeps h h')(t:h.IsTuple a its):h'.IsTuple a its:=by
 obtain⟨o,e,r⟩:=t;exact⟨o,k _ _ e,r⟩
def qU(hx:Den H x (.int i))(hy:Den H y (.int j))(rx:RelV x v)(ry:RelV y u):SeqAt.EqAt A s' v u (eqD (.int i) (.int j)):=by
 have a:=hx;have b:=hy;subst a;subst b;obtain⟨t,rfl⟩:=rx;obtain⟨t',rfl⟩:=ry;have key:=SeqAt.EqAt.int_int (A:=A) (s:=s') i t j t';have e:(i == j)=eqD (.int i) (.int j):=by
  rw[Bool.eq_iff_iff,fj,beq_iff_eq];exact⟨λz=>by rw[z],λz=>by injection z⟩
 rw[← e];exact key
def rF(hx:Den H x (.str i))(hy:Den H y (.str j))(rx:RelV x v)(ry:RelV y u):SeqAt.EqAt A s' v u (eqD (.str i) (.str j)):=by
 have a:=hx;have b:=hy;subst a;subst b;obtain⟨t,rfl⟩:=rx;obtain⟨t',rfl⟩:=ry;have key:=SeqAt.EqAt.str_str (A:=A) (s:=s') i t j t';have e:(i == j)=eqD (.str i) (.str j):=by
  rw[Bool.eq_iff_iff,fj,beq_iff_eq];exact⟨λz=>by rw[z],λz=>by injection z⟩
 rw[← e];exact key
def Dl(hx:Den H x (.int i))(hy:Den H y (.int j))(rx:RelV x v)(ry:RelV y u):SeqAt.Aj A s' v u (dlt (.int i) (.int j)):=by
 have a:=hx;have b:=hy;subst a;subst b;obtain⟨t,rfl⟩:=rx;obtain⟨t',rfl⟩:=ry;intro prog w E Q h;rw[wN] at h;exact PyProof.Rows.lt_int h
def Eh(hx:Den H x (.str i))(hy:Den H y (.str j))(rx:RelV x v)(ry:RelV y u):SeqAt.Aj A s' v u (dlt (.str i) (.str j)):=by
 have a:=hx;have b:=hy;subst a;subst b;obtain⟨t,rfl⟩:=rx;obtain⟨t',rfl⟩:=ry;intro prog w E Q h;rw[Ec] at h;exact PyProof.Rows.lt_str h
def R9(H:Hp)(s':Shared)(n:Nat):Prop :=
 ∀(d e:D)(A:Around)(x y:V)(v u:Value),dz n d->dz n e->Sim d e->Den H x d->Den H y e->RelV x v->RelV y u->A.units+n<cLine->SeqAt.EqAt A s' v u (eqD d e)/\SeqAt.Aj A s' v u (dlt d e)
def Jb(I:Inv X pins σ H s)(kp:SO.Keeps s.heap s'.heap)(ih:R9 H s' n)(hs:dz (n+1) (.tup ds))(hs2:dz (n+1) (.tup es))
  (hm:Sim (.tup ds) (.tup es))(hx:Den H x (.tup ds))(hy:Den H y (.tup es))(rx:RelV x v)(ry:RelV y u)(hu:A.units+(n+1)<cLine):SeqAt.EqAt A s' v u (eqD (.tup ds) (.tup es))/\SeqAt.Aj A s' v u (dlt (.tup ds) (.tup es)):=by
 obtain⟨a,J,rfl,V,h⟩:=aO hx;obtain⟨b,Q,rfl,P,l⟩:=aO hy;cases rx;cases ry;obtain⟨d,B,C,_⟩:=I.tuple (SqT.of V);obtain⟨c,D,F,_⟩:=I.tuple (SqT.of P);have Y:=h.len;have W:=l.len;have L:=B.length;have T:=D.length;have both:∀ j (f:j<d.toArray.size) (g:j<c.toArray.size),SeqAt.EqAt A.in1 s' d.toArray[j] c.toArray[j] (eqD (ds.getD j .non) (es.getD j .non))/\SeqAt.Aj A.in1 s' d.toArray[j] c.toArray[j] (dlt (ds.getD j .non) (es.getD j .non)):=by
  intro j f g;have i:j<J.length:=by simpa [L] using f
  have k:j<Q.length:=by simpa [T] using g
  obtain⟨E,p,G⟩:=h.at_ (n6 i);obtain⟨z,r,O⟩:=l.at_ (n6 k);obtain⟨R,o,w⟩:=B.get (n6 i);obtain⟨N,t,m⟩:=D.get (n6 k);have M:d.toArray[j]=R:=by
   have:=(pN.mp o).2
   simpa using this
  have S:c.toArray[j]=N:=by
   have:=(pN.mp t).2
   simpa using this
  rw[M,S];rw[qu,qu,p,r];have K:=(hs.2 ds rfl).2 E (Xu p);have U:=(hs2.2 es rfl).2 z (Xu r);exact ih E z A.in1 _ _ _ _ K U (hm.at_ p r) G O w m (by first | (simp only[Around.in1];lia) | lia)
 constructor
 .by_cases hab:a=b
  .subst hab;have e:=Den.det hx hy;rw[fj.mpr e];exact SeqAt.EqAt.same _
  .have key:=SeqAt.EqAt.of_refs hab (SeqAt.RcAt.tuples (mQ kp C) (mQ kp F) (by lia) λj f g=>(both j f g).1);have q:=allR_eq ds es;rw[show ds.length=d.toArray.size by simp;lia,show es.length=c.toArray.size by simp;lia] at q;rw[q] at key;exact key
 .have key:=SeqAt.Aj.tuples (mQ kp C) (mQ kp F) (by lia)
   (λj f g=>(both j f g).1) (λj f g _=>(both j f g).2)
  have q:=mX ds es;rw[show ds.length=d.toArray.size by simp;lia,show es.length=c.toArray.size by simp;lia] at q;rw[q] at key;rw[BX];exact key
def eZ{P:D->D->Prop}(hi:∀ i j,P (.int i) (.int j))(hs:∀ i j,P (.str i) (.str j))(ht:∀ xs ys,vL xs ys->P (.tup xs) (.tup ys)):∀ {d e:D},Sim d e->P d e:=by
 intro d e h;cases d <;> cases e <;> first | exact hi _ _ | exact hs _ _ | exact ht _ _ (Ov h) | exact False.elim h
def QJ(I:Inv X pins σ H s)(kp:SO.Keeps s.heap s'.heap):∀ n:Nat,R9 H s' n:=by
 intro n
 induction n with
 | zero =>
  intro d e A x y v u h g k
  revert h g
  refine eZ (P:=λd e=>dz 0 d->dz 0 e->Den H x d->Den H y e->RelV x v->RelV y u->A.units+0<cLine->SeqAt.EqAt A s' v u (eqD d e)/\SeqAt.Aj A s' v u (dlt d e)) ?_ ?_ ?_ k
  .exact λi j _ _ f a c b _=>⟨qU f a c b,Dl f a c b⟩
  .exact λi j _ _ f a c b _=>⟨rF f a c b,Eh f a c b⟩
  .exact λxs ys _ h _ _ _ _ _ _=>absurd rfl (h.2 xs)
 | succ n m =>
  intro d e A x y v u h g k
  revert h g
  refine eZ (P:=λd e=>dz (n+1) d->dz (n+1) e->Den H x d->Den H y e->RelV x v->RelV y u->A.units+(n+1)<cLine->SeqAt.EqAt A s' v u (eqD d e)/\SeqAt.Aj A s' v u (dlt d e)) ?_ ?_ ?_ k
  .exact λi j _ _ f a c b _=>⟨qU f a c b,Dl f a c b⟩
  .exact λi j _ _ f a c b _=>⟨rF f a c b,Eh f a c b⟩
  .exact λxs ys k h g f a c b l=>Jb I kp m h g (Ae k) f a c b l
end
end L2
namespace SO
open PySem PySem.W PyProof.Rows
section
variable {prog:Program}{w:World}{A:Around}{E:Value->Shared->Prop}{s:Shared}
def wY{Q:List Value->Shared->Prop}(ho:s.heap.get? l=some o)(hc:o.cls=.type c)(hcc:c = "list"\/c = "tuple")(hd:o.data=.seq vs.toArray n)
  (h:Q vs { s with heap:=(s.heap.push (seqObj "list" #[] 0)).update s.heap.objs.size (Obj.mapSeq (· ++ vs.toArray)) })(hsz:vs.length<=sizeLine) :
  wpAny (model prog w) A (collect (.ref l)) Q E s:=by
 unfold collect;refine ni (wpAny_runValue (codeAny_builtin entry_proto_collect' ?_));refine ni (wpAny_newList (nF ⟨Code.quiet_builtin _ (by decide +kernel),codeAny_builtin entry_list_iadd' ?_⟩));show wpAny _ _ (Builtin.List.listExtendWith (.ref s.heap.objs.size) (.ref l) (.ref s.heap.objs.size)) _ _ { s with heap:=s.heap.push (seqObj "list" #[] 0) };unfold Builtin.List.listExtendWith;have a:(s.heap.push (seqObj "list" #[] 0)).get? l=some o:=n7 _ ho;refine ni (wpAny_typeOf ⟨o,a,hc⟩ ?_);rw[if_pos (by rcases hcc with rfl | rfl <;> simp)];refine ni (listItems_at a hd ?_);refine ni (listItems_at (Q0 _ rfl) rfl ?_);rw[if_neg (by simp)];refine ni (listUpdate_at (Q0 _ rfl) rfl ?_ (Nat.zero_le _) (by show(#[]++vs.toArray).size<=sizeLine+1;simp only[Array.size_append,XM,length_nil];lia));refine nF ?_;show wpAny (model prog w) A (do
   let o ← load s.heap.objs.size
   match o.data with
   | .seq xs _=>pure xs.toList
   | _=>unsupported "internal:collect") Q E { s with heap:=(s.heap.push (seqObj "list" #[] 0)).update s.heap.objs.size (Obj.mapSeq (· ++ vs.toArray)) }
 refine ni (wpAny_load (get?_update_seq (Q0 _ rfl) _) ?_);show wpAny _ _ (pure ((#[]:Array Value)++vs.toArray).toList) Q E _;rw[show((#[]:Array Value)++vs.toArray).toList=vs by simp];exact nF h
theorem Ek{Q:Bool->Shared->Prop}{e f:Nat->Bool}:∀(l:List (Value × Value))(i:Nat),(∀ j p q,l[j]?=some (p,q)->SeqAt.EqAt A s p q (e (i+j))) ->
  (∀ j p q,l[j]?=some (p,q)->e (i+j)=false->∀(Q:Bool->Shared->Prop)(E:Value->Shared->Prop),Q (f (i+j)) s->wpAny (model prog w) A (oneLt' (b && (i+j) == 0) p q) Q E s) ->
  Q (SeqAt.pX e f fin (List.range' i l.length)) s->KatLex prog w A b fin Q l i s
 | [],i,_,_,h=>kat_nil h
 | (p,q)::l,i,he,hf,h=>by
  refine kat_cons ((he 0 p q rfl) prog w _ _ ?_);rw[Nat.add_zero];have h':Q (if e i=true then SeqAt.pX e f fin (List.range' (i+1) l.length) else f i) s:=h;cases hy:e i with
  | true =>
   rw[hy,if_pos rfl] at h';exact kat_yes (Ek l (i+1) (λj p q z=>by rw[show i+1+j=i+(j+1) by lia];exact he (j+1) p q (by simpa using z)) (λj p q z=>by rw[show i+1+j=i+(j+1) by lia];exact hf (j+1) p q (by simpa using z)) h')
  | false =>
   rw[hy,if_neg (by simp)] at h';exact kat_no (by have:=hf 0 p q rfl (by simpa using hy) Q (λ_ _=>False) (by simpa using h');simpa using this)
end
end SO
namespace L2
open PySem PySem.Spec PyProof.Rows
open SeqAt (pX)
def Hom(ds:List D):Prop:=(∀ a∈ds,∀ b∈ds,Sim a b)/\((∀ d∈ds,∃ i,d=.int i)\/(∀ d∈ds,∃ x,d=.str x)\/(∀ d∈ds,∃ e r,d=.tup (e::r)))
def Eb(K:W.Frag):List V->Hp->VK->Prop:=λxs H Q=>∃(p:Addr)(vs:List V)(ds:List D),xs=[.ref p]/\(SqL K H p vs\/SqT K H p vs)/\bW H vs ds/\Hom ds/\ds.length<64/\(∀ d∈ds,dz 50 d) /\
 ∀(l:Addr)(us:List V)(ds':List D),H l=none->ds'.Perm ds->UpD ds'->bW H us ds'->Q (.ref l) (upd H l (.lst us))
theorem jG(h:bW H vs ds):∀ l:List Nat,(∀ i∈l,i<ds.length)->bW H (l.map λi=>vs.getD i .non) (l.map λi=>ds.getD i .non)
 | [],_=>trivial
 | i::l,a=>by
  refine⟨?_,jG h l λj c=>a j (.tail _ c)⟩;have b:i<vs.length:=by rw[h.len];exact a i (.head _)
  obtain⟨d,hd,r⟩:=h.at_ (n6 b);dsimp only;rw[qu,qu,hd,n6 b];exact r
theorem kh(h:Vals vs its):∀ l:List Nat,(∀ i∈l,i<vs.length)->Vals (l.map λi=>vs.getD i .non) (l.map λi=>its.getD i Value.none)
 | [],_=>.nil
 | i::l,a=>by
  refine .cons ?_ (kh h l λj c=>a j (.tail _ c));have b:=a i (.head _);obtain⟨d,hd,r⟩:=h.get (n6 b);dsimp only;rw[qu,qu,hd,n6 b];exact r
section
variable {X:Cx}{pins:List (Addr × Obj)}{σ:St}{H:Hp}{s:Shared}
def at3(hd:bW H vs ds)(r:Vals vs its)(hi:i<ds.length):∃(x:V)(v:Value),vs[i]?=some x/\its[i]?=some v/\its.getD i Value.none=v/\Den H x (ds.getD i .non)/\RelV x v/\ds.getD i .non∈ds:=by
 have a:i<vs.length:=by rw[hd.len];exact hi
 obtain⟨d,g,b⟩:=hd.at_ (n6 a);obtain⟨u,c,f⟩:=r.get (n6 a);have e:ds.getD i .non=d:=by rw[qu,g];rfl
 rw[e];exact⟨_,u,n6 a,c,by rw[qu,c];rfl,b,f,Xu g⟩
def uQ(h:SeqAt.Aj A s' v u b)(Q:Bool->Shared->Prop)(E:Value->Shared->Prop)(q:Q b s'):wpAny (model prog w) A (oneLt' false v u) Q E s' :=
 W.kat_one v u (h prog w E _ q)
def mW(hm:Sim d e)(hd:Den H x d)(he:Den H y e)(rx:RelV x v)(ry:RelV y u)(b:∀ a,d≠.tup a)(Q:Bool->Shared->Prop)(E:Value->Shared->Prop)(q:Q (dlt d e) s') :
  wpAny (model prog w) A (oneLt' true v u) Q E s':=by
 revert hd he b q
 refine eZ (P:=λd e=>Den H x d->Den H y e->(∀ a,d≠.tup a)->Q (dlt d e) s'->wpAny (model prog w) A (oneLt' true v u) Q E s') ?_ ?_ ?_ hm
 .intro i j h f _ q;have c:=h;have g:=f;subst c;subst g;obtain⟨t,rfl⟩:=rx;obtain⟨t',rfl⟩:=ry;rw[wN] at q;exact oneLt_int q
 .intro i j h f _ q;have c:=h;have g:=f;subst c;subst g;obtain⟨t,rfl⟩:=rx;obtain⟨t',rfl⟩:=ry;rw[Ec] at q;exact oneLt_str q
 .intro xs ys _ _ _ b _;exact absurd rfl (b xs)
def Ig(I:Inv X pins σ H s)(kp:SO.Keeps s.heap h')(hd:Den H x d)(rx:RelV x v):(∀ i,d=.int i->W.Looks M h' (typeOf v) (.type "int"))/\(∀ i,d=.str i->W.Looks M h' (typeOf v) (.type "str")) /\
  (∀ c,d=.tup c->W.Looks M h' (typeOf v) (.type "tuple")):=by
 refine⟨λi e=>?_,λi e=>?_,λc e=>?_⟩
 .subst e;have b:=hd;subst b;obtain⟨t,rfl⟩:=rx;exact W.Looks.of_pure rfl
 .subst e;have b:=hd;subst b;obtain⟨t,rfl⟩:=rx;exact W.Looks.of_pure rfl
 .subst e;obtain⟨a,m,rfl,j,f⟩:=aO hd;cases rx;obtain⟨g,l,⟨o,h,k,_⟩,_⟩:=I.tuple (SqT.of j);rw[← k];exact(W.Looks.ld (kp _ _ h)).andThen .now
def tyD:D->Value
 | .int _=>.type "int"
 | .str _=>.type "str"
 | _=>.type "tuple"
def Ga(h:Sim d e):tyD d=tyD e:=eZ (P:=λd e=>tyD d=tyD e) (λ_ _=>rfl) (λ_ _=>rfl) (λ_ _ _=>rfl) h
def zx(d:D):(tyD d == tyD d)=true:=by cases d <;> rfl
def Ef(hm:Sim d e)(h:(tyD d != .type "tuple")=true):∀ a,d≠.tup a:=by
 intro a z;subst z;exact absurd (show(Value.type "tuple" != Value.type "tuple")=true from h) (by decide)
def mY(I:Inv X pins σ H s)(kp:SO.Keeps s.heap h')(hm:Sim d e)(hd:Den H x d)(rx:RelV x v):W.Looks M h' (typeOf v) (tyD d):=by
 obtain⟨a,b,c⟩:=Ig I kp hd rx
 revert a b c
 exact eZ (P:=λd e=>(∀ i,d=.int i->W.Looks M h' (typeOf v) (.type "int"))->(∀ i,d=.str i->W.Looks M h' (typeOf v) (.type "str"))->(∀ f,d=.tup f->W.Looks M h' (typeOf v) (.type "tuple"))->W.Looks M h' (typeOf v) (tyD d))
  (λi _ a _ _=>a i rfl) (λi _ _ b _=>b i rfl) (λxs _ _ _ _ c=>c xs rfl) hm
theorem kat_tups(I:Inv X pins σ H s)(kp:SO.Keeps s.heap h'):∀ {i:List V}{g:List D}{its:List Value},bW H i g->Vals i its->(∀ d∈g,∃ e r,d=.tup (e::r)) ->
  ∃ fs,W.KatTups h' its fs/\fs.length=its.length/\∀ v∈fs,∃(x:V)(d:D)(r:List D),Den H x d/\RelV x v/\D.tup (d::r)∈g
 | [],[],_,_,.nil,_=>⟨[],trivial,rfl,λv f=>by cases f⟩
 | x::i,d::g,_,hd,.cons r t,ht=>by
  obtain⟨fs,k,l,m⟩:=kat_tups I kp hd.2 t λd hd=>ht d (.tail _ hd)
  obtain⟨e,y,rfl⟩:=ht d (.head _);obtain⟨a,j,rfl,B,b⟩:=aO hd.1;cases r;obtain⟨c,z,⟨o,w,p,n,h⟩,_⟩:=I.tuple (SqT.of B)
  match j,c,b,z,h with
  | w0::j,_::c,b,.cons u q,h =>
   refine⟨_::fs,W.KatTups.cons (kp _ _ w) p h (by simp;rfl) k,by simp[l],λv f=>?_⟩;rcases mem_cons.mp f with rfl | f
   .exact⟨w0,e,y,b.1,u,.head _⟩
   .obtain⟨x,d,r,E,C,A⟩:=m v f;exact⟨x,d,r,E,C,.tail _ A⟩
  | [],_,b,_,_=>exact b.elim
def qJ{E:Value->Shared->Prop}(I:Inv X pins σ H s)(κ:SortKind)(ho:s.heap.get? a=some o)(hc:o.cls=.type c)(hcc:c = "list"\/c = "tuple")(hd:o.data=.seq its.toArray n)
  (hD:bW H vs ds)(r:Vals vs its)(h64:ds.length<64)
  (t:2<=its.length->∀ h',SO.Keeps s.heap h'->∀(E:Value->Shared->Prop)(Q:SortKind->Shared->Prop),Q κ { s with heap:=h' }->wpAny (model X.prog X.w) X.A.in1.in1 (keyKind' its.toArray) Q E { s with heap:=h' })
  (hcm:∀ h',SO.Keeps s.heap h'->SO.Cmp (O:=Gv) (λi=>ds.getD i .non) its.length (W.kas_ask X.prog X.w X.A.in1.in1 κ its) { s with heap:=h' })
  (q:∀(l:Addr)(us:List V)(ds':List D),H l=none->ds'.Perm ds->UpD ds'->bW H us ds'->Q (.ref l) (upd H l (.lst us))):wpAny (model X.prog X.w) X.A (call (.builtin "sorted") [.ref a]) (EP X pins σ Q) E s:=by
 have M:=hD.len;have K:=r.length;have C:SO.Keeps s.heap ((s.heap.push (seqObj "list" #[] 0)).update s.heap.objs.size (Obj.mapSeq (· ++ its.toArray))):=λb u e=>by
  rw[Heap.get?_update_ne _ _ _ _ (J6 (I3 e))];exact n7 _ e
 refine SO.Dy (O:=Gv) (λi=>ds.getD i .non) κ (by lia) C (λQ q=>SO.wY ho hc hcc hd q (by rw[sizeLine_eq];lia)) t hcm λg' p kp y F d=>?_
 obtain⟨m,d⟩:=d;have g:∀ i∈p.toList,i<its.length:=λi f=>mem_range.mp (y.mem_iff.mp f)
 have hsz:s.heap.objs.size<=((s.heap.push (seqObj "list" #[] 0)).update s.heap.objs.size (Obj.mapSeq (· ++ its.toArray))).objs.size:=by
  rw[Xq,size_push'];exact Nat.le_succ _
 have v:p.toList.length=its.length:=by simpa using y.length_eq
 have G:=kh r p.toList λi f=>by rw[K];exact g i f
 refine⟨.ref _,_,I.laid (o:=.lst (p.toList.map λi=>vs.getD i .non)) kp hsz ⟨?_,_,m,G,d⟩,rfl,q _ _ (p.toList.map λi=>ds.getD i .non) (I.hok.fresh hsz) ?_ ?_ (jG hD _ λi f=>by have:=g i f;lia)⟩
 .rw[XF,sizeLine_eq];lia
 .have e:(List.range its.length).map (λi=>ds.getD i .non)=ds:=by
   apply ext_getElem
   .simp;lia
   .intro i L J;simp[qu,J]
  have:=y.map λi=>ds.getD i D.non
  rw[e] at this;exact this
 .unfold UpD;rw[pairwise_iff_getElem];intro i j f B z;have h:=F i j (Nat.le_of_lt z) (by simpa [v] using B);have e:∀ k (t:k<p.toList.length),SO.KN (O:=Gv) (λi=>ds.getD i .non) p k=(p.toList.map λi=>ds.getD i D.non)[k]'(by rw[XF];exact t):=by
   intro k t;have x:k<p.size:=by simpa using t
   unfold SO.KN;rw[getElem_map];congr 1;simp[Array.getD,x]
  rw[e i (by simpa using f),e j (by simpa using B)] at h;exact h
def cj(hu:X.A.units+64<cLine):d7 X (.builtin "sorted") (Eb X.K):=by
 intro pins s σ H xs us Q I r h;obtain⟨a,vs,M,rfl,hp,P,G,ar,af,q⟩:=h;obtain⟨u,rfl,rx⟩:=vals1 r;cases rx;obtain⟨b,B,c,o,n,an,ho,hc,hd⟩:∃ b:List Value,Vals vs b/\∃(c:String)(o:Obj)(n:Nat),(c = "list"\/c = "tuple")/\s.heap.get? a=some o/\o.cls=.type c/\o.data=.seq b.toArray n:=by
  rcases hp with hp | hp
  .obtain⟨b,B,pl,_⟩:=I.list hp;obtain⟨o,ho,hc,n,hd⟩:=pl.isList;exact⟨b,B,"list",o,n,.inl rfl,ho,hc,hd⟩
  .obtain⟨b,B,⟨o,ho,hc,n,hd⟩,_⟩:=I.tuple hp;exact⟨b,B,"tuple",o,n,.inr rfl,ho,hc,hd⟩
 have l1:=P.len;have l2:=B.length;have one:(∀ d∈M,∀ xs,d≠.tup xs)->∀ T,(T != Value.type "tuple")=true->(T == T)=true->(∀ d∈M,tyD d=T)->wpAny (model X.prog X.w) X.A (call (.builtin "sorted") [.ref a]) (EP X pins σ Q) X.xe s:=by
  intro nt T hT1 hT2 hT;refine qJ I oneType' ho hc an hd P B ar (λh2 h' kp E Q q=>?_) (λh' kp i j C F hj q=>?_) q
  .refine W.kas_kind h2 (λv hv=>?_) hT1 hT2 q;obtain⟨i,F,rfl⟩:=mem_iff_getElem.mp hv;obtain⟨x,v,e1,e2,e3,e4,e5,J⟩:=at3 (i:=i) P B (by lia);rw[n6 F] at e2;cases e2;rw[← hT _ J];exact mY I kp (G.1 _ J _ J) e4 e5
  .obtain⟨x,v,e1,e2,e3,e4,e5,J⟩:=at3 (i:=i) P B (by lia);obtain⟨y,u,f1,f2,f3,f4,f5,f6⟩:=at3 (i:=j) P B (by lia);unfold W.kas_ask;rw[e3,f3,keyLt'_oneType];exact mW (G.1 _ J _ f6) e4 f4 e5 f5 (nt _ J) _ _ q
 rcases G.2 with F | F | F
 .exact one (λd hd xs e=>by obtain⟨i,z⟩:=F d hd;rw[z] at e;cases e) (.type "int") (by decide) (by rfl) (λd hd=>by obtain⟨i,z⟩:=F d hd;rw[z];rfl)
 .exact one (λd hd xs e=>by obtain⟨i,z⟩:=F d hd;rw[z] at e;cases e) (.type "str") (by decide) (by rfl) (λd hd=>by obtain⟨i,z⟩:=F d hd;rw[z];rfl)
 .obtain⟨T,hT2,hT⟩:∃ T:Value,(T == T)=true/\∀ d r,D.tup (d::r)∈M->tyD d=T/\Sim d d:=by
   cases hds:M with
   | nil=>exact⟨.type "int",by rfl,λd r z=>by cases z⟩
   | cons d0 bu =>
    obtain⟨e0,r0,rfl⟩:=F d0 (by rw[hds];exact .head _);refine⟨tyD e0,zx e0,λd r z=>?_⟩;have s1:=G.1 _ (show D.tup (d::r)∈M by rw[hds];exact z) (.tup (e0::r0)) (by rw[hds];exact .head _);have s2:=G.1 _ (show D.tup (d::r)∈M by rw[hds];exact z) (.tup (d::r)) (by rw[hds];exact z);exact⟨Ga s1.1,s2.1⟩
  refine qJ I (tuples' (T != Value.type "tuple")) ho hc an hd P B ar (λh2 h' kp E Q q=>?_) (λh' kp i j C b6 hj q=>?_) q
  .obtain⟨fs,k,l,m⟩:=kat_tups I kp P B F;refine W.kat_kind k (by lia) (λv hv=>?_) hT2 q;obtain⟨x,d,r,z1,z2,z3⟩:=m v hv;obtain⟨t1,t2⟩:=hT d r z3;rw[← t1];exact mY I kp t2 z1 z2
  .obtain⟨x,v,e1,e2,e3,e4,e5,J⟩:=at3 (i:=i) P B (by lia);obtain⟨y,u,f1,f2,f3,f4,f5,f6⟩:=at3 (i:=j) P B (by lia);unfold W.kas_ask;rw[e3,f3];have U:C (dlt (M.getD i .non) (M.getD j .non)) { s with heap:=h' }:=q;obtain⟨L,N,E1⟩:=F _ J;obtain⟨O,R,E2⟩:=F _ f6;have ap:=af _ J;have ai:=af _ f6;have sm:=G.1 _ J _ f6;rw[E1] at e4 J U ap sm;rw[E2] at f4 f6 U ai sm;obtain⟨a1,w1,rfl,bb,Z⟩:=aO e4;obtain⟨a2,w2,rfl,bg,S⟩:=aO f4;cases e5;cases f5;obtain⟨t,v1,⟨o1,a8,b7,n1,be⟩,_⟩:=I.tuple (SqT.of bb);obtain⟨g,v2,⟨o2,a9,b9,n2,bd⟩,_⟩:=I.tuple (SqT.of bg);have k1:=Z.len;have k2:=S.len;have k3:=v1.length;have k4:=v2.length;have cm:=QJ I (s':={ s with heap:=h' }) kp 49;have Y:∀(k:Nat)(p q:Value),(t.zip g)[k]?=some (p,q)->∃(x y:V),Den H x ((L::N).getD k .non)/\Den H y ((O::R).getD k .non)/\RelV x p/\RelV y q/\Sim ((L::N).getD k .non) ((O::R).getD k .non)/\dz 49 ((L::N).getD k .non)/\dz 49 ((O::R).getD k .non):=by
    intro k p q hz;rw[List.getElem?_zip_eq_some] at hz;have b1:=(pN.mp hz.1).1;have b2:=(pN.mp hz.2).1;obtain⟨x1,p1,_,g1,_,g2,g3,g4⟩:=at3 (i:=k) Z v1 (by lia);obtain⟨x2,p2,_,ag,_,a5,a3,bi⟩:=at3 (i:=k) S v2 (by lia);rw[hz.1] at g1;rw[hz.2] at ag;cases g1;cases ag;refine⟨x1,x2,g2,a5,g3,a3,sm.at_ (i:=k) ?_ ?_,(ap.2 _ rfl).2 _ g4,(ai.2 _ rfl).2 _ bi⟩
    .rw[qu,n6 (by lia)];rfl
    .rw[qu,n6 (by lia)];rfl
   refine W.kat_lt (kp _ _ a8) be (kp _ _ a9) bd (SO.Ek (e:=λk=>eqD ((L::N).getD k .non) ((O::R).getD k .non)) (f:=λk=>dlt ((L::N).getD k .non) ((O::R).getD k .non)) _ 0 (λk p q z=>?_) (λk p q z _ Q E U=>?_) ?_)
   .obtain⟨x,y,h1,h2,h3,h4,h5,h6,h7⟩:=Y k p q z;rw[Nat.zero_add];exact(cm _ _ _ _ _ _ _ h6 h7 h5 h1 h2 h3 h4 (by simp only[Around.in1];lia)).1
   .obtain⟨x,y,h1,h2,h3,h4,h5,h6,h7⟩:=Y k p q z;rw[Nat.zero_add] at U ⊢;have lt:=(cm _ _ X.A.in1.in1 _ _ _ _ h6 h7 h5 h1 h2 h3 h4 (by simp only[Around.in1];lia)).2;cases hb:(T != Value.type "tuple") && k == 0 with
    | false=>exact uQ lt Q E U
    | true =>
     rw[Bool.and_eq_true,beq_iff_eq] at hb;obtain⟨hb,rfl⟩:=hb;have t1:=hT L N J;exact mW h5 h1 h2 h3 h4 (show ∀ M,L≠.tup M from Ef t1.2 (by rw[t1.1];exact hb)) Q E U
   .have hl:=mX (L::N) (O::R);have e:List.range' 0 (t.toArray.toList.zip g.toArray.toList).length=List.range (min (L::N).length (O::R).length):=by
     rw[List.range_eq_range'];congr 1;simp only[length_zip];lia
    have ef:decide (t.toArray.size<g.toArray.size)=decide ((L::N).length<(O::R).length):=by
     rw[show t.toArray.size=(L::N).length by simp at k1 k3 ⊢;lia,show g.toArray.size=(O::R).length by simp at k2 k4 ⊢;lia]
    rw[e,ef,hl];rw[BX] at U;exact U
end
theorem qe(t:List Nat):∀(k:Nat)(a:List Nat),List.foldl (λb c=>b++c) a.toArray (List.replicate k t.toArray)=(a++(List.replicate k t).flatten).toArray
 | 0,a=>by simp
 | k+1,a=>by
  have e:a.toArray++t.toArray=(a++t).toArray:=by simp
  have d:(a++t)++(List.replicate k t).flatten=a++(List.replicate (k+1) t).flatten:=by
   grind
  rw[← d,← qe t k (a++t),← e,replicate_succ,foldl_cons]
def Ka(n:Nat):(List.replicate n ([]:List Nat)).flatten=[]:=by
 induction n with
 | zero=>rfl
 | succ n a=>grind
def KD(t:List Nat)(n:Nat):Txt.mul ⟨t.toArray⟩ (n:Int)=⟨(List.replicate n t).flatten.toArray⟩:=by
 unfold Txt.mul;by_cases h1:(n:Int)<1
 .rw[if_pos h1];have:n=0:=by lia
  subst this
  rfl
 .rw[if_neg h1];by_cases h2:(((n:Int) == 1 || (⟨t.toArray⟩:Str).length == 0)=true)
  .rw[if_pos h2];rw[Bool.or_eq_true,beq_iff_eq,beq_iff_eq] at h2;rcases h2 with z | z
   .have:n=1:=by lia
    subst this;simp
   .have a:t=[]:=by
     have:t.toArray.size=0:=z
     simpa using this
    subst a;rw[Ka]
  .rw[if_neg h2];have:=qe t n []
   grind
def R0:R2:=λx y H Q=>∃(t:List Nat)(n:Nat),x=.str ⟨t.toArray⟩/\y=.int (n:Nat)/\n<=100000/\t.length*n<=100000/\Q (.str ⟨(List.replicate n t).flatten.toArray⟩) H
def oW:OpR X (binaryOp .Mult) R0:=by
 intro b s σ H x y v u Q I f e h;obtain⟨t,n,rfl,rfl,l,i,q⟩:=h;obtain⟨t',rfl⟩:=f;obtain⟨c,rfl⟩:=e;have a:(⟨t.toArray⟩:Str).length=t.length:=by show t.toArray.size=_;simp
 refine SB.mul ⟨?_,λd _=>?_,λd _=>?_⟩ λm k=>?_
 .grind
 .rw[a];intro z;have j:0<n:=by lia
  have g:((2:Int)^63 - 1) / (n:Int)<(t.length:Int):=z;rw[Int.ediv_lt_iff_lt_mul (by lia)] at g
  grind
 .rw[a,Int.toNat_natCast];unfold Builtin.Str.tooLong;exact Xp (by have:=iM;lia)
 .rw[KD];exact⟨.str _,H,I.tok _,⟨_,rfl⟩,q⟩
end L2
namespace L2
open PySem
def ltr(t i:Nat):Nat:=97+(t+i)%26
def nm0(t k:Nat):List Nat:=ltr t (k%26)::List.replicate (k%7) (ltr t (k / 26))
def nm1(t k:Nat):List Nat:=List.replicate (1+k%8) (ltr t (k / 8))
def nm2(t a k:Nat):List Nat:=List.replicate a (ltr t 25)++ltr t (k%20)::ltr t (k / 20)::List.replicate (6 - a) (ltr t 25)
def sU(hi:i<26)(hj:j<26)(h:ltr t i=ltr t j):i=j:=by
 unfold ltr at h;lia
def Lw(hi:i<70)(hj:j<70)(h:nm0 t i=nm0 t j):i=j:=by
 have a:=congrArg List.length h;unfold nm0 at h a;rw[length_cons,length_cons,length_replicate,length_replicate] at a;have:=sU (Nat.mod_lt _ (by decide)) (Nat.mod_lt _ (by decide)) (List.cons.inj h).1;omega
def Mz(hi:i<70)(hj:j<70)(h:nm1 t i=nm1 t j):i=j:=by
 have b:=congrArg List.length h;have a:=congrArg (λx=>x[0]?) h;unfold nm1 at a b;rw[length_replicate,length_replicate] at b;simp only[List.getElem?_replicate] at a;rw[if_pos (by lia),if_pos (by lia)] at a;have:=sU (by lia) (by lia) (Xn a);lia
def Ke(hi:i<70)(hj:j<70)(h:nm2 t a i=nm2 t a j):i=j:=by
 unfold nm2 at h;have h':=List.append_cancel_left h;have c:=(List.cons.inj h').1;have b:=(List.cons.inj (List.cons.inj h').2).1;have:=sU (by lia) (by lia) c;have:=sU (by lia) (by lia) b;lia
def oZ{f:Nat->List Nat}(h:∀ i j,i<n->j<n->f i=f j->i=j):((List.range n).map f).Nodup:=by
 rw[nodup_iff_pairwise_ne,pairwise_map];refine(List.pairwise_lt_range).imp_of_mem fun {a b} g d c e=>?_
 grind
def vV{x:List Nat}(h1:1<=x.length)(h2:x.length<=8)(h:∀ c∈x,97<=c/\c<=122):isNm ⟨x.toArray⟩=true:=by
 unfold isNm;have a:(⟨x.toArray⟩:Str).length=x.length:=by show x.toArray.size=_;simp
 grind
def pW(t i:Nat):97<=ltr t i/\ltr t i<=122:=by
 unfold ltr;lia
def O6(t k:Nat):isNm ⟨(nm0 t k).toArray⟩=true:=by
 refine vV (by simp[nm0]) (by simp[nm0];lia) λc a=>?_
 rcases mem_cons.mp a with rfl | a
 .exact pW _ _
 .rw[(mem_replicate.mp a).2];exact pW _ _
def Nt(t k:Nat):isNm ⟨(nm1 t k).toArray⟩=true:=by
 refine vV (by simp[nm1]) (by simp[nm1];lia) λc a=>?_
 rw[(mem_replicate.mp a).2];exact pW _ _
theorem PX{t a:Nat}(k:Nat)(ha:a<=6):isNm ⟨(nm2 t a k).toArray⟩=true:=by
 refine vV (by simp[nm2];lia) (by simp[nm2];lia) λc b=>?_
 unfold nm2 at b;rcases mem_append.mp b with b | b
 .rw[(mem_replicate.mp b).2];exact pW _ _
 rcases mem_cons.mp b with rfl | b
 .exact pW _ _
 rcases mem_cons.mp b with rfl | b
 .exact pW _ _
 rw[(mem_replicate.mp b).2];exact pW _ _
structure Ar(xs:List (List Nat)):Prop where
 len:xs.length=70
 nd:xs.Nodup
 nm:∀ x∈xs,isNm ⟨x.toArray⟩=true
def Kq{f:Nat->List Nat}(h1:∀ i j,i<70->j<70->f i=f j->i=j)(h2:∀ k,isNm ⟨(f k).toArray⟩=true):Ar ((List.range 70).map f) :=
 ⟨by simp,oZ h1,λx a=>by obtain⟨k,_,rfl⟩:=mem_map.mp a;exact h2 k⟩
def TV(t:Nat):Ar ((List.range 70).map (nm0 t)):=Kq (λ_ _ a b=>Lw a b) (O6 t)
def Tw(t:Nat):Ar ((List.range 70).map (nm1 t)):=Kq (λ_ _ a b=>Mz a b) (Nt t)
def row2(ha:a<=6):Ar ((List.range 70).map (nm2 t a)):=Kq (λ_ _ b c=>Ke b c) (λk=>PX k ha)
def Fo(ht:t<26)(hi:i<26):((List.range 26).map (97 + ·)).drop t++((List.range 26).map (97 + ·)).take t=(List.range 26).map (ltr t):=by
 apply ext_getElem
 .simp;lia
 .intro n b a;simp only[Xr,length_drop,length_take,XF,length_range] at b a;rw[List.getElem_append];split
  .simp[ltr];simp at *;lia
  .simp[ltr];simp at *;lia
end L2
namespace L2
open PySem PySem.Spec PyProof.Rows
def J1{sc:Scope}{ns:List (Str × NameKind)}(h:∀ y∈ns,y.2≠.free):∀ y∈ns,y.2=.free->sc.names.lookup y.1=some .cell\/sc.names.lookup y.1=some .free:=λy b a=>absurd a (h y b)
def stT{K:W.Frag}{H H':Hp}{a:Addr}{xs:List V}(e:Same H H')(h:SqT K H a xs):SqT K H' a xs:=by
 rcases h with(h | ⟨o,h⟩) | h
 .exact .inl (.inl (e _ _ h))
 .exact .inl (.inr ⟨o,e _ _ h⟩)
 .exact .inr h
def Rr(K:W.Frag):R2:=λx y H Q=>∃(a b:Addr)(xs ys:List V),x=.ref a/\y=.ref b/\SqT K H a xs/\SqT K H b ys/\xs.length+ys.length<=sizeLine/\∀(q:Addr)(H':Hp),Same H H'->SqT K H' q (xs++ys)->Q (.ref q) H'
def Jj:OpR X (binaryOp .Add) (Rr X.K):=by
 intro g s σ H x y v u Q I t r h;obtain⟨a,b,xs,ys,rfl,rfl,l,k,hz,q⟩:=h;cases xs with
 | cons M xs =>
  refine Cr g s σ H (.ref a) (.ref b) v u Q I t r ⟨a,b,_,_,rfl,rfl,l,k,by simp,hz,λz=>?_,λz p E=>q p _ (ao E _) (SqT.of ak)⟩;refine q a H (Same.refl H) ?_;rw[z,append_nil];exact l
 | nil =>
  cases t;cases r;obtain⟨D,J,C,_⟩:=I.tuple l;obtain⟨f,L,G,_⟩:=I.tuple k;tm_at"h"
def Ue(K:W.Frag):R2:=λx y H Q=>∃(p:Addr)(us:List V)(d:D)(es:List D)(n:Nat),y=.ref p/\(SqL K H p us\/SqT K H p us)/\Den H x d/\bW H us es/\(∀ e∈es,∃ r,e=.tup r)/\(∃ r,d=.tup r)/\dz n d/\(∀ e∈es,dz n e/\Sim e d)/\n<=50/\Q (.bl (es.any λe=>eqD e d)) H
theorem Jp{α β:Type}{f:α->Bool}{g:β->Bool}:∀ {xs:List α}{ys:List β},xs.length=ys.length->(∀(i:Nat) x y,xs[i]?=some x->ys[i]?=some y->f x=g y)->xs.any f=ys.any g
 | [],[],_,_=>rfl
 | x::xs,y::ys,c,h=>by
  rw[any_cons,any_cons,h 0 x y rfl rfl,Jp (by simpa using c) λi a b d e=>h (i+1) a b (by simpa using d) (by simpa using e)]
 | [],_::_,c,_=>by simp at c
 | _::_,[],c,_=>by simp at c
open Classical in
theorem Pa(hu:X.A.units+64<cLine):OpR X (compareOp .In) (Ue X.K):=by
 intro P s σ H x y v u Q I T S h;obtain⟨p,L,d,es,n,rfl,E,Y,t,k,⟨f,rfl⟩,N,O,Z,q⟩:=h;cases S;have U:=QJ I (s':=s) (λb o z=>z) n;have key:∀ c:List Value,Vals L c->(∀ w∈c,SeqAt.EqAt X.A.in1 s w v (decide (∃ a e,w=Value.ref a/\Den H (.ref a) e/\eqD e (.tup f)=true)))/\c.any (λw=>decide (∃ a e,w=Value.ref a/\Den H (.ref a) e/\eqD e (.tup f)=true))=es.any λe=>eqD e (.tup f):=by
  intro c r;have at_:∀(i:Nat)(w:Value),c[i]?=some w->∃ a e,es[i]?=some e/\w=.ref a/\Den H (.ref a) e:=λi w j=>by
   have hl:=r.length;have R:=(pN.mp j).1;obtain⟨e,he,g⟩:=t.at_ (n6 (by lia:i<L.length));obtain⟨r1,rfl⟩:=k e (Xu he);obtain⟨a,vs,B,ha,hd⟩:=aO g;obtain⟨w',m,l⟩:=r.get (n6 (by lia:i<L.length));rw[j] at m;cases m;rw[B] at l g;cases l;exact⟨a,_,he,rfl,g⟩
  have val:∀ {a:Addr}{e:D},Den H (.ref a) e->decide (∃ J F,Value.ref a=Value.ref J/\Den H (.ref J) F/\eqD F (.tup f)=true)=eqD e (.tup f):=fun {a e} g=>by
   rw[Bool.eq_iff_iff,decide_eq_true_eq];constructor
   .rintro⟨J,F,B,G,h⟩;injection B with B;subst B;rw[Den.det g G];exact h
   .exact λh=>⟨a,e,rfl,g,h⟩
  refine⟨λw j=>?_,?_⟩
  .obtain⟨i,R,rfl⟩:=getElem_of_mem j;obtain⟨a,e,he,M,g⟩:=at_ i _ (n6 R)
   rw[M,val g];obtain⟨W,V⟩:=O e (Xu he);exact(U e (.tup f) X.A.in1 (.ref a) x (.ref a) v W N V g Y rfl T (by first | (simp only[Around.in1];lia) | lia)).1
  .refine Jp (by rw[← r.length,t.len]) λi w e j he=>?_
   obtain⟨a,F,C,M,g⟩:=at_ i w j
   rw[he] at C;cases C;rw[M];exact val g
 rcases E with E | E
 .obtain⟨c,r,pl,hz⟩:=I.list E;obtain⟨k1,k2⟩:=key c r;refine SeqAt.in_listAt (λw=>decide (∃ a e,w=Value.ref a/\Den H (.ref a) e/\eqD e (.tup f)=true)) pl.isList (λw j=>k1 w (by simpa using j)) ⟨.bl _,H,I,rfl,?_⟩;rw[show c.toArray.any (λw=>decide (∃ a e,w=Value.ref a/\Den H (.ref a) e/\eqD e (.tup f)=true))=c.any (λw=>decide (∃ a e,w=Value.ref a/\Den H (.ref a) e/\eqD e (.tup f)=true)) by simp,k2];exact q
 .obtain⟨c,r,pl,hz⟩:=I.tuple E;obtain⟨k1,k2⟩:=key c r;refine SeqAt.in_tupleAt (λw=>decide (∃ a e,w=Value.ref a/\Den H (.ref a) e/\eqD e (.tup f)=true)) pl (λw j=>k1 w (by simpa using j)) ⟨.bl _,H,I,rfl,?_⟩;rw[show c.toArray.any (λw=>decide (∃ a e,w=Value.ref a/\Den H (.ref a) e/\eqD e (.tup f)=true))=c.any (λw=>decide (∃ a e,w=Value.ref a/\Den H (.ref a) e/\eqD e (.tup f)=true)) by simp,k2];exact q
def K0:W.Frag:=[]
def SqL.up{K:W.Frag}{H:Hp}{a:Addr}{xs:List V}(h:SqL K0 H a xs):SqL K H a xs:=by
 rcases h with h | ⟨o,c,n,b,_⟩
 .exact .inl h
 .cases b
def SqT.up{K:W.Frag}{H:Hp}{a:Addr}{xs:List V}(h:SqT K0 H a xs):SqT K H a xs:=by
 rcases h with h | ⟨o,c,n,b,_⟩
 .exact .inl h
 .cases b
theorem PN{K:W.Frag}{H:Hp}{a:Addr}{xs:List V}(h:SqL K0 H a xs\/SqT K0 H a xs):SqL K H a xs\/SqT K H a xs:=h.imp SqL.up SqT.up
def Od{K:W.Frag}{T:String}{x:V}{H:Hp}(h:tyV K0 T x H):tyV K T x H:=by
 cases x with
 | ref p =>
  rcases h with⟨e,xs,h⟩ | ⟨_,o,a,_⟩ | h
  .exact .inl ⟨e,xs,h.up⟩
  .cases a
  .exact .inr (.inr h)
 | _=>exact h
section
variable {X:Cx}
def bw:IxR X (RN K0):=λh sl a s σ H x y v u Q I g f ⟨p,xs,i,z,b,d,e,he,q⟩ c=>K3 h sl a s σ H x y v u Q I g f ⟨p,xs,i,z,b,d,e.up,he,q⟩ c
def bG:IxR X (SJ K0):=λh sl a s σ H x y v u Q I g f ⟨p,xs,i,z,b,d,e,he,q⟩ c=>lM h sl a s σ H x y v u Q I g f ⟨p,xs,i,z,b,d,e.up,he,q⟩ c
def cC:OpR X (compareOp .In) (rIn K0 false):=λa s σ H x y v u Q I g d ⟨p,xs,e,c,b,f,q⟩=>vg a s σ H x y v u Q I g d ⟨p,xs,e,PN c,b,f,q⟩
def lA(hc:X.calm=true)(h:PGs X es t)
  (hn:(assignEach es X.env).length=n:=by rfl)(hst:(assignEach es X.env).findIdx? (·.1)=none:=by rfl):PG X (.Tuple es k pos) (Rm K0 n t) :=
 λb s σ H v u Q I r ⟨a,xs,e,d,c,q⟩=>Om hc h hn hst b s σ H v u Q I r ⟨a,xs,e,d.up,c,q⟩
def bT(hu:d7 X (.builtin "sorted") (Eb X.K)):d7 X (.builtin "sorted") (Eb K0) :=
 λa s σ H xs g Q I f ⟨p,d,b,e,c,r⟩=>hu a s σ H xs g Q I f ⟨p,d,b,e,PN c,r⟩
def mc(t:TE):TE:=λσ H Q=>∃ a,t σ H a/\∀ v b,a v b->Q v b
theorem PE.mc(h:PE X e t):PE X e (mc t):=λa s σ H Q I ⟨b,i,g⟩ =>
 thn (h a s σ H b I i) λv k ⟨x,d,j,c,f⟩=>⟨x,d,j,c,g _ _ f⟩
def Turn.up{P:Program}{w:World}{K:W.Frag}{tg:Expr}{it:Addr}{fp:List Addr}{tn:Nat->Heap->Prop}{J J0:It}(hg:∀ i H,J0.go i H->J.go i H)(hy:∀ i H x g,J.yld i H x g->J0.yld i H x g)(hs:∀ i H,J0.stop i H->J.stop i H)(T:Turn P w K tg J fp it tn):Turn P w K tg J0 fp it tn :=
 { mem:=T.mem,obj:=T.obj,keep:=T.keep,self:=T.self,item:=λX b d e f i a s σ H E I c ht z=>thn (T.item X b d e f i a s σ H E I c ht (hg _ _ z)) λ_ _ y=>y.imp λ_ y=>⟨y.1,thn y.2 λ_ _ y=>y.imp λ_ y=>y.imp λ_ y=>⟨y.1,y.2.1,hy _ _ _ _ y.2.2.1,y.2.2.2⟩⟩,done:=λX b d e f i a s σ H E I c ht z=>T.done X b d e f i a s σ H E I c ht (hs _ _ z) }
def Turn.upL{P:Program}{w:World}{K:W.Frag}{tg:Expr}{a it:Addr}{fp:List Addr}{tn:Nat->Heap->Prop}(T:Turn P w K tg (Itl K a) fp it tn):Turn P w K tg (Itl K0 a) fp it tn :=
 Turn.up (J:=Itl K a) (λ_ _ z=>z.imp λ_ z=>z.imp λ_ z=>⟨z.1.up,z.2⟩) (λ_ _ _ _ z=>⟨z.1,λxs h=>z.2 xs h.up⟩) (λ_ _ z=>z.imp λ_ z=>⟨z.1.up,z.2⟩) T
def Turn.upT{P:Program}{w:World}{K:W.Frag}{tg:Expr}{a it:Addr}{fp:List Addr}{tn:Nat->Heap->Prop}(T:Turn P w K tg (Itt K a) fp it tn):Turn P w K tg (Itt K0 a) fp it tn :=
 Turn.up (J:=Itt K a) (λ_ _ z=>z.imp λ_ z=>z.imp λ_ z=>⟨z.1.up,z.2⟩) (λ_ _ _ _ z=>⟨z.1,λxs h=>z.2 xs h.up⟩) (λ_ _ z=>z.imp λ_ z=>⟨z.1.up,z.2⟩) T
theorem Pu{R:It->Hp->Prop}{F G:Addr->It}(hT:∀ a b it c,Turn X.prog X.w X.K tg (F a) b it c->Turn X.prog X.w X.K tg (G a) b it c)(h:PI X tg l wi)(I:Inv X pins σ H s)
  (hw:wi σ H λJ f=>∃ a,J=F a/\R (G a) f):wpAny (model X.prog X.w) X.A (eval l X.env) (λv d=>wpAny (model X.prog X.w) X.A (pyIter v) (PIE X pins σ tg R) X.xe d) X.xe s :=
 thn (h pins s σ H _ I hw) λv d z=>thn z λj o ⟨it,b,c,J,g,e,k,T,n,i,a,m,r⟩=>by
  subst m;exact⟨it,b,c,_,g,e,k,hT _ _ _ _ T,n,i,r⟩
def eG(hl:PE X l tl):PI X tg l (Pz K0 tl):=λb s σ H R I h =>
 Pu (F:=Itl X.K) (G:=Itl K0) (λ_ _ _ _ T=>T.upL) (CW hl.mc) I ⟨_,h,λv d ⟨a,e,⟨xs,c⟩,r⟩=>⟨a,e,⟨xs,c.up⟩,a,rfl,r⟩⟩
def cJ(hl:PE X l tl):PI X tg l (Sq K0 tl):=λb s σ H R I h =>
 Pu (F:=Itt X.K) (G:=Itt K0) (λ_ _ _ _ T=>T.upT) (Ey hl.mc) I ⟨_,h,λv d ⟨a,e,⟨xs,c⟩,r⟩=>⟨a,e,⟨xs,c.up⟩,a,rfl,r⟩⟩
def aM:d7 X (.type "tuple") (λxs H Q=>∃ p ys,xs=[.ref p]/\((SqL K0 H p ys/\∀ l,H l=none->Q (.ref l) (upd H l (.tup ys)))\/(SqT K0 H p ys/\Q (.ref p) H))) :=
 λa s σ H xs b Q I c ⟨p,ys,e,h⟩=>sY a s σ H xs b Q I c ⟨p,ys,e,h.imp (λz=>⟨z.1.up,z.2⟩) λz=>⟨z.1.up,z.2⟩⟩
def dY{o e:Expr}{es:List Expr}{to:TE}{t:TA}{name:Str}{apos cpos:Pos}{T id:String}{r:V->List V->Hp->VK->Prop}(pa:PlainAttrs T)(slot:Slot T name id)(hty:typeOf (.builtin id)=pure (.type "method_descriptor"))(hm:MtR X id r)(ho:PE X o to)(ha:PA X (e::es) t)
  (hbase:attributeBase o name X.env (eval o X.env)=eval o X.env:=by rfl)
  (hfew:((backTo cpos (starEach (e::es) X.env)).all (λx=>!x.1) && (backToKw cpos (keywordEach [] X.env)).all (λx=>x.1.isSome)
   && decide ((e::es).length+([]:List Keyword).length+(if ([]:List Keyword).isEmpty then 0 else 1)<30))=true:=by rfl)
  (hline:(apos.endLine == cpos.line)=true:=by rfl)(hs:starEach (e::es) X.env=(false,eval e X.env)::starEach es X.env:=by rfl)(hplain:(backTo cpos (starEach es X.env)).any (·.1)=false:=by rfl) :
  PE X (.Call (.Attribute o name apos) (e::es) [] cpos) (tBM K0 T r to t):=λa s σ H Q I h =>
 PK pa slot hty hm ho.mc ha hbase hfew hline hs hplain a s σ H Q I ⟨_,h,λ_ _ ⟨ty,q⟩=>⟨Od ty,q⟩⟩
end
def ixT{K:W.Frag}{x y:V}{H:Hp}{Q:V->Prop}{p:Addr}{xs:List V}{i:Int}{v:V}(e1:x=.ref p)(e2:y=.int i)(h:SqT K H p xs)(e:atI xs i=some v)(q:Q v):∃ p xs i v,x=V.ref p/\y=V.int i/\SqT K H p xs/\atI xs i=some v/\Q v:=⟨p,xs,i,v,e1,e2,h,e,q⟩
def ixL{K:W.Frag}{x y:V}{H:Hp}{Q:V->Prop}{p:Addr}{xs:List V}{i:Int}{v:V}(e1:x=.ref p)(e2:y=.int i)(h:SqL K H p xs)(e:atI xs i=some v)(q:Q v):∃ p xs i v,x=V.ref p/\y=V.int i/\SqL K H p xs/\atI xs i=some v/\Q v:=⟨p,xs,i,v,e1,e2,h,e,q⟩
structure Up(D E:Ends):Prop where
 n:∀ σ H,D.nx σ H->E.nx σ H
 r:∀ v H,D.rt v H->E.rt v H
 b:∀ σ H,D.bk σ H->E.bk σ H
 c:∀ σ H,D.ct σ H->E.ct σ H
def Nj{g:TG}{tb:TS}{D:Ends}{v:V}{σ:St}{H:Hp}(k:∀ E:Ends,Up D E->g v σ H λb a=>tb E b a):g v σ H λb a=>tb D b a:=k D ⟨λ_ _ h=>h,λ_ _ h=>h,λ_ _ h=>h,λ_ _ h=>h⟩
def cA{J:It}{g:TG}{tc:TT}{te:TE}{R:Hp->Prop}{l:Addr}{k:St}{H0:Hp}(n:Nat)(Pv:Nat->St->Hp->Prop)(h0:Pv 0 k H0)(hstop:∀ σ H,Pv n σ H->J.stop n H/\R H)
  (hgo:∀ i σ H,i<n->Pv i σ H->J.go i H/\∀ N:St->Hp->Prop,(∀ e a,Pv (i+1) e a->N e a)->∀ x a,J.yld i H x a->g x σ a λc j=>tc c j λb f=>if b=true then te c f λv d=>∃ ys,d l=some (.lst ys)/\ys.length<sizeLine/\N c (upd d l (.lst (ys++[v]))) else N c f) :
  ∃ W:Nat->Nat->St->Hp->Prop,(∃ m,W 0 m k H0)/\∀ i m σ H,W i m σ H ->
   (J.stop i H/\R H)\/(J.go i H/\∃ N:St->Hp->Prop,(∀ e a,N e a->∃ p,p<m/\W (i+1) p e a) /\
    ∀ x a,J.yld i H x a->g x σ a λc j=>tc c j λb f=>if b=true then te c f λv d=>∃ ys,d l=some (.lst ys)/\ys.length<sizeLine/\N c (upd d l (.lst (ys++[v]))) else N c f) :=
 iz n Pv h0 hstop λi σ H q o=>⟨(hgo i σ H q o).1,(hgo i σ H q o).2 _ λ_ _ h=>h⟩
def FnI(K:W.Frag)(x:Str)(st:Stmt):Prop:=∃(f:Addr)(fd:FuncData),W.nsIn K mainGlobals x=some (some (.ref f))/\Fun K x x st f fd
def fni{K:W.Frag}{x:Str}{st:Stmt}{f:Addr}{oc:Value}{od an:Option Addr}{osl:Array (Option Value)}{kV doc pm cdv ct:Value}(a:W.nsIn K mainGlobals x=some (some (.ref f)))(l:K.lookup f=some ⟨oc,od,.func (W.fnOf x x (iG st) (fB st) (aC st) .none kV doc pm an cdv ct),osl⟩)
  (c:W.codeIn K cdv x=true)(k:W.keepIn K (.ref f)=true):FnI K x st:=⟨f,_,a,Jx l c k⟩
def FnI.has{K:W.Frag}{mg:Str->Option Value}{h:Heap}{x:Str}{st:Stmt}{ps:List Str}(X:K.In h)(G:h.Ns mainGlobals mg)(i:FnI K x st)
  (hb:∀(kV doc pm:Value)(an:Option Addr)(cdv ct:Value)(us:List Value),us.length=ps.length->bindArgs (W.fnOf x x (iG st) (fB st) (aC st) .none kV doc pm an cdv ct) ⟨us,[]⟩=pure (ps.zip us)):Has K mg x st ps:=by
 obtain⟨f,b,a,F⟩:=i;exact⟨f,b,F,F.binds hb,W.mg_of X G a⟩
def len0{α:Type _}{P:List α->Prop}(us:List α)(hl:us.length=0)(h:P []):P us:=by
 grind
def QK{α:Type _}{P:List α->Prop}(us:List α)(n:Nat)(hl:us.length=n+1)(h:∀ a t,t.length=n->P (a::t)):P us:=by
 cases us with
 | nil=>grind
 | cons a t=>exact h a t (Nat.succ.inj hl)
@[elab_as_elim] theorem len1{α:Type _}{P:List α->Prop}(us:List α)(hl:us.length=1)(h:∀ b,P [b]):P us:=QK (P:=P) us 0 hl λa t ht=>len0 (P:=λt=>P (a::t)) t ht (h a)
@[elab_as_elim] theorem len2{α:Type _}{P:List α->Prop}(us:List α)(hl:us.length=2)(h:∀ c b,P [c,b]):P us:=QK (P:=P) us 1 hl λa t ht=>len1 (P:=λt=>P (a::t)) t ht (h a)
@[elab_as_elim] theorem KQ{α:Type _}{P:List α->Prop}(us:List α)(hl:us.length=3)(h:∀ c b d,P [c,b,d]):P us:=QK (P:=P) us 2 hl λa t ht=>len2 (P:=λt=>P (a::t)) t ht (h a)
@[elab_as_elim] theorem R8{α:Type _}{P:List α->Prop}(us:List α)(hl:us.length=4)(h:∀ e b d c,P [e,b,d,c]):P us:=QK (P:=P) us 3 hl λa t ht=>KQ (P:=λt=>P (a::t)) t ht (h a)
end L2
namespace ST
open PySem PySem.SetTable
def S5:Nat->Nat
 | 0=>0
 | d+1=>5*S5 d+1
def Qt(d:Nat):5^d=4*S5 d+1:=by
 induction d with
 | zero=>rfl
 | succ d a=>rw[Nat.pow_succ,a];show(4*S5 d+1)*5=4*(5*S5 d+1)+1;lia
def Ju(d e:Nat):S5 (d+e)=5^e*S5 d+S5 e:=by
 induction e with
 | zero=>show S5 d=5^0*S5 d+0;simp
 | succ e a =>
  show 5*S5 (d+e)+1=5^(e+1)*S5 d+(5*S5 e+1)
  grind
def MN(k:Nat):∃ a b:Nat,5^(2^k)=1+2^(k+2)*a/\S5 (2^k)=2^k*(2*b+1):=by
 induction k with
 | zero=>exact⟨1,0,rfl,rfl⟩
 | succ k h =>
  obtain⟨a,b,c,g⟩:=h;have e:2^(k+1)=2^k+2^k:=by rw[Nat.pow_succ];lia
  refine⟨a+2^(k+1)*(a*a),b+2^k*a+2*(b*(2^k*a)),?_,?_⟩
  .have f:(2:Nat)^(k+1+2)=2*2^(k+2):=by rw[show k+1+2=(k+2)+1 from rfl,Nat.pow_succ,Nat.mul_comm]
   have d:(2:Nat)^(k+2)=4*2^k:=by rw[Nat.pow_add];lia
   rw[f,d,e,Nat.pow_add,c,d]
   grind
  .rw[e,Ju,c,g]
   grind
def T3(k:Nat):∀ i r:Nat,∃ d,d<2^k/\(5^d*i+S5 d)%2^k=r%2^k:=by
 induction k with
 | zero=>grind
 | succ k g =>
  intro i r;obtain⟨d,hd,e⟩:=g i r;obtain⟨a,b,f,p⟩:=MN k;have q:(2:Nat)^(k+1)=2*2^k:=by grind
  have u:0<(2:Nat)^k:=Nat.pow_pos (by decide);generalize hy:5^d*i+S5 d=y at e;by_cases h:y%(2*2^k)=r%(2*2^k)
  .grind
  .refine⟨d+2^k,by lia,?_⟩;have s:5^(d+2^k)*i+S5 (d+2^k)=5^(2^k)*y+S5 (2^k):=by
    rw[Ju,Nat.pow_add,← hy]
    grind
   rw[s,f,p,q];have n:(2:Nat)^(k+2)=2*2^k*2:=by rw[Nat.pow_add];lia
   rw[n];generalize (2:Nat)^k=x at *;have o:(1+2*x*2*a)*y+x*(2*b+1)=(y+x)+2*x*(2*a*y+b):=by grind
   rw[o,Nat.add_mul_mod_self_left];have t:y%(2*x)=y%x+x*(y / x%2):=by rw[Nat.mul_comm 2 x,Nat.mod_mul]
   have c:r%(2*x)=r%x+x*(r / x%2):=by rw[Nat.mul_comm 2 x,Nat.mod_mul]
   have j:(y+x)%(2*x)=(y+x)%x+x*((y+x) / x%2):=by rw[Nat.mul_comm 2 x,Nat.mod_mul]
   have l:=Nat.add_mod_right y x;have m:=Nat.add_div_right y u;rw[j,c,l,m,e];have v:y / x%2≠r / x%2:=λz=>h (by rw[t,c,e,z])
   grind
def fJ(mask:Nat):Nat->Nat × Nat->Nat × Nat
 | 0,p=>p
 | n+1,p=>fJ mask n (leap mask p.1 p.2)
def DR(mask n:Nat):∀ p:Nat × Nat,(fJ mask n p).2=p.2 / 32^n:=by
 induction n with
 | zero=>intro p;show p.2=_;rw[Nat.pow_zero,Nat.div_one]
 | succ n a =>
  intro p;show(fJ mask n (leap mask p.1 p.2)).2=_;rw[a];show p.2 / 32 / 32^n=_;rw[Nat.div_div_eq_div_mul,Nat.pow_succ,Nat.mul_comm]
def oK(mask n m:Nat):∀ p,fJ mask (n+m) p=fJ mask m (fJ mask n p):=by
 induction n with
 | zero=>intro p;rw[Nat.zero_add];rfl
 | succ n a=>intro p;rw[Nat.succ_add];exact a _
def RW(mask n:Nat):∀ i,i<=mask->fJ mask n (i,0)=((5^n*i+S5 n)%(mask+1),0):=by
 induction n with
 | zero=>intro i a;show(i,0)=_;rw[Nat.pow_zero,Nat.one_mul];show(i,0)=((i+0)%(mask+1),0);rw[Nat.add_zero,Nat.mod_eq_of_lt (by lia)]
 | succ n b =>
  intro i a;show fJ mask n (leap mask i 0)=_;have e:leap mask i 0=((i*5+1)%(mask+1),0):=rfl;rw[e,b _ (by have:=Nat.mod_lt (i*5+1) (show 0<mask+1 by lia);lia)];congr 1;have:∀ x y z M:Nat,(x*(y%M)+z)%M=(x*y+z)%M:=λx y z M=>by
   rw[Nat.add_mod,Nat.mul_mod,Nat.mod_mod,← Nat.mul_mod,← Nat.add_mod]
  rw[this];congr 1;have c:S5 (n+1)=5^n+S5 n:=by
   have:=Qt n;show 5*S5 n+1=_;lia
  grind
def ud{k mask:Nat}(hm:mask+1=2^k){i p r:Nat}(hp:p<2^64)(hr:r<=mask):∃ n,1<=n/\n<=mask+14/\(fJ mask n (i,p)).1=r:=by
 have a:(fJ mask 13 (i,p)).2=0:=by
  rw[DR]
  grind
 have b:(fJ mask 13 (i,p)).1<=mask:=by
  have e:fJ mask 13 (i,p)=leap mask (fJ mask 12 (i,p)).1 (fJ mask 12 (i,p)).2:=oK mask 12 1 _;rw[e];have:=Nat.mod_lt ((fJ mask 12 (i,p)).1*5+1+(fJ mask 12 (i,p)).2 / 32) (show 0<mask+1 by lia);show _%(mask+1)<=mask;lia
 generalize hq:fJ mask 13 (i,p)=q at a b;obtain⟨d,hd,e⟩:=T3 k q.1 r;refine⟨13+d,by lia,by lia,?_⟩;rw[oK,hq,show q=(q.1,0) from Prod.ext rfl a,RW _ _ _ b];rw[hm,e,Nat.mod_eq_of_lt (by lia)]
def adv(t:SetTable):Nat->Probe->Probe
 | 0,p=>p
 | d+1,p=>adv t d (t.advance p)
def rR(t:SetTable)(d e:Nat):∀ p,adv t (d+e) p=adv t e (adv t d p):=by
 induction d with
 | zero=>intro p;rw[Nat.zero_add];rfl
 | succ d a=>intro p;rw[Nat.succ_add];exact a _
def Dn(mask i:Nat):runEnd mask i - i<=9:=by
 unfold runEnd;split <;> lia
def CJ(t:SetTable):∀(m:Nat)(q:Probe),q.more=m->(adv t m q).more=0/\(adv t m q).i=q.i/\(adv t m q).perturb=q.perturb:=by
 intro m
 induction m with
 | zero=>intro q h;exact⟨h,rfl,rfl⟩
 | succ m d =>
  intro q h;have e:t.advance q={ q with j:=q.j+1,more:=q.more - 1 }:=by
   unfold SetTable.advance;rw[if_pos (by lia)]
  obtain⟨a,b,c⟩:=d (t.advance q) (by rw[e];show q.more - 1=m;lia);rw[e] at b c;exact⟨a,by show(adv t m (t.advance q)).i=_;rw[e];exact b,by show(adv t m (t.advance q)).perturb=_;rw[e];exact c⟩
def reach(t:SetTable):∀(n:Nat)(q:Probe),q.more<=9->∃ d,d<=10*(n+1)/\(adv t d q).j=(fJ t.mask (n+1) (q.i,q.perturb)).1/\(adv t d q).i=(fJ t.mask (n+1) (q.i,q.perturb)).1/\(adv t d q).perturb=(fJ t.mask (n+1) (q.i,q.perturb)).2/\(adv t d q).more<=9:=by
 intro n
 induction n with
 | zero =>
  intro q g;obtain⟨a,b,c⟩:=CJ t q.more q rfl;refine⟨q.more+1,by lia,?_⟩;have e:adv t (q.more+1) q=t.advance (adv t q.more q):=rR t q.more 1 q;have f:t.advance (adv t q.more q)={ adv t q.more q with j:=(leap t.mask q.i q.perturb).1,more:=runEnd t.mask (leap t.mask q.i q.perturb).1 - (leap t.mask q.i q.perturb).1,i:=(leap t.mask q.i q.perturb).1,perturb:=(leap t.mask q.i q.perturb).2 }:=by
   unfold SetTable.advance;rw[if_neg (by lia),b,c]
  rw[e,f];exact⟨rfl,rfl,rfl,Dn _ _⟩
 | succ n k =>
  intro q g;obtain⟨d,hd,p,m,l,o⟩:=k q g;obtain⟨a,b,c⟩:=CJ t (adv t d q).more (adv t d q) rfl;refine⟨d+((adv t d q).more+1),by lia,?_⟩;have e:adv t (d+((adv t d q).more+1)) q=t.advance (adv t (adv t d q).more (adv t d q)):=by rw[rR,rR];rfl
  have h:fJ t.mask (n+1+1) (q.i,q.perturb)=leap t.mask (adv t d q).i (adv t d q).perturb:=by
   rw[oK _ (n+1) 1,m,l]
   rfl
  have f:t.advance (adv t (adv t d q).more (adv t d q))={ adv t (adv t d q).more (adv t d q) with j:=(leap t.mask (adv t d q).i (adv t d q).perturb).1,more:=runEnd t.mask (leap t.mask (adv t d q).i (adv t d q).perturb).1 - (leap t.mask (adv t d q).i (adv t d q).perturb).1,i:=(leap t.mask (adv t d q).i (adv t d q).perturb).1,perturb:=(leap t.mask (adv t d q).i (adv t d q).perturb).2 }:=by
   unfold SetTable.advance;rw[if_neg (by lia),b,c]
  rw[e,f,h];exact⟨rfl,rfl,rfl,Dn _ _⟩
def meets{k:Nat}(hm:t.mask+1=2^k)(hq:q.more<=9)(hp:q.perturb<2^64){r:Nat}(hr:r<=t.mask):∃ d,d<=10*(t.mask+14)/\(adv t d q).j=r:=by
 obtain⟨n,b,c,a⟩:=ud hm hp hr;obtain⟨m,rfl⟩:∃ m,n=m+1:=⟨n - 1,by lia⟩
 obtain⟨d,hd,e,_⟩:=reach t m q hq;exact⟨d,by lia,by rw[e,a]⟩
def Eo(t:SetTable)(q:Probe)(d:Nat):Prop:=t.slot (adv t d q).j=.empty/\∀ e<d,t.slot (adv t e q).j≠.empty
def M5:∀(d:Nat),t.slot (adv t d q).j=.empty->∃ e,e<=d/\Eo t q e:=by
 intro d
 induction d using Nat.strongRecOn with
 | ind d f =>
  intro h;by_cases z:∃ e,e<d/\t.slot (adv t e q).j=.empty
  .obtain⟨e,he,a⟩:=z;obtain⟨c,g,b⟩:=f e he a;exact⟨c,by lia,b⟩
  .exact⟨d,ql _,h,λe he a=>z ⟨e,he,a⟩⟩
def Eo.next(h:Eo t q (d+1)):Eo t (t.advance q) d:=⟨h.1,λe he=>h.2 (e+1) (by lia)⟩
def yr(hd:t.dummies = #[]){hashAt:Nat->Int}:∀(d fuel:Nat)(q:Probe),Eo t q d->d<fuel ->
  (SetTable.probe.go t hashAt h fuel q=some (.empty (adv t d q).j q.dummy))\/∃ e i,e<d/\t.slot (adv t e q).j=.live i/\hashAt i=h/\SetTable.probe.go t hashAt h fuel q=some (.candidate (adv t e q).j i (t.advance (adv t e q))):=by
 intro d
 induction d with
 | zero =>
  intro fuel q h l;obtain⟨fuel,rfl⟩:∃ f,fuel=f+1:=⟨fuel - 1,by lia⟩
  refine .inl ?_;unfold SetTable.probe.go;have:t.slot q.j=.empty:=h.1;rw[this]
  rfl
 | succ d m =>
  intro fuel q g l;obtain⟨fuel,rfl⟩:∃ f,fuel=f+1:=⟨fuel - 1,by lia⟩
  have c:=g.2 0 (by lia);cases hs:t.slot q.j with
  | empty=>exact absurd hs c
  | dummy =>
   exfalso;unfold SetTable.slot at hs;simp only at hs;split at hs
   .cases hs
   .split at hs
    .rename_i b;unfold SetTable.has at b;rw[hd] at b;simp at b
    .cases hs
  | live i =>
   by_cases hh:hashAt i=h
   .refine .inr ⟨0,i,by lia,hs,hh,?_⟩;unfold SetTable.probe.go;rw[hs];simp only[hh,beq_self_eq_true,if_true]
    rfl
   .have n:SetTable.probe.go t hashAt h (fuel+1) q=SetTable.probe.go t hashAt h fuel (t.advance q):=by
     rw[SetTable.probe.go];rw[hs];simp only;rw[if_neg (by simpa using hh)]
    have a:(t.advance q).dummy=q.dummy:=by
     unfold SetTable.advance;split <;> rfl
    rw[n];rcases m fuel (t.advance q) g.next (by lia) with k | ⟨e,r,k,b,p,o⟩
    .exact .inl (by rw[k,a];rfl)
    .exact .inr ⟨e+1,r,by lia,b,p,o⟩
def Up(xs:Array Nat):Prop:=xs.toList.Pairwise (· < ·)
def Up.lt(h:Up xs){i k a b:Nat}(hik:i<k)(ha:xs[i]?=some a)(hb:xs[k]?=some b):a<b:=by
 rw[← Array.getElem?_toList] at ha hb;obtain⟨d,f⟩:=pN.mp ha;obtain⟨c,e⟩:=pN.mp hb;have:=pairwise_iff_getElem.mp h i k d c hik;rw[f,e] at this;exact this
def Up.nil:Up #[]:=List.Pairwise.nil
def Hu{j:Nat}(h:Up xs):∀(fuel lo a:Nat),a<=xs.size->lo<=a->a - lo<=fuel->(∀ i v,i<lo->xs[i]?=some v->v<j)->(∀ i v,a<=i->xs[i]?=some v->j<=v) ->
  SetTable.below.go xs j fuel lo a<=xs.size/\(∀ i v,i<SetTable.below.go xs j fuel lo a->xs[i]?=some v->v<j)/\(∀ i v,SetTable.below.go xs j fuel lo a<=i->xs[i]?=some v->j<=v):=by
 intro fuel
 induction fuel with
 | zero =>
  intro lo a f l n e d;unfold SetTable.below.go;exact⟨by lia,e,λi v c=>d i v (by lia)⟩
 | succ fuel g =>
  intro lo a f l n e d;unfold SetTable.below.go;by_cases hl:lo<a
  .rw[if_pos hl];dsimp only;have k:(lo+a) / 2<xs.size:=by lia
   have hg:xs[(lo+a) / 2]?=some (xs.getD ((lo+a) / 2) j):=by
    rw[Array.getD_eq_getD_getElem?,UG k]
    rfl
   generalize xs.getD ((lo+a) / 2) j=m at hg ⊢;by_cases hq:m<j
   .rw[if_pos hq];refine g _ _ f (by lia) (by lia) (λi v c b=>?_) d;rcases Nat.lt_or_ge i ((lo+a) / 2) with z | z
    .exact Nat.lt_trans (h.lt z b hg) hq
    .obtain rfl:i=(lo+a) / 2:=by lia
     rw[hg] at b;cases b;exact hq
   .rw[if_neg hq];refine g _ _ (by lia) (by lia) (by lia) e λi v c b=>?_
    rcases Nat.lt_or_ge ((lo+a) / 2) i with z | z
    .have:=h.lt z hg b;lia
    .obtain rfl:i=(lo+a) / 2:=by lia
     rw[hg] at b;cases b;lia
  .rw[if_neg hl];exact⟨by lia,e,λi v c=>d i v (by lia)⟩
def qj(h:Up xs):below xs j<=xs.size/\(∀ i v,i<below xs j->xs[i]?=some v->v<j)/\(∀ i v,below xs j<=i->xs[i]?=some v->j<=v):=by
 unfold SetTable.below;refine Hu h _ _ _ (ql _) (Nat.zero_le _) (by lia) (λi v a=>absurd a (Nat.not_lt_zero _)) λi v a b=>?_
 rw[Array.getElem?_eq_none a] at b;cases b
def below_at(h:Up xs)(hi:i<=xs.size)(h1:∀ k v,k<i->xs[k]?=some v->v<j)(h2:∀ k v,i<=k->xs[k]?=some v->j<=v):below xs j=i:=by
 obtain⟨a,b,c⟩:=qj h;rcases Nat.lt_trichotomy (below xs j) i with z | z | z
 .have e:=UG (xs:=xs) (i:=below xs j) (by lia);have:=h1 _ _ z e;have:=c _ _ (ql _) e;lia
 .exact z
 .have e:=UG (xs:=xs) (i:=i) (by lia);have:=h2 _ _ (ql _) e;have:=b _ _ z e;lia
def Ao(h:Up xs):below xs 0=0:=below_at h (Nat.zero_le _) (λk v a=>absurd a (Nat.not_lt_zero _)) λ_ _ _ _=>Nat.zero_le _
def zL{i v:Nat}(h:Up xs)(hv:xs[i]?=some v):below xs (v+1)=i+1:=by
 have c:i<xs.size:=by
  rcases Nat.lt_or_ge i xs.size with z | z
  .exact z
  .rw[Array.getElem?_eq_none z] at hv;cases hv
 refine below_at h c (λk u b a=>?_) λk u b a=>h.lt b hv a
 rcases Nat.lt_or_ge k i with z | z
 .exact XH (h.lt z a hv)
 .obtain rfl:k=i:=by lia
  rw[hv] at a;cases a;exact Nat.lt_succ_self _
def xG{α:Type}(xs:Array α)(p:Nat)(x:α):(SetTable.insertAt xs p x).toList=xs.toList.take p++x::xs.toList.drop p:=by
 unfold SetTable.insertAt;rw[Array.toList_append,Array.toList_push,Array.toList_extract,Array.toList_extract,List.extract_eq_take_drop,List.extract_eq_take_drop];have e:(xs.toList.drop p).take (xs.size - p)=xs.toList.drop p:=take_of_length_le (by rw[length_drop,Xj];lia);rw[e,drop_zero,Nat.sub_zero,append_assoc]
 rfl
def vD{j:Nat}(h:Up xs)(hn:xs[below xs j]?≠some j):Up (SetTable.insertAt xs (below xs j) j):=by
 obtain⟨a,b,c⟩:=qj h;have k:=h;unfold Up at k ⊢;rw[xG];rw[← List.take_append_drop (below xs j) xs.toList] at k;obtain⟨o,r,m⟩:=pairwise_append.mp k;have n:∀ x∈xs.toList.take (below xs j),x<j:=λx d=>by
  obtain⟨i,f,e⟩:=mem_iff_getElem.mp d;rw[length_take] at f;rw[getElem_take] at e;exact b i x (by lia) (by rw[← Array.getElem?_toList];exact pN.mpr ⟨by lia,e⟩)
 have p:∀ x∈xs.toList.drop (below xs j),j<x:=λx d=>by
  obtain⟨i,f,e⟩:=mem_iff_getElem.mp d;rw[length_drop] at f;rw[List.getElem_drop] at e;have q:xs[below xs j+i]?=some x:=by rw[← Array.getElem?_toList];exact pN.mpr ⟨by lia,e⟩
  have:=c _ _ (Nat.le_add_right _ _) q;rcases Nat.lt_or_ge j x with z | z
  .exact z
  .exfalso;obtain rfl:x=j:=by lia
   cases i with
   | zero=>exact hn q
   | succ i =>
    have l:=UG (xs:=xs) (i:=below xs x) (by rw[Xj] at f;lia);have:=h.lt (by lia) l q;have:=c _ _ (ql _) l;lia
 refine pairwise_append.mpr ⟨o,List.pairwise_cons.mpr ⟨p,r⟩,λx d y g=>?_⟩;rcases mem_cons.mp g with rfl | g
 .exact n x d
 .exact m x d y g
def qG{t:SetTable}{j:Nat}(h:t.slot j=.empty):t.place[below t.place j]?≠some j:=by
 intro e;unfold SetTable.slot at h;dsimp only at h;rw[e] at h;simp at h
def Ky(N:Nat)(f:Nat->Option Nat):Up (((List.range N).filterMap λj=>(f j).map (j,·)).map (·.1)).toArray:=by
 show List.Pairwise (· < ·) (((List.range N).filterMap λj=>(f j).map (j,·)).map (·.1));rw[List.map_filterMap,List.pairwise_filterMap];refine List.Pairwise.imp ?_ List.pairwise_lt_range;intro a b e x d y c;cases ha:f a <;> rw[ha] at d <;> simp at d
 cases hb:f b <;> rw[hb] at c <;> simp at c
 lia
def holes:∀(N:Nat)(l:List Nat),(∀ r,r<N->r∈l)->N<=l.length:=by
 intro N
 induction N with
 | zero=>intro l _;exact Nat.zero_le _
 | succ N b =>
  intro l h;have a:=h N (by lia);have:=b (l.erase N) λr c=>(List.mem_erase_of_ne (by lia)).mpr (h r (by lia))
  rw[List.length_erase_of_mem a] at this;have:=length_pos_of_mem a;lia
def hole{N:Nat}{l:List Nat}(h:l.length<N):∃ r,r<N/\r ∉ l:=by
 by_cases z:∃ r,r<N/\r ∉ l
 .exact z
 .have:=holes N l λr a=>by
   by_cases q:r∈l
   .exact q
   .exact absurd ⟨r,a,q⟩ z
  lia
structure TOk(t:SetTable)(n:Nat):Prop where
 k:∃ k,t.mask+1=2^k
 d:t.dummies = #[]
 sz:t.place.size=n
 room:n<=t.mask
 o:t.mask%2=1
 up:Up t.place
def TOk.empty{t:SetTable}{n:Nat}(h:TOk t n):∃ r,r<=t.mask/\t.slot r=.empty:=by
 obtain⟨r,b,a⟩:=hole (N:=t.mask+1) (by rw[Xj,h.sz];have:=h.room;lia);refine⟨r,by lia,?_⟩;unfold SetTable.slot;simp only;rw[if_neg,if_neg]
 .unfold SetTable.has;rw[h.d];simp
 .intro z;refine a ?_;have z:=eq_of_beq z;rw[← Array.getElem?_toList] at z;exact Xu z
def TOk.dist(h:TOk t n)(hq:q.more<=9)(hp:q.perturb<2^64):∃ d,d<=10*(t.mask+14)/\Eo t q d:=by
 obtain⟨k,c⟩:=h.k;obtain⟨r,a,he⟩:=h.empty;obtain⟨d,hd,e⟩:=meets c hq hp a;obtain⟨b,g,f⟩:=M5 d (by rw[e];exact he);exact⟨b,by lia,f⟩
def rG(t:SetTable)(h:Int):(t.probeStart h).more<=9/\(t.probeStart h).perturb<2^64/\(t.probeStart h).dummy=none:=by
 refine⟨Dn _ _,?_,rfl⟩;show bits h<2^64;unfold bits;lia
def vals(N:Nat)(owner:Array (Option Nat)):List Nat:=(List.range N).filterMap λj=>owner.getD j none
def Gb{mask:Nat}:∀(n fuel i p:Nat),n<fuel->(owner.getD (fJ mask n (i,p)).1 (some 0))=none->∃ j,SetTable.layClean.free mask owner fuel i p=some j/\owner.getD j (some 0)=none:=by
 intro n
 induction n with
 | zero =>
  intro fuel i p a he;obtain⟨fuel,rfl⟩:∃ f,fuel=f+1:=⟨fuel - 1,by lia⟩
  unfold SetTable.layClean.free;cases hq:(List.range (runEnd mask i+1 - i)).find? λk=>(owner.getD (i+k) (some 0)).isNone with
  | some k =>
   refine⟨i+k,rfl,?_⟩;have:=find?_some hq
   simpa using this
  | none =>
   exfalso;have b:=find?_eq_none.mp hq 0 (mem_range.mpr (by unfold runEnd;split <;> lia));have he:owner.getD i (some 0)=none:=he;refine b ?_;rw[Nat.add_zero,he]
   rfl
 | succ n c =>
  intro fuel i p a he;obtain⟨fuel,rfl⟩:∃ f,fuel=f+1:=⟨fuel - 1,by lia⟩
  unfold SetTable.layClean.free;cases hq:(List.range (runEnd mask i+1 - i)).find? λk=>(owner.getD (i+k) (some 0)).isNone with
  | some k =>
   refine⟨i+k,rfl,?_⟩;have:=find?_some hq
   simpa using this
  | none=>exact c fuel _ _ (by lia) he
def GR(hs:owner.size=N)(hj:owner.getD j (some 0)=none):(vals N (owner.setIfInBounds j (some m))).Perm (m::vals N owner):=by
 have n:j<N:=by
  rw[← hs];rcases Nat.lt_or_ge j owner.size with h | h
  .exact h
  .rw[Array.getD_eq_getD_getElem?,Array.getElem?_eq_none h] at hj;cases hj
 have c:owner.getD j none=none:=by
  rw[Array.getD_eq_getD_getElem?,UG (by lia)] at hj ⊢;exact hj
 have b:(owner.setIfInBounds j (some m)).getD j none=some m:=by
  rw[Array.getD_eq_getD_getElem?,Array.getElem?_setIfInBounds,if_pos rfl,if_pos (by lia)]
  rfl
 have a:∀ i,i≠j->(owner.setIfInBounds j (some m)).getD i none=owner.getD i none:=λi q=>by
  rw[Array.getD_eq_getD_getElem?,Array.getD_eq_getD_getElem?,Array.getElem?_setIfInBounds,if_neg (by lia)]
 obtain⟨r,rfl⟩:∃ r,N=j+(r+1):=⟨N - j - 1,by lia⟩
 have k:∀ {f g:Nat->Option Nat}{l:List Nat},(∀ x∈l,f x=g x)->l.filterMap f=l.filterMap g:=fun {f g l} h=>by
  induction l with
  | nil=>rfl
  | cons x l o=>rw[filterMap_cons,filterMap_cons,h x Xl,o λy p=>h y (Xm _ p)]
 have e:List.range (j+(r+1))=List.range j++j::(List.range r).map λx=>j+(x+1):=by
  rw[List.range_add,List.range_succ_eq_map,map_cons,map_map]
  rfl
 unfold vals;rw[e,List.filterMap_append,List.filterMap_append,filterMap_cons,filterMap_cons,b,c];rw[k λx d=>a x (by have:=mem_range.mp d;lia)];rw[k (g:=λi=>owner.getD i none) (l:=(List.range r).map λx=>j+(x+1)) λx d=>by
  obtain⟨y,_,rfl⟩:=mem_map.mp d;exact a _ (by lia)]
 exact perm_middle
def HY(N:Nat):vals N (Array.replicate N none)=[]:=by
 unfold vals;rw[List.filterMap_eq_nil_iff];intro j a;rw[Array.getD_eq_getD_getElem?,Array.getElem?_replicate];split <;> rfl
def Dm{mask:Nat}(hs:owner.size=mask+1)(h:(vals (mask+1) owner).length<=mask):∃ r,r<=mask/\owner.getD r (some 0)=none:=by
 by_cases z:∃ r,r<=mask/\owner.getD r (some 0)=none
 .exact z
 .exfalso;have:(vals (mask+1) owner).length=mask+1:=by
   unfold vals;have:∀ l:List Nat,(∀ x∈l,x<=mask)->(l.filterMap λj=>owner.getD j none).length=l.length:=λl c=>by
    induction l with
    | nil=>rfl
    | cons x l d =>
     have b:=c x Xl;have a:∃ v,owner.getD x none=some v:=by
      rw[Array.getD_eq_getD_getElem?,UG (by lia)];cases q:owner[x] with
      | none=>exact absurd ⟨x,b,by rw[Array.getD_eq_getD_getElem?,UG (by lia),q];rfl⟩ z
      | some v=>exact⟨v,rfl⟩
     obtain⟨v,a⟩:=a;rw[filterMap_cons,a];show(l.filterMap _).length+1=l.length+1;rw[d λy e=>c y (Xm _ e)]
   rw[this _ λx b=>by have:=mem_range.mp b;lia,length_range]
  lia
def Hj{mask k:Nat}(hm:mask+1=2^k):∀(b:List Int)(owner:Array (Option Nat))(m:Nat),owner.size=mask+1->(vals (mask+1) owner).Perm (List.range m)->m+b.length<=mask ->
  ∃ a:Array (Option Nat),(b.foldl (λ(i:Option (Array (Option Nat) × Nat)) h=>do
   let (owner,k) ← i
   let j ← SetTable.layClean.free mask owner (turns mask) (bits h%(mask+1)) (bits h)
   pure (owner.setIfInBounds j (some k),k+1)) (some (owner,m)))=some (a,m+b.length)/\a.size=mask+1/\(vals (mask+1) a).Perm (List.range (m+b.length)):=by
 intro b
 induction b with
 | nil=>intro owner m c d _;exact⟨owner,rfl,c,d⟩
 | cons h b s =>
  intro owner m c d v;rw[length_cons] at v;obtain⟨r,l,he⟩:=Dm c (by rw[d.length_eq,length_range];lia);have w:bits h<2^64:=(rG (SetTable.fresh 0 0 true) h).2.1;obtain⟨n,_,x,e⟩:=ud hm w l;obtain⟨j,f,g⟩:=Gb n (turns mask) (bits h%(mask+1)) (bits h) (by unfold turns;lia) (by rw[e];exact he);have p:(vals (mask+1) (owner.setIfInBounds j (some m))).Perm (List.range (m+1)):=by
   refine(GR c g).trans ?_;rw[List.range_succ];exact(d.cons m).trans (List.perm_append_singleton m (List.range m)).symm
  obtain⟨q,o,t,u⟩:=s (owner.setIfInBounds j (some m)) (m+1) (by rw[Array.size_setIfInBounds];exact c) p (by lia);refine⟨q,?_,t,?_⟩
  .rw[foldl_cons,length_cons,show m+(b.length+1)=m+1+b.length by lia,← o];congr 1;show(SetTable.layClean.free mask owner (turns mask) (bits h%(mask+1)) (bits h)).bind _=_;rw[f]
   rfl
  .rw[length_cons,show m+(b.length+1)=m+1+b.length by lia];exact u
def La{mask k finger moves:Nat}{led plain:Bool}(hm:mask+1=2^k)(ho:mask%2=1)(hn:hashes.size<=mask):∃(t:SetTable)(order:Array Nat),SetTable.laid mask finger moves led plain hashes=some (t,order)/\TOk t hashes.size/\order.toList.Perm (List.range hashes.size)/\t.mask=mask/\t.plain=plain/\t.led=led:=by
 obtain⟨a,e,g,c⟩:=Hj hm hashes.toList (Array.replicate (mask+1) none) 0 (Array.size_replicate ..) (by rw[HY];exact List.Perm.refl _) (by rw[Xj];lia);rw[Nat.zero_add,Xj] at e c;have f:SetTable.layClean mask hashes=some a:=by
  unfold SetTable.layClean;rw[← Array.foldl_toList,e]
  rfl
 have d:(((List.range (mask+1)).filterMap λj=>(a.getD j none).map (j,·)).map (·.2))=vals (mask+1) a:=by
  unfold vals;rw[List.map_filterMap];congr 1
  funext j
  cases a.getD j none <;> rfl
 have b:((List.range (mask+1)).filterMap λj=>(a.getD j none).map (j,·)).length=hashes.size:=by
  have:=congrArg List.length d;rw[XF] at this;rw[this,c.length_eq,length_range]
 refine⟨_,_,by unfold SetTable.laid;rw[f];rfl,⟨⟨k,hm⟩,rfl,?_,hn,ho,Ky _ _⟩,?_,rfl,rfl,rfl⟩
 .show(((List.range (mask+1)).filterMap λj=>(a.getD j none).map (j,·)).map (·.1)).toArray.size=_;rw[XM,XF,b]
 .show(((List.range (mask+1)).filterMap λj=>(a.getD j none).map (j,·)).map (·.2)).toArray.toList.Perm _;rw[List.toList_toArray,d];exact c
def Kv:∀(fuel a n:Nat),∃ k,SetTable.sizeAbove.go n fuel (2^a)=2^k/\a<=k/\(n<2^(a+fuel)->n<2^k)/\(k=a\/2^k<=2*n):=by
 intro fuel
 induction fuel with
 | zero=>intro a n;exact⟨a,rfl,ql _,λh=>h,.inl rfl⟩
 | succ fuel d =>
  intro a n;unfold SetTable.sizeAbove.go;by_cases h:2^a<=n
  .rw[if_pos h,show 2^a*2=2^(a+1) from(Nat.pow_succ ..).symm];obtain⟨k,e,f,c,b⟩:=d (a+1) n;refine⟨k,e,by lia,λz=>c (by rw[show a+1+fuel=a+(fuel+1) by lia];exact z),?_⟩;rcases b with b | b
   .refine .inr ?_;rw[b,Nat.pow_succ];lia
   .exact .inr b
  .rw[if_neg h];exact⟨a,rfl,ql _,λ_=>by lia,.inl rfl⟩
def lW(h:n<2^60):∃ k,SetTable.sizeAbove n=2^k/\3<=k/\n<2^k/\(2^k=8\/2^k<=2*n):=by
 obtain⟨k,e,c,b,a⟩:=Kv 64 3 n;refine⟨k,e,c,b (Nat.lt_trans h (by decide)),?_⟩;rcases a with rfl | a
 .exact .inl rfl
 .exact .inr a
def ur{t:SetTable}{hashes:Array Int}{wanted:Nat}(hw:wanted<2^60)(hn:hashes.size<=wanted)(h0:1<=wanted):∃(t':SetTable)(a:Array Nat),t.relaid hashes wanted=some (t',a)/\TOk t' hashes.size/\a.toList.Perm (List.range hashes.size)/\t'.plain=t.plain/\t'.led=t.led/\(t'.mask<=7\/t'.mask+1<=2*wanted)/\wanted<=t'.mask:=by
 obtain⟨k,e,l,i,j⟩:=lW hw;obtain⟨t',a,g,c,d,b,h,f⟩:=La (mask:=2^k - 1) (k:=k) (hashes:=hashes) (by lia) (by obtain⟨r,rfl⟩:∃ r,k=r+1:=⟨k - 1,by lia⟩;rw[Nat.pow_succ] at i ⊢;lia) (by lia);refine⟨t',a,by unfold SetTable.relaid;rw[e];exact g,c,d,h,f,by rw[b];lia,by rw[b];lia⟩
section
variable {prog:Program}{w:World}{A:Around}{E:Value->Shared->Prop}{s:Shared}
def DQ(t:SetTable):∀(d:Nat)(q:Probe),(adv t d q).dummy=q.dummy:=by
 intro d
 induction d with
 | zero=>intro q;rfl
 | succ d a =>
  intro q;show(adv t d (t.advance q)).dummy=_;rw[a];unfold SetTable.advance;split <;> rfl
theorem Eo.shift:∀ {e d:Nat},Eo t q d->e<=d->Eo t (adv t e q) (d - e)
 | 0,_,h,_=>h
 | e+1,d,h,he=>by
  obtain⟨d,rfl⟩:∃ d',d=d' + 1:=⟨d - 1,by lia⟩
  rw[show d+1 - (e+1)=d - e by lia];exact Eo.shift h.next (by lia)
def DY{t:SetTable}{j i:Nat}(h:t.slot j=.live i):t.place[i]?=some j:=by
 unfold SetTable.slot at h
 grind
def dg{α β:Type}{f:α->β}{xs ds:List β}(h:xs.Perm ds):∀ {l:List α},l.map f=xs->∃ c:List α,c.Perm l/\ds=c.map f:=by
 induction h with
 | nil=>intro l e;exact⟨[],by rw[List.map_eq_nil_iff.mp e],rfl⟩
 | cons x _ m =>
  intro l e;cases l with
  | nil=>cases e
  | cons y l =>
   rw[map_cons] at e;injection e with e1 e2;obtain⟨c,p,q⟩:=m e2;exact⟨y::c,p.cons y,by rw[map_cons,e1,q]⟩
 | swap x y zs =>
  intro l e
  match l,e with
  | a::b::l,e =>
   rw[map_cons,map_cons] at e;injection e with e1 e2;injection e2 with e2 e3;exact⟨b::a::l,List.Perm.swap a b l,by rw[map_cons,map_cons,e1,e2,e3]⟩
 | trans _ _ g d =>
  intro l e;obtain⟨c,p,q⟩:=g e;obtain⟨k,j,i⟩:=d q.symm;exact⟨k,j.trans p,i⟩
def jF{α:Type}(xs:Array α)(p:Nat)(x:α):(SetTable.insertAt xs p x).toList.Perm (x::xs.toList):=by
 unfold SetTable.insertAt;rw[Array.toList_append,Array.toList_push,Array.toList_extract,Array.toList_extract,List.extract_eq_take_drop,List.extract_eq_take_drop];have e:(xs.toList.drop p).take (xs.size - p)=xs.toList.drop p:=take_of_length_le (by rw[length_drop,Xj];lia);rw[e,drop_zero,Nat.sub_zero,append_assoc];refine(perm_middle (a:=x)).trans ?_;show(x::(List.take p xs.toList++List.drop p xs.toList)).Perm (x::xs.toList);rw[List.take_append_drop]
def eF{α:Type}(xs:Array α)(p:Nat)(x:α):(SetTable.insertAt xs p x).size=xs.size+1:=by
 have:=(jF xs p x).length_eq
 grind
end
end ST
namespace SX
open PySem PySem.Spec PyProof.Rows
set_option maxHeartbeats 6400000 in
def rP{E:Value->Shared->Prop}(a:Value){Q₁:Value->Shared->Prop}
  (h:Q₁ (.ref s.heap.objs.size) { s with heap:=s.heap.push { cls:=.type "set",dict:=none,data:=.set #[] 0 (.fresh 0 0 (!w.params.followText "set-order")) } }) :
  codeAny (model prog w) A (.call (.builtin "set.__new__") ⟨[.type "set",a],[]⟩) (wants Q₁ E) s:=by
 refine codeAny_of_tree ?_;show wpAny _ A.in1 (do checkBuiltinCall "set.__new__" ⟨[.type "set",a],[]⟩;again (.builtin "set.__new__" ⟨[.type "set",a],[]⟩)) _ _ s;refine ni (wpAny_of_eq (F.newCall_set_1 a) (nF ⟨plainId_quiet F.plain_set_new _,codeAny_builtin F.entry_set_new ?_⟩));rw[Around.under_plainId F.plain_set_new _];unfold Builtin.«set.__new__» Builtin.Frozenset.newClass;have b:=sub_set_self;obtain⟨c,g,d,tk,os⟩:=s;dsimp only
 wp_walk
 refine wpAny_askSetting (nF ?_);dsimp only;simp only[newObj];refine ni (wpAny_alloc (nF ?_));exact nF h
end SX
namespace SA
open PySem PySem.Spec PyProof.Rows
def ji{α:Type}{l:List α}(h:i<l.length):(l[i]::l.eraseIdx i).Perm l:=by
 have e:l=l.take i++l[i]::l.drop (i+1):=by
  rw[List.getElem_cons_drop,List.take_append_drop]
 rw[List.eraseIdx_eq_take_drop_succ];exact(perm_middle.symm).trans (by rw[← e])
theorem Ca{α:Type}(next:Nat->Nat):∀(fuel k:Nat)(left:List α)(out:Array α),left.length<=fuel->(pickOrder.go next fuel k left out).toList.Perm (out.toList++left)
 | 0,k,left,out,h=>by
  have e:left=[]:=List.length_eq_zero_iff.mp (by lia);subst e;rw[pickOrder.go,append_nil]
 | fuel+1,k,left,out,h=>by
  rw[pickOrder.go];cases hx:left[next k%left.length]? with
  | none =>
   have e:left=[]:=by
    cases left with
    | nil=>rfl
    | cons a r =>
     have:=List.getElem?_eq_none_iff.mp hx;have:=Nat.mod_lt (next k) (show 0<(a::r).length by simp);lia
   subst e;rw[append_nil]
  | some x =>
   obtain⟨b,ex⟩:=pN.mp hx;refine(Ca next fuel (k+1) (left.eraseIdx (next k%left.length)) (out.push x) ?_).trans ?_
   .grind
   .rw[Array.toList_push,append_assoc];refine List.Perm.append_left _ ?_;rw[← ex];exact ji b
def Fi{α:Type}(next:Nat->Nat)(xs:Array α):(pickOrder next xs).toList.Perm xs.toList:=by
 have:=Ca next xs.size 0 xs.toList #[] (by simp)
 simpa [pickOrder] using this
end SA
namespace SI
open PySem PySem.Spec PyProof.Rows PySem.SetTable
def aJ:Slot "set_iterator" "__next__" "set_iterator.__next__" :=
 .of (owner:="set_iterator") (n:="__next__") (by rw[typeLookup_type,builtinLookup_eq_fast];kernel_rfl) (by decide +kernel) (by decide +kernel) (by decide +kernel)
  (by first | exact .inl (by decide +kernel) | exact .inr (by decide +kernel)) (by rw[isSubtype_type];kernel_rfl)
def bR:entryFor table "set_iterator.__next__" = some Builtin.«set_iterator.__next__»:=entryFor_of_tree (by kernel_rfl)
def fQ:Manifest.owners.lookup (String.ofList ['r','o','t','a','r','e','t','i','_','t','e','s'].reverse)=some Manifest.sig_set_iterator:=by kernel_rfl
def bL(a:Value):argsOk "set_iterator.__next__" ⟨[a],[]⟩:=by
 unfold argsOk;rw[signature?_of (id:="set_iterator.__next__") (n:=['_','_','t','x','e','n','_','_']) (o:=['r','o','t','a','r','e','t','i','_','t','e','s']) (by kernel_rfl) fQ];kernel_rfl
def jq:entryFor table "set.__iter__" = some Builtin.«frozenset.__iter__»:=entryFor_alias (id':="frozenset.__iter__") (by kernel_rfl) rfl (by decide +kernel) (by kernel_rfl)
def itO(slot i:Nat)(S:Addr)(n ep:Nat):Obj:={ cls:=.type "set_iterator",data:=.fields #[.int slot 0,.int i 0,.ref S,.int n 0,.int ep 0] }
section
variable {prog:Program}{w:World}{A:Around}{E:Value->Shared->Prop}{s:Shared}{I S:Addr}{o:Obj}{es:Array (Int × Value)}{ep slot i:Nat}{t:SetTable}
def byT(w:World):Bool:=w.params.followText "set-order"
def ord(w:World)(S:Addr)(es:Array (Int × Value))(ep:Nat):Array (Int × Value):=if byT w=true then pickOrder (w.params.setOrder S ep) es else es
end
def bY:Slot "set_iterator" "__iter__" "set_iterator.__iter__" :=
 .of (owner:="set_iterator") (n:="__iter__") (by rw[typeLookup_type,builtinLookup_eq_fast];kernel_rfl) (by decide +kernel) (by decide +kernel) (by decide +kernel)
  (by first | exact .inl (by decide +kernel) | exact .inr (by decide +kernel)) (by rw[isSubtype_type];kernel_rfl)
def dX:entryFor table "set_iterator.__iter__" = some Builtin.«dict_keyiterator.__iter__»:=entryFor_alias (id':="dict_keyiterator.__iter__") (by kernel_rfl) rfl (by decide +kernel) (by kernel_rfl)
def dG(a:Value):argsOk "set_iterator.__iter__" ⟨[a],[]⟩:=by
 unfold argsOk;rw[signature?_of (id:="set_iterator.__iter__") (n:=['_','_','r','e','t','i','_','_']) (o:=['r','o','t','a','r','e','t','i','_','t','e','s']) (by kernel_rfl) fQ];kernel_rfl
def zT:typeLookup (.type "set") "__len__" = pure (some (.builtin "set.__len__")):=by rw[typeLookup_type,builtinLookup_eq_fast];kernel_rfl
section
variable {prog:Program}{w:World}{A:Around}{E:Value->Shared->Prop}{s:Shared}{I S:Addr}{o:Obj}{es:Array (Int × Value)}{ep slot i:Nat}{t:SetTable}
def sH:(ord w S es ep).toList.Perm es.toList:=by
 unfold ord;split
 .exact SA.Fi _ _
 .exact List.Perm.refl _
def sX:(ord w S es ep).size=es.size:=by
 have:=(sH (w:=w) (S:=S) (es:=es) (ep:=ep)).length_eq
 grind
def StS(w:World)(I S:Addr)(o:Obj)(es:Array (Int × Value))(ep:Nat)(t:SetTable)(i:Nat)(s:Shared):Prop :=
 ∃ slot,s.heap.get? I=some (itO slot i S es.size ep)/\s.heap.get? S=some o/\(byT w=false->below t.place slot=i)
def hint{Q:Bool->Shared->Prop}(hT:s.TypeIs (.ref S) "set")(h:Q false s):wpAny (model prog w) A (Builtin.List.listLengthHint (.ref S)) Q E s:=by
 unfold Builtin.List.listLengthHint;refine ni (wpAny_specialOf hT zT ?_);generalize hid:("set.__len__" : String)=id0
 wp_delta
 rw[show splitId id0=some ("set","__len__") from by subst hid;decide +kernel];subst hid;refine ni (wpAny_isInstance (T:="set") (b:=true) hT (by rw[isSubtype_type];kernel_rfl) ?_);refine wpAny_ite_split (λa=>absurd a (by decide)) (λ_=>?_);refine wpAny_ite_split (λ_=>?_) (λa=>absurd (by decide +kernel) a);refine ni (wpAny_typeOf hT ?_);exact nF h
def Bu{Q:Value->Shared->Prop}(ho:s.heap.get? S=some o)(hc:o.cls=.type "set")(hd:o.data=.set es ep t)(hf:t.fits es.size=true)(hpl:byT w=true\/t.plain=true\/es.size<=1)
  (q:Q (.ref s.heap.objs.size) { s with heap:=s.heap.push (itO 0 0 S es.size ep) }):wpAny (model prog w) A (pyIter (.ref S)) Q E s:=by
 have ty:s.TypeIs (.ref S) "set":=⟨o,ho,hc⟩
 tm_at"g";refine wpAny_ite_split (λa=>absurd (show((!byT w) && (!t.plain && decide (es.size>1)))=true from a) (by rcases hpl with z | z | z <;> simp[z];try lia)) λ_=>ni (nF ?_)
 unfold setEpoch;refine ni (ni (wpAny_setState_of ho hd hf (nF ?_)));unfold newFields;refine ni (XQ (nF ⟨_,rfl,"set_iterator",_,⟨_,Q0 _ rfl,rfl⟩,aJ.lookup,?_⟩) (by simp[sizeOk,sizeLine_eq]));exact q
def qM{Q:Option (Value × Nat)->Shared->Prop}(ho:s.heap.get? S=some o)(hd:o.data=.set es ep t)(hf:t.fits es.size=true)(hsz:t.place.size=es.size)(hup:ST.Up t.place)(hpl:byT w=true\/t.plain=true\/es.size<=1)
  (c:byT w=false->t.led=true/\below t.place slot=i)
  (q1:∀ e b,(ord w S es ep)[i]?=some e->(byT w=false->below t.place b=i+1)->Q (some (e.2,b)) s)
  (q2:(ord w S es ep)[i]?=none->Q none s):wpAny (model prog w) A (setNext S slot i ep) Q E s:=by
 unfold setNext setsByText;refine ni (wpAny_setState_of ho hd hf (ni (ni (wpAny_askSetting (nF ?_)))));refine wpAny_ite_split (λa=>?_) λa=>?_
 .have a:byT w=true:=a;rw[if_neg (by simp)];refine ni ?_;unfold setWalk setsByText;refine ni (wpAny_setState_of ho hd hf (ni (ni (wpAny_askSetting (nF ?_)))));refine wpAny_ite_split (λ_=>?_) λh=>absurd a h
  refine ni (wpAny_askSetting (nF (nF ?_)));have e:ord w S es ep=pickOrder (w.params.setOrder S ep) es:=by unfold ord;rw[if_pos a]
  show Q (Option.map (λe=>(e.2,slot)) (pickOrder (w.params.setOrder S ep) es)[i]?) s
  grind
 .have a:byT w=false:=by
   cases z:byT w with
   | false=>rfl
   | true=>exact absurd z a
  have d:=a;obtain⟨g,c⟩:=c a;refine wpAny_ite_split (λa=>absurd (show(!t.plain && decide (es.size>1))=true from a) (by rcases hpl with z | z | z;(exact absurd (z.symm.trans d) (by decide));(simp[z]);(simp;intro _;lia))) λ_=>?_
  refine ni ?_;show wpAny _ _ (if (!t.led && !es.isEmpty)=true then _ else _) _ _ _;rw[if_neg (by rw[g];simp)];refine nF ?_;dsimp only;rw[c];have e:ord w S es ep=es:=by unfold ord;rw[if_neg (by rw[a];decide)]
  rw[e] at q1 q2;cases hx:es[i]? with
  | none=>exact nF (q2 hx)
  | some x =>
   have j:i<es.size:=(Array.getElem?_eq_some_iff.mp hx).1;have f:t.place[i]?=some (t.place[i]'(by lia)):=UG (by lia);rw[f];exact nF (q1 x _ hx λ_=>ST.zL hup f)
def Gh{Q:Option Value->Shared->Prop}(ti:s.heap.get? I=some (itO slot i S es.size ep))(ho:s.heap.get? S=some o)(hd:o.data=.set es ep t)(hf:t.fits es.size=true)(hsz:t.place.size=es.size)(hup:ST.Up t.place)(hpl:byT w=true\/t.plain=true\/es.size<=1)
  (c:byT w=false->t.led=true/\below t.place slot=i)(hi:(ord w S es ep)[i]?≠none)
  (q:∀ g e a,(ord w S es ep)[i]?=some e->g.get? I=some (itO a (i+1) S es.size ep)->Heap.SameBut I s.heap g->(byT w=false->below t.place a=i+1)->Q (some e.2) { s with heap:=g }):wpAny (model prog w) A (pyNext (.ref I)) Q E s:=by
 have ty:s.TypeIs (.ref I) "set_iterator":=⟨_,ti,rfl⟩
 unfold pyNext;refine ni (wpAny_attempt (wpAny_callSpecial?_slot (name:=Str.ofString "__next__") ty aJ (Xy aJ ty bR ?_ (bL _))));tm_at"e";dsimp only;rw[Int.toNat_natCast,Int.toNat_natCast,Int.toNat_natCast];refine ni (qM ho hd hf hsz hup hpl c (λe a he j=>?_) λz=>absurd z hi);refine ni (wpAny_setField_rec ti (by simp) λl f k=>?_);refine ni (wpAny_setField_rec f (by simp) λd b h=>?_);replace b:d.get? I=some (itO a (i+1) S es.size ep):=by
  have z:((i+1:Nat):Int)=(i:Int)+1:=by lia
  unfold itO;rw[z];simpa [rawInt] using b
 exact nF ⟨_,rfl,nF (q d e a he b (k.trans h) j)⟩
def Hv{Q:Option Value->Shared->Prop}(hh:A.handled=none)(ti:s.heap.get? I=some (itO slot i S es.size ep))(ho:s.heap.get? S=some o)(hd:o.data=.set es ep t)(hf:t.fits es.size=true)(hsz:t.place.size=es.size)(hup:ST.Up t.place)(hpl:byT w=true\/t.plain=true\/es.size<=1)
  (d:byT w=false->t.led=true/\below t.place slot=i)(hi:(ord w S es ep)[i]?=none)
  (q:∀ g,Heap.ExtBut I s.heap g->Q none { s with heap:=g }):wpAny (model prog w) A (pyNext (.ref I)) Q E s:=by
 have ty:s.TypeIs (.ref I) "set_iterator":=⟨_,ti,rfl⟩
 unfold pyNext;refine ni (wpAny_attempt (wpAny_callSpecial?_slot (name:=Str.ofString "__next__") ty aJ (Xy aJ ty bR ?_ (bL _))));tm_at"e";dsimp only;rw[Int.toNat_natCast,Int.toNat_natCast,Int.toNat_natCast];refine ni (qM ho hd hf hsz hup hpl d (λe c he f=>absurd (he.symm.trans hi) (by simp)) λ_=>?_);refine ni (wpAny_setField ti rfl (by simp) ?_);refine ni ?_;simp only[newExc,newTuple];refine ni (XQ ?_ (by size_fits));refine ni (m:=firstArgMember _ _) (wpAny_of_eq (a:=Value.none) (by first | rfl | (simp only[firstArgMember];rfl)) ?_);refine XQ ?_ (by size_fits);simp only[raiseNew];refine ni (wpAny_handled ?_);rw[show A.in1.handled=none from hh];refine ni (nF (wpAny_throw ?_));refine ni (wpAny_isInstance (T:="StopIteration") (b:=true) ⟨_,Q0 _ rfl,rfl⟩ isSubtype_stop ?_);exact nF (q _ (((Heap.SameBut.update ..).extBut.push _).push _))
def Qh(hh:A.handled=none)(hIS:S≠I)(hd:o.data=.set es ep t)(hf:t.fits es.size=true)(hsz:t.place.size=es.size)(hup:ST.Up t.place)(hpl:byT w=true\/t.plain=true\/es.size<=1)(k:byT w=false->t.led=true) :
  WalksS prog w A I [I,S] [I] (λa b=>b=a) es.size (λi v=>∃ e,(ord w S es ep)[i]?=some e/\v=e.2) (StS w I S o es ep t) where
 sub:=λb h=>by
  grind
 grefl:=λ_=>rfl
 gtrans:=λ_ _ _ c d=>d.trans c
 frame:=λi s h' tk ⟨slot,c,d,l⟩ _ n=>⟨slot,n I Xl _ c,n S (Xm _ Xl) _ d,l⟩
 item:=λi s Q E q ⟨slot,c,d,l⟩ j=>by
  refine Gh c d hd hf hsz hup hpl (λz=>⟨k z,l z⟩) ?_ λg e f he hg p h=>?_
  .rw[UG (by rw[sX];exact q)];exact λz=>nomatch z
  .refine j _ _ ⟨e,he,rfl⟩ ⟨f,hg,p.extBut S o hIS d,h⟩ ⟨λb u h e=>p.extBut b u (λz=>h (by rw[z];exact Xl)) e,rfl,rfl,rfl,ql _⟩
 done:=λs Q E ⟨slot,c,d,l⟩ j=>by
  refine Hv hh c d hd hf hsz hup hpl (λz=>⟨k z,l z⟩) (Array.getElem?_eq_none (by rw[sX];exact ql _)) λg hg=>?_
  exact j _ ⟨λb u h e=>hg b u (λz=>h (by rw[z];exact Xl)) e,rfl,rfl,rfl,ql _⟩
 self:=λi s Q E ⟨slot,c,_⟩ j=>by
  have m:s.TypeIs (.ref I) "set_iterator":=⟨_,c,rfl⟩
  refine wpAny_pyIter_slot m bY (Xy bY m dX ?_ (dG _));exact nF ⟨_,rfl,"set_iterator",_,m,aJ.lookup,j⟩
def qO{Q:List Value->Shared->Prop}{Gd:Drawn->List Value->Prop}(ho:s.heap.get? S=some o)(hc:o.cls=.type "set")(hn:n<=sizeLine)
  (hit:∀(s1:Shared)(l:Addr) {E1:Value->Shared->Prop} (Q1:Value->Shared->Prop),s1.heap.get? S=some o->s1.drawn=s.drawn->l≠S->l<s1.heap.objs.size ->
   (∀(I:Addr)(g:Heap)(i:Drawn)(D:List Addr)(P:Nat->Value->Prop)(St:Nat->Shared->Prop),WalksS prog w A.in1 I D [I] (λa b=>b=a) n P St->l ∉ D->s1.heap.objs.size<=I->(∀ b u,s1.heap.get? b=some u->g.get? b=some u)->St 0 { s1 with heap:=g,drawn:=i }->(∀ d,ItemsOf P d n->Gd i d.toList)->Q1 (.ref I) { s1 with heap:=g,drawn:=i })->wpAny (model prog w) A.in1 (pyIter (.ref S)) Q1 E1 s1)
  (h:∀(g:Heap)(tk:Nat)(i:Drawn)(vs:List Value),Gd i vs->(∀ b u,s.heap.get? b=some u->g.get? b=some u)->Q vs { s with heap:=g,toks:=tk,drawn:=i }):wpAny (model prog w) A (collect (.ref S)) Q E s:=by
 have x:S<s.heap.objs.size:=I3 ho;unfold collect;refine ni (wpAny_runValue (codeAny_builtin PySem.F.entry_proto_collect ?_));rw[Around.under_plainId PySem.F.plain_proto_collect _];refine ni (XQ ?_);refine nF ⟨plainId_quiet PySem.F.plain_list_iadd _,codeAny_builtin PySem.F.entry_list_iadd ?_⟩;rw[Around.under_plainId PySem.F.plain_list_iadd _];show wpAny _ A.in1 (Builtin.List.listExtendWith (.ref s.heap.objs.size) (.ref S) (.ref s.heap.objs.size)) _ _ _;have hS₁:(s.heap.push { cls:=.type "list",data:=.seq ([]:List Value).toArray }).get? s.heap.objs.size=some { cls:=.type "list",data:=.seq ([]:List Value).toArray }:=Q0 _ rfl;have k:(s.heap.push { cls:=.type "list",data:=.seq ([]:List Value).toArray }).get? S=some o:=n7 _ ho;have j:∀ b u,s.heap.get? b=some u->(s.heap.push { cls:=.type "list",data:=.seq ([]:List Value).toArray }).get? b=some u:=λb u e=>n7 _ e
 have M:(s.heap.push { cls:=.type "list",data:=.seq ([]:List Value).toArray }).objs.size=s.heap.objs.size+1:=Heap.size_push ..;generalize s.heap.push { cls:=.type "list",data:=.seq ([]:List Value).toArray }=U at hS₁ k j M ⊢;unfold Builtin.List.listExtendWith;refine ni (wpAny_typeOf (T:="set") ⟨o,k,hc⟩ ?_);have K:Builtin.List.listSameRef (.ref s.heap.objs.size) (.ref S)=false:=by simp[Builtin.List.listSameRef];exact Nat.ne_of_gt x
 have L:(Value.type "set" == Value.type "list")=false:=by decide
 have O:(Value.type "set" == Value.type "tuple")=false:=by decide
 simp only[K,L,O,Bool.or_false,Bool.false_eq_true,if_false];refine ni (hit _ s.heap.objs.size _ k rfl (Nat.ne_of_gt x) (by show _<U.objs.size;lia) λI Y i D P St W v V kp R hG=>?_);have hS₂:=kp _ _ hS₁;have G:=kp _ _ k;have p:∀ b u,s.heap.get? b=some u->Y.get? b=some u:=λb u e=>kp b u (j b u e)
 replace V:U.objs.size<=I:=V;refine ni (Xo (hint ⟨o,G,hc⟩ ?_));have key:∀(g:Heap)(H tk:Nat),s.toks<=tk->(∀ b u,b≠s.heap.objs.size->Y.get? b=some u->g.get? b=some u)->g.get? s.heap.objs.size=some { cls:=.type "list",data:=.seq #[] H }->codeAny (model prog w) A (.builtin "list.extend.loop" ⟨[.ref s.heap.objs.size,.ref I,.ref s.heap.objs.size],[]⟩) (λr s'=>∃(g':Heap)(f:Nat)(d:Array Value)(c:Nat),r=.ok (.ret (.ref s.heap.objs.size))/\s'={ s with heap:=g',toks:=f,drawn:=i }/\(∀ b u,s.heap.get? b=some u->g'.get? b=some u)/\g'.get? s.heap.objs.size=some { cls:=.type "list",data:=.seq d c }/\Gd i d.toList) { s with heap:=g,toks:=tk,drawn:=i }:=λg H tk J X hS₃=>by
  refine codeAny_extend_loopS W hn s.heap.objs.size v _ n 0 _ #[] H rfl (Nat.zero_le _) (W.frame 0 _ g tk R J λb m u e=>X b u (λz=>v (by rw[← z];exact m)) e) hS₃ (ItemsOf.nil _) λs' d c' C hS' y=>?_
  obtain⟨g',Z,d',f,N⟩:=s';have K:Z=s.gens:=C.gens;have L:d'=i:=C.drawn;have O:N=s.os:=C.os;subst K;subst L;subst O;refine⟨g',f,d,c',rfl,rfl,λb u e=>?_,hS',?_⟩
  .have m:=I3 e;refine C.heap b u ?_ (X b u (J6 m) (p b u e));simp only[mem_cons,mem_singleton,not_mem_nil,or_false,not_or];exact⟨J6 m,J6 (Xk m (by lia))⟩
  .exact hG d y
 have B:∀(r:Result)(s':Shared),(∃(g':Heap)(f:Nat)(d:Array Value)(c:Nat),r=.ok (.ret (.ref s.heap.objs.size))/\s'={ s with heap:=g',toks:=f,drawn:=i }/\(∀ b u,s.heap.get? b=some u->g'.get? b=some u)/\g'.get? s.heap.objs.size=some { cls:=.type "list",data:=.seq d c }/\Gd i d.toList)->∃(g':Heap)(f:Nat)(d:Array Value)(c:Nat),r=.ok (.ret (.ref s.heap.objs.size))/\s'={ s with heap:=g',toks:=f,drawn:=i }/\g'.get? s.heap.objs.size=some { cls:=.type "list",data:=.seq d c }/\Q d.toList { s with heap:=g',toks:=f,drawn:=i }:=λr s' ⟨g',f,d,c,a1,a2,a3,t,a5⟩=>⟨g',f,d,c,a1,a2,t,h g' f i _ a5 a3⟩
 refine wpAny_ite_split (λ_=>?_) (λ_=>nF ⟨plainId_quiet PySem.F.plain_extend_loop _,codeAny_mono (key _ 0 _ (ql _) (λb u _ e=>e) hS₂) λr s' z=>?_⟩)
 .refine ni (wpAny_rule ?_);refine ni ?_;refine ni (wpAny_updateSeq hS₂ rfl ?_);have hS₃:=Heap.get?_update_self (Obj.mapSeq (·.push Value.none)) hS₂ rfl;refine wpAny_updateSeq (hz:=by seq_fits) hS₃ rfl ?_;have hS₄:=Heap.get?_update_self (Obj.mapSeq (·.pop)) hS₃ rfl;refine nF ⟨plainId_quiet PySem.F.plain_extend_loop _,codeAny_mono (key _ _ _ (by first | exact ql _ | lia) (λb u m e=>?_) hS₄) λr s' z=>?_⟩
  .exact(Heap.get?_update_other _ _ (Ne.symm m)).trans ((Heap.get?_update_other _ _ (Ne.symm m)).trans e)
  .obtain⟨g',f,d,c,rfl,rfl,t,q⟩:=B r s' z;show wpAny _ A (load s.heap.objs.size >>= _) _ _ _;exact ni (wpAny_load t (nF q))
 .obtain⟨g',f,d,c,rfl,rfl,t,q⟩:=B r s' z;show wpAny _ A (load s.heap.objs.size >>= _) _ _ _;exact ni (wpAny_load t (nF q))
def mq{Q:List Value->Shared->Prop}(hh:A.handled=none)(ho:s.heap.get? S=some o)(hc:o.cls=.type "set")(hd:o.data=.set es ep t)(hf:t.fits es.size=true)(hsz:t.place.size=es.size)(hup:ST.Up t.place)(hpl:byT w=true\/t.plain=true\/es.size<=1)(m:byT w=false->t.led=true)(hn:es.size<=sizeLine)
  (h:∀(g:Heap)(tk:Nat),(∀ b u,s.heap.get? b=some u->g.get? b=some u)->Q ((ord w S es ep).toList.map (·.2)) { s with heap:=g,toks:=tk }):wpAny (model prog w) A (collect (.ref S)) Q E s:=by
 refine qO (Gd:=λp n=>p=s.drawn/\n=(ord w S es ep).toList.map (·.2)) ho hc hn (λz l C B c i q f k=>?_) λg tk p n x v=>?_
 rotate_left
 .obtain⟨rfl,rfl⟩:=x;exact h g tk v
 have hS1:=I3 c;refine Bu c hc hd hf hpl (k _ _ z.drawn _ _ _ (Qh (S:=S) hh (J6 hS1) hd hf hsz hup hpl m) (by simp only[mem_cons,not_mem_nil,or_false,not_or];exact⟨J6 f,q⟩) (ql _) (λb u e=>n7 _ e) ⟨0,Q0 _ rfl,n7 _ c,λ_=>ST.Ao hup⟩ λy a=>⟨i,?_⟩);refine ext_getElem? λj=>?_
 rw[XC,Array.getElem?_toList,Array.getElem?_toList];rcases Nat.lt_or_ge j es.size with d | d
 .obtain⟨e,he,r⟩:=a.2 j _ (UG (by rw[a.1];exact d));rw[he,UG (by rw[a.1];exact d),r]
  rfl
 .rw[Array.getElem?_eq_none (by rw[a.1];exact d),Array.getElem?_eq_none (by rw[sX];exact d)]
  rfl
def Ad{Q:Nat->Shared->Prop}(hn:n≠0)(h:∀ x a,x<n->Q x { s with drawn:=a }):wpAny (model prog w) A (choose src n) Q E s:=by
 intro Γ p b;unfold choose;rw[Sem.wp_choose];exact⟨hn,h _ _ (Nat.mod_lt _ (by lia))⟩
theorem ji{α:Type}:∀ {xs:List α}{i:Nat}{x:α},xs[i]?=some x->(x::xs.eraseIdx i).Perm xs
 | y::xs,0,x,h=>by cases h;exact List.Perm.refl _
 | y::xs,i+1,x,h=>by
  have:=ji (by simpa using h);exact(List.Perm.swap y x _).trans (this.cons y)
 | [],i,x,h=>by simp at h
theorem yP{α:Type}:∀(k:Nat)(xs:List α)(s:Shared) {Q:List α->Shared->Prop},xs.length=k->(∀ ys c,ys.Perm xs->Q ys { s with drawn:=c })->wpAny (model prog w) A (drawOrder k xs) Q E s
 | 0,xs,s,Q,a,h=>by
  have:=List.eq_nil_of_length_eq_zero a;subst this;unfold drawOrder;exact nF (h [] s.drawn (List.Perm.refl _))
 | k+1,[],s,Q,a,h=>by cases a
 | k+1,x::xs,s,Q,a,h=>by
  unfold drawOrder;refine ni (Ad (by simp) λi c d=>?_);have e:=n6 d;rw[e];refine ni (yP k _ _ (by rw[List.length_eraseIdx_of_lt d];lia) λys b f=>?_);exact nF (h _ b ((f.cons _).trans (ji e)))
end
def itD(p i:Nat)(S:Addr)(n ep:Nat):Obj:={ cls:=.type "set_iterator",data:=.fields #[.ref p,.int i 0,.ref S,.int n 0,.int ep 0] }
section
variable {prog:Program}{w:World}{A:Around}{E:Value->Shared->Prop}{s:Shared}{I S p:Addr}{o:Obj}{es:Array (Int × Value)}{ep slot i:Nat}{t:SetTable}{pl:List Nat}
def Dk{Q:Value->Shared->Prop}(ho:s.heap.get? S=some o)(hc:o.cls=.type "set")(hd:o.data=.set es ep t)(hf:t.fits es.size=true)(hb:byT w=false)(hpl:t.plain=false)(hsz:1<es.size)(hz:es.size<=sizeLine)
  (q:∀(pl:List Nat) c,pl.Perm (List.range es.size)->Q (.ref (s.heap.objs.size+1)) { s with heap:=(s.heap.push { cls:=.type "tuple",data:=.seq ((pl.map λ(i:Nat)=>rawInt i).toArray) }).push (itD s.heap.objs.size 0 S es.size ep),drawn:=c }):wpAny (model prog w) A (pyIter (.ref S)) Q E s:=by
 have ty:s.TypeIs (.ref S) "set":=⟨o,ho,hc⟩
 tm_at"g";refine wpAny_ite_split (λ_=>?_) (λf=>absurd (show((!byT w) && (!t.plain && decide (es.size>1)))=true by rw[hb,hpl];simp;exact hsz) f);refine ni (yP es.size (List.range es.size) _ length_range λpl c d=>ni ?_);have a:=d.length_eq;rw[length_range] at a;simp only[newTuple];refine XQ ?_ (by first | (rw[XM,XF,a];exact hz) | (show _<=sizeLine;rw[XM,XF,a];exact hz));have e:(s.heap.push { cls:=.type "tuple",data:=.seq ((pl.map λ(i:Nat)=>rawInt i).toArray) }).get? S=some o:=n7 _ ho;unfold setEpoch;refine ni (ni (wpAny_setState_of e hd hf (nF ?_)));unfold newFields;have b:(s.heap.push { cls:=.type "tuple",data:=.seq ((pl.map λ(i:Nat)=>rawInt i).toArray) }).objs.size=s.heap.objs.size+1:=Heap.size_push ..;refine ni (XQ (nF ⟨_,rfl,"set_iterator",_,⟨_,Q0 _ rfl,rfl⟩,aJ.lookup,?_⟩) (by simp[sizeOk,sizeLine_eq]));have:=q pl c d;rw[← b] at this;exact this
def Ci{Q:Option Value->Shared->Prop}(ti:s.heap.get? I=some (itD p i S es.size ep))(hop:s.heap.get? p=some op)(hdp:op.data=.seq ((pl.map λ(i:Nat)=>rawInt i).toArray) tk)(ho:s.heap.get? S=some o)(hd:o.data=.set es ep t)(hf:t.fits es.size=true)(hk:pl[i]?=some k)(he:es[k]?=some e)
  (q:∀ g,g.get? I=some (itD p (i+1) S es.size ep)->Heap.SameBut I s.heap g->Q (some e.2) { s with heap:=g }):wpAny (model prog w) A (pyNext (.ref I)) Q E s:=by
 have ty:s.TypeIs (.ref I) "set_iterator":=⟨_,ti,rfl⟩
 unfold pyNext;refine ni (wpAny_attempt (wpAny_callSpecial?_slot ty aJ (Xy aJ ty bR ?_ (bL _))));tm_at"e";refine ni (wpAny_seqItems hop hdp ?_);dsimp only;rw[Int.toNat_natCast];have b:((pl.map λ(i:Nat)=>rawInt i).toArray)[i]?=some (rawInt (k:Nat)):=by
  rw[List.getElem?_toArray,XC,hk]
  rfl
 rw[b];show wpAny _ _ (setNextDrawn S (((k:Nat):Int)).toNat (((ep:Nat):Int)).toNat >>= _) _ _ _;rw[Int.toNat_natCast,Int.toNat_natCast];unfold setNextDrawn;refine ni (ni (wpAny_setState_of ho hd hf ?_));dsimp only;rw[if_neg (by simp),he];refine nF ?_;refine ni (wpAny_setField_rec ti (by simp) λc a d=>?_);replace a:c.get? I=some (itD p (i+1) S es.size ep):=by
  have z:((i+1:Nat):Int)=(i:Int)+1:=by lia
  unfold itD;rw[z];simpa [rawInt] using a
 exact nF ⟨_,rfl,nF (q c a d)⟩
def Ik{Q:Option Value->Shared->Prop}(hh:A.handled=none)(ti:s.heap.get? I=some (itD p i S es.size ep))(hop:s.heap.get? p=some op)(hdp:op.data=.seq ((pl.map λ(i:Nat)=>rawInt i).toArray) tk)(ho:s.heap.get? S=some o)(hd:o.data=.set es ep t)(hf:t.fits es.size=true)(hk:pl[i]?=none)
  (q:∀ g,Heap.ExtBut I s.heap g->Q none { s with heap:=g }):wpAny (model prog w) A (pyNext (.ref I)) Q E s:=by
 have ty:s.TypeIs (.ref I) "set_iterator":=⟨_,ti,rfl⟩
 unfold pyNext;refine ni (wpAny_attempt (wpAny_callSpecial?_slot ty aJ (Xy aJ ty bR ?_ (bL _))));tm_at"e";refine ni (wpAny_seqItems hop hdp ?_);dsimp only;rw[Int.toNat_natCast];have a:((pl.map λ(i:Nat)=>rawInt i).toArray)[i]?=none:=by
  rw[List.getElem?_toArray,XC,hk]
  rfl
 rw[a];refine ni (wpAny_setField_rec ti (by simp) λd c b=>?_);refine ni (wpAny_setField c rfl (by simp) ?_);refine ni ?_;simp only[newExc,newTuple];refine ni (XQ ?_ (by size_fits));refine ni (wpAny_of_eq (by first | rfl | (simp only[firstArgMember];rfl)) ?_);refine XQ ?_ (by size_fits);simp only[raiseNew];refine ni (wpAny_handled ?_);rw[show A.in1.handled=none from hh];refine ni (nF (wpAny_throw ?_));refine ni (wpAny_isInstance ⟨_,Q0 _ rfl,rfl⟩ isSubtype_stop ?_);exact nF (q _ (((b.trans (Heap.SameBut.update ..)).extBut.push _).push _))
def StD(I S p:Addr)(o op:Obj)(es:Array (Int × Value))(ep:Nat)(i:Nat)(s:Shared):Prop:=s.heap.get? I=some (itD p i S es.size ep)/\s.heap.get? S=some o/\s.heap.get? p=some op
def OJ(hh:A.handled=none)(hIS:S≠I)(x:p≠I)(hd:o.data=.set es ep t)(hdp:op.data=.seq ((pl.map λ(i:Nat)=>rawInt i).toArray) tk)(hf:t.fits es.size=true)(hp:pl.Perm (List.range es.size)) :
  WalksS prog w A I [I,S,p] [I] (λa b=>b=a) es.size (λi v=>∃ k e,pl[i]?=some k/\es[k]?=some e/\v=e.2) (StD I S p o op es ep) where
 sub:=λb l=>by
  rcases mem_singleton.mp l with rfl;exact Xl
 grefl:=λ_=>rfl
 gtrans:=λ_ _ _ c d=>d.trans c
 frame:=λi s h' tk ⟨c,d,h⟩ _ f=>⟨f I Xl _ c,f S (Xm _ Xl) _ d,f p (Xm _ (Xm _ Xl)) _ h⟩
 item:=λi s Q E y ⟨c,d,h⟩ j=>by
  have n:=hp.length_eq;rw[length_range] at n;have f:pl[i]?=some pl[i]:=n6 (by lia);have r:pl[i]<es.size:=mem_range.mp (hp.mem_iff.mp (getElem_mem (by lia)));have he:=UG r;refine Ci c h hdp d hd hf f he λg hg q=>?_
  exact j _ _ ⟨_,_,f,he,rfl⟩ ⟨hg,q.extBut S o hIS d,q.extBut p op x h⟩ ⟨λb u l e=>q.extBut b u (λz=>l (by rw[z];exact Xl)) e,rfl,rfl,rfl,ql _⟩
 done:=λs Q E ⟨c,d,h⟩ j=>by
  have n:=hp.length_eq;rw[length_range] at n;refine Ik hh c h hdp d hd hf (List.getElem?_eq_none (by lia)) λg hg=>?_
  exact j _ ⟨λb u l e=>hg b u (λz=>l (by rw[z];exact Xl)) e,rfl,rfl,rfl,ql _⟩
 self:=λi s Q E ⟨c,_⟩ j=>by
  have m:s.TypeIs (.ref I) "set_iterator":=⟨_,c,rfl⟩
  refine wpAny_pyIter_slot m bY (Xy bY m dX ?_ (dG _));exact nF ⟨_,rfl,"set_iterator",_,m,aJ.lookup,j⟩
def uF{Q:List Value->Shared->Prop}(hh:A.handled=none)(ho:s.heap.get? S=some o)(hc:o.cls=.type "set")(hd:o.data=.set es ep t)(hf:t.fits es.size=true)(hb0:byT w=false)(hpl:t.plain=false)(hsz1:1<es.size)(hn:es.size<=sizeLine)
  (h:∀(g:Heap)(tk:Nat) q (m:List Value),m.Perm (es.toList.map (·.2))->(∀ b u,s.heap.get? b=some u->g.get? b=some u)->Q m { s with heap:=g,toks:=tk,drawn:=q }):wpAny (model prog w) A (collect (.ref S)) Q E s:=by
 refine qO (Gd:=λ_ m=>m.Perm (es.toList.map (·.2))) ho hc hn (λf l J I d C r n k=>?_) λg tk q m F x=>h g tk q m F x
 have hS1:=I3 d;refine Dk d hc hd hf hb0 hpl hsz1 hn λpl q v=>?_
 have y:((f.heap.push { cls:=.type "tuple",data:=.seq ((pl.map λ(i:Nat)=>rawInt i).toArray) }).push (itD f.heap.objs.size 0 S es.size ep)).get? (f.heap.objs.size+1)=some (itD f.heap.objs.size 0 S es.size ep):=by
  have:=Q0 (f.heap.push { cls:=.type "tuple",data:=.seq ((pl.map λ(i:Nat)=>rawInt i).toArray) }) (o:=itD f.heap.objs.size 0 S es.size ep) rfl;rw[Heap.size_push] at this;exact this
 refine k _ _ q _ _ _ (OJ (S:=S) (p:=f.heap.objs.size) (op:={ cls:=.type "tuple",data:=.seq ((pl.map λ(i:Nat)=>rawInt i).toArray) }) (tk:=0) hh (J6 (XH hS1)) (J6 (Nat.lt_succ_self _)) hd rfl hf v) (by simp only[mem_cons,not_mem_nil,or_false,not_or];exact⟨J6 (XH n),r,J6 n⟩) (Nat.le_succ _) (λb u e=>n7 _ (n7 _ e)) ⟨y,n7 _ (n7 _ d),n7 _ (Q0 _ rfl)⟩ λz a=>?_
 have r:=v.length_eq;rw[length_range] at r;have G:z.toList=pl.map λk=>((es[k]?).getD (0,Value.none)).2:=by
  refine ext_getElem? λj=>?_
  rw[XC,Array.getElem?_toList];rcases Nat.lt_or_ge j es.size with c | c
  .obtain⟨k,e,x,he,B⟩:=a.2 j _ (UG (by rw[a.1];exact c));rw[x,UG (by rw[a.1];exact c),B];show some e.2=some ((es[k]?.getD (0,Value.none)).2);rw[he]
   rfl
  .rw[Array.getElem?_eq_none (by rw[a.1];exact c),List.getElem?_eq_none (by lia)]
   rfl
 rw[G];refine(v.map _).trans ?_;have D:(List.range es.size).map (λk=>((es[k]?).getD (0,Value.none)).2)=es.toList.map (·.2):=by
  refine ext_getElem? λj=>?_
  rw[XC,XC];have H:es.toList[j]?=es[j]?:=Array.getElem?_toList;rw[H];rcases Nat.lt_or_ge j es.size with c | c
  .rw[List.getElem?_range c,UG c];show some ((es[j]?.getD _).2)=_;rw[UG c]
   rfl
  .rw[List.getElem?_eq_none (by rw[length_range];exact c),Array.getElem?_eq_none c]
   rfl
 rw[D]
def nD{Q:List Value->Shared->Prop}(hh:A.handled=none)(ho:s.heap.get? S=some o)(hc:o.cls=.type "set")(hd:o.data=.set es ep t)(hf:t.fits es.size=true)(hsz:t.place.size=es.size)(hup:ST.Up t.place)(a:byT w=false->t.led=true)(hn:es.size<=sizeLine)
  (h:∀(g:Heap)(tk:Nat) dr (vs:List Value),vs.Perm (es.toList.map (·.2))->(∀ b u,s.heap.get? b=some u->g.get? b=some u)->Q vs { s with heap:=g,toks:=tk,drawn:=dr }):wpAny (model prog w) A (collect (.ref S)) Q E s:=by
 by_cases hn1:byT w=true\/t.plain=true\/es.size<=1
 .exact mq hh ho hc hd hf hsz hup hn1 a hn λg tk c=>h g tk s.drawn _ (sH.map _) c
 .rw[not_or,not_or] at hn1;exact uF hh ho hc hd hf (by simpa using hn1.1) (by simpa using hn1.2.1) (by lia) hn h
end
end SI
namespace L2
open PySem PySem.Spec PyProof.Rows
mutual
def pP(h:Heap):Value->D->Prop
 | v,.int i=>∃ t,v=.int i t
 | v,.str x=>∃ t,v=.str x t
 | v,.tup a=>∃(p:Addr)(its:List Value),v=.ref p/\h.IsTuple p its.toArray/\fu h its a
 | _,.non=>False
 | _,.bl _=>False
def fu(h:Heap):List Value->List D->Prop
 | [],[]=>True
 | v::b,d::a=>pP h v d/\fu h b a
 | _,_=>False
end
mutual
def Pl:D->Prop
 | .int _=>True
 | .str _=>True
 | .tup ds=>PlL ds
 | _=>False
def PlL:List D->Prop
 | []=>True
 | d::a=>Pl d/\PlL a
end
mutual
def fL(w:World):D->Int
 | .int i=>hashInt i
 | .str x=>hashStr w x
 | .tup ds=>reduceHash (Builtin.Tuple.tupleHashOf (gV w ds))
 | _=>0
def gV(w:World):List D->List Int
 | []=>[]
 | d::a=>fL w d::gV w a
end
mutual
def uf:D->Nat
 | .tup ds=>lX ds+1
 | _=>1
def lX:List D->Nat
 | []=>0
 | d::a=>uf d+lX a
end
theorem fu.len:∀ {b:List Value}{a:List D},fu h b a->b.length=a.length
 | [],[],_=>rfl
 | _::b,_::a,q=>by rw[length_cons,length_cons,fu.len q.2]
 | [],_::_,q=>q.elim
 | _::_,[],q=>q.elim
theorem fu.at_:∀ {b:List Value}{a:List D}{i:Nat}{v:Value},fu h b a->b[i]?=some v->∃ d,a[i]?=some d/\pP h v d
 | [],[],i,v,_,e=>by simp at e
 | _::b,d::a,0,v,q,e=>by
  simp at e;subst e;exact⟨d,rfl,q.1⟩
 | _::b,_::a,i+1,v,q,e=>fu.at_ (i:=i) q.2 (by simpa using e)
 | [],_::_,_,_,q,_=>q.elim
 | _::_,[],_,_,q,_=>q.elim
mutual
theorem pP.keep(k:∀ a b,h.IsTuple a b->h'.IsTuple a b):∀ {d:D}{v:Value},pP h v d->pP h' v d
 | .int _,_,q=>q
 | .str _,_,q=>q
 | .tup ds,_,q=>by
  obtain⟨p,b,e,t,r⟩:=q;exact⟨p,b,e,k _ _ t,fu.keep k r⟩
 | .non,_,q=>q.elim
 | .bl _,_,q=>q.elim
theorem fu.keep(k:∀ a b,h.IsTuple a b->h'.IsTuple a b):∀ {ds:List D}{vs:List Value},fu h vs ds->fu h' vs ds
 | [],[],_=>trivial
 | _::_,_::_,q=>⟨pP.keep k q.1,fu.keep k q.2⟩
 | [],_::_,q=>q.elim
 | _::_,[],q=>q.elim
end
def K8{h:Heap}{a:Addr}{x y:Array Value}(h1:h.IsTuple a x)(h2:h.IsTuple a y):x=y:=by
 obtain⟨o,e,_,n,d⟩:=h1;obtain⟨c,b,_,f,d'⟩:=h2;obtain rfl:o=c:=Xn (e.symm.trans b);rw[d] at d';injection d'
mutual
theorem pP.det{h:Heap}:∀ {d e:D}{v:Value},pP h v d->pP h v e->d=e
 | .int i,e,v,q,r=>by
  obtain⟨t,rfl⟩:=q;cases e with
  | int j=>obtain⟨t',e⟩:=r;injection e with e _;rw[e]
  | str y=>obtain⟨t',e⟩:=r;cases e
  | tup c=>obtain⟨p,a,e,_⟩:=r;cases e
  | non=>exact r.elim
  | bl b=>exact r.elim
 | .str x,e,v,q,r=>by
  obtain⟨t,rfl⟩:=q;cases e with
  | int j=>obtain⟨t',e⟩:=r;cases e
  | str y=>obtain⟨t',e⟩:=r;injection e with e _;rw[e]
  | tup c=>obtain⟨p,a,e,_⟩:=r;cases e
  | non=>exact r.elim
  | bl b=>exact r.elim
 | .tup c,e,v,q,r=>by
  obtain⟨p,a,rfl,t,q⟩:=q;cases e with
  | int j=>obtain⟨t',e⟩:=r;cases e
  | str y=>obtain⟨t',e⟩:=r;cases e
  | tup es =>
   obtain⟨g,its',e,t',r⟩:=r;injection e with e;subst e;have f:a=its':=by
    have:=congrArg Array.toList (K8 t t')
    simpa using this
   subst f;rw[fu.det q r]
  | non=>exact r.elim
  | bl b=>exact r.elim
 | .non,_,_,q,_=>q.elim
 | .bl _,_,_,q,_=>q.elim
theorem fu.det:∀ {ds es:List D}{vs:List Value},fu h vs ds->fu h vs es->ds=es
 | [],[],[],_,_=>rfl
 | _::_,_::_,_::_,q,r=>by rw[pP.det q.1 r.1,fu.det q.2 r.2]
 | [],_::_,[],_,r=>r.elim
 | [],_,_::_,q,_=>q.elim
 | _::_,_,[],q,_=>q.elim
 | _::_,[],_::_,_,r=>r.elim
end
mutual
theorem yO(ok:HOk P w H h):∀ {d:D}{x:V}{v:Value},Pl d->Den H x d->RelV x v->pP h v d
 | .int i,x,v,_,q,r=>by
  have e:=q;subst e;exact r
 | .str i,x,v,_,q,r=>by
  have e:=q;subst e;exact r
 | .tup ds,x,v,hp,q,r=>by
  obtain⟨p,c,rfl,e,q⟩:=aO q;cases r;obtain⟨_,a,b,t⟩:=(show cW P w H h p (.tup c) from ok p _ e)
  exact⟨p,a,rfl,t,uI ok hp q b⟩
 | .non,_,_,hp,_,_=>hp.elim
 | .bl _,_,_,hp,_,_=>hp.elim
theorem uI(ok:HOk P w H h):∀ {ds:List D}{xs:List V}{vs:List Value},PlL ds->bW H xs ds->Vals xs vs->fu h vs ds
 | [],[],_,_,_,r=>by cases r;exact trivial
 | _::_,_::_,_,a,q,r=>by
  cases r with
  | cons b c=>exact⟨yO ok a.1 q.1 b,uI ok a.2 q.2 c⟩
 | [],_::_,_,_,q,_=>q.elim
 | _::_,[],_,_,q,_=>q.elim
end
section
variable {prog:Program}{w:World}{A:Around}{E:Value->Shared->Prop}{s:Shared}
def iZ(t:s.heap.IsTuple a its):s.TypeIs (.ref a) "tuple":=by
 obtain⟨o,e,c,_⟩:=t;exact⟨o,e,c⟩
def G8:∀(n:Nat) {d:D}{A:Around}{E:Value->Shared->Prop}{s:Shared}{v:Value}{Q:Int->Shared->Prop},dz n d->pP s.heap v d->A.units+n<cLine->Q (fL w d) { s with toks:=s.toks+uf d }->wpAny (model prog w) A (pyHash v) Q E s:=by
 intro n
 induction n with
 | zero =>
  intro d A E s v Q q hd G h;cases d with
  | int i=>obtain⟨t,rfl⟩:=hd;exact wpAny_pyHash_int h
  | str x=>obtain⟨t,rfl⟩:=hd;exact wpAny_pyHash_str h
  | tup p=>exact absurd rfl (q.2 p)
  | non=>exact hd.elim
  | bl b=>exact hd.elim
 | succ n l =>
  intro d A E s v Q q hd G h;cases d with
  | int i=>obtain⟨t,rfl⟩:=hd;exact wpAny_pyHash_int h
  | str x=>obtain⟨t,rfl⟩:=hd;exact wpAny_pyHash_str h
  | non=>exact hd.elim
  | bl b=>exact hd.elim
  | tup p =>
   obtain⟨a,H,rfl,ht,B⟩:=hd;have r:=iZ ht;obtain⟨o,I,_,m,u⟩:=ht;have j:=(q.2 p rfl).2;unfold pyHash
   first | unfold pyHashByItsType | skip
   first | refine ni (wpAny_cRoomFor_or (.inr (by lia)) ?_) | skip
   refine ni (wpAny_specialOf r F.slot_tuple_hash.lookup ?_);rw[if_neg (by rw[beq_builtin_none];exact TF)];refine ni (wpAny_specialOf r F.slot_tuple_hash.lookup ?_);refine ni (wpAny_callSpecialIfBoundUnlessNone?_slot r F.slot_tuple_hash (Xy F.slot_tuple_hash r F.entry_tuple_hash ?_ (F.args_tuple_hash_1 _)));show wpAny _ _ (Builtin.Tuple.tupleItemsOf (.ref a) >>= _) _ _ s;refine ni (wpAny_tupleItemsOf I u ?_);refine ni ?_;rw[← Array.forIn_toList];have z:A.in1.units+n<cLine:=by first | (simp only[Around.in1];lia) | lia
   refine wpAny_forIn_list _
    (λg (b:Array Int) s'=>∃ done left,p=done++left/\fu s.heap g left/\b.toList=gV w done/\s'={ s with toks:=s.toks+lX done })
    _ ?_ ?_ _ _ ⟨[],p,rfl,by simpa using B,rfl,rfl⟩
   .rintro x g b s' ⟨done,left,rfl,f,k,rfl⟩;cases left with
    | nil=>exact f.elim
    | cons e left =>
     refine ni (l (j e (Xw _ (.head _))) f.1 z ?_);have y:gV w (done++[e])=gV w done++[fL w e]:=by
      clear f k j B q h
      induction done with
      | nil=>rfl
      | cons c done l=>show _::gV w (done++[e])=_;rw[l];rfl
     have C:lX (done++[e])=lX done+uf e:=by
      clear f k j B q h y
      induction done with
      | nil=>show uf e+0=0+uf e;lia
      | cons c done l=>show uf c+lX (done++[e])=uf c+lX done+uf e;rw[l];lia
     first
      | exact nF ⟨done++[e],left,by simp,f.2,by rw[Array.toList_push,k,y],by simp[C,Nat.add_assoc]⟩
      | exact ni (nF (nF ⟨done++[e],left,by simp,f.2,by rw[Array.toList_push,k,y],by simp[C,Nat.add_assoc]⟩))
   .rintro b s' ⟨done,left,rfl,f,k,rfl⟩;cases left with
    | cons=>exact f.elim
    | nil =>
     rw[append_nil] at h;show wpAny _ _ (retInt (Builtin.Tuple.tupleHashOf b.toList)) _ _ _;rw[k];refine wpAny_ret_mkInt ?_;show wpAny _ _ (if (decide (-(2:Int)^63<=Builtin.Tuple.tupleHashOf (gV w done)) && decide (Builtin.Tuple.tupleHashOf (gV w done)<2^63))=true then _ else _) Q E _;have h:Q (reduceHash (Builtin.Tuple.tupleHashOf (gV w done))) { s with toks:=s.toks+(lX done+1) }:=h;unfold reduceHash at h;by_cases hr:(decide (-(2:Int)^63<=Builtin.Tuple.tupleHashOf (gV w done)) && decide (Builtin.Tuple.tupleHashOf (gV w done)<2^63))=true
     .rw[if_pos hr];rw[if_pos hr] at h;exact nF (by simpa [Nat.add_assoc] using h)
     .rw[if_neg hr];rw[if_neg hr] at h;exact ni (wpAny_rule (nF (by simpa [Nat.add_assoc] using h)))
def Dp:∀(n m:Nat) {d:D}{A:Around}{E:Value->Shared->Prop}{s:Shared}{v:Value}{Q:Bool->Shared->Prop},n<=m->dz n d->pP s.heap v d->Q true s->wpAny (model prog w) A (eqIsQuiet m v) Q E s:=by
 intro n
 induction n with
 | zero =>
  intro m d A E s v Q _ q hd h;cases d with
  | int i=>obtain⟨t,rfl⟩:=hd;rw[eqIsQuiet_byValue m rfl];exact nF h
  | str x=>obtain⟨t,rfl⟩:=hd;rw[eqIsQuiet_byValue m rfl];exact nF h
  | tup g=>exact absurd rfl (q.2 g)
  | non=>exact hd.elim
  | bl b=>exact hd.elim
 | succ n z =>
  intro m d A E s v Q K q hd h;cases d with
  | int i=>obtain⟨t,rfl⟩:=hd;rw[eqIsQuiet_byValue m rfl];exact nF h
  | str x=>obtain⟨t,rfl⟩:=hd;rw[eqIsQuiet_byValue m rfl];exact nF h
  | non=>exact hd.elim
  | bl b=>exact hd.elim
  | tup g =>
   obtain⟨m,rfl⟩:∃ k,m=k+1:=⟨m - 1,by lia⟩
   obtain⟨a,B,rfl,ht,H⟩:=hd;have y:=iZ ht;obtain⟨o,G,_,I,j⟩:=ht;have u:=(q.2 g rfl).2;unfold eqIsQuiet;refine ni (wpAny_specialOf y F.slot_tuple_eq.lookup ?_);refine ni (wpAny_isInstance y isSubtype_tuple_tuple ?_);tm_at"f";refine ni (wpAny_seqItems G j ?_);refine ni ?_;rw[← Array.forIn_toList];refine wpAny_forIn_list _ (λc r s'=>r.1=none/\s'=s/\∃ left,(∀ e∈left,dz n e)/\fu s.heap c left) _ ?_ ?_ _ _ ⟨rfl,rfl,g,u,by simpa using H⟩
   .rintro v c r s' ⟨l,rfl,left,f,p⟩;cases left with
    | nil=>exact p.elim
    | cons C left =>
     refine ni (z m (by lia) (f C (.head _)) p.1 ?_);tm_at"f";exact nF ⟨rfl,rfl,left,λe he=>f e (.tail _ he),p.2⟩
   .rintro⟨L,J⟩ s' ⟨l,rfl,_⟩;simp only at l;subst l;exact nF h
def Uc:∀(n:Nat) {d e:D}{A:Around}{s:Shared}{v u:Value},dz n d->dz n e->Sim d e->pP s.heap v d->pP s.heap u e->A.units+n<cLine->SeqAt.EqAt A s v u (eqD d e):=by
 intro n
 induction n with
 | zero =>
  intro d e A s v u l f m
  revert l f
  refine eZ (P:=λd e=>dz 0 d->dz 0 e->pP s.heap v d->pP s.heap u e->A.units+0<cLine->SeqAt.EqAt A s v u (eqD d e)) ?_ ?_ ?_ m
  .exact λi j _ _ h g _=>qU (H:=λ_=>none) rfl rfl h g
  .exact λi j _ _ h g _=>rF (H:=λ_=>none) rfl rfl h g
  .exact λxs ys _ l _ _ _ _=>absurd rfl (l.2 xs)
 | succ n E =>
  intro d e A s v u l f m
  revert l f
  refine eZ (P:=λd e=>dz (n+1) d->dz (n+1) e->pP s.heap v d->pP s.heap u e->A.units+(n+1)<cLine->SeqAt.EqAt A s v u (eqD d e)) ?_ ?_ ?_ m
  .exact λi j _ _ h g _=>qU (H:=λ_=>none) rfl rfl h g
  .exact λi j _ _ h g _=>rF (H:=λ_=>none) rfl rfl h g
  .intro o es m l f h g N;obtain⟨a,k,rfl,J,z⟩:=id h;obtain⟨b,c,rfl,L,B⟩:=id g;have Q:=z.len;have O:=B.len;have both:∀ j (p:j<k.toArray.size) (r:j<c.toArray.size),SeqAt.EqAt A.in1 s k.toArray[j] c.toArray[j] (eqD (o.getD j .non) (es.getD j .non)):=by
    intro j p r;have t:j<k.length:=by simpa using p
    have w:j<c.length:=by simpa using r
    obtain⟨K,x,F⟩:=z.at_ (n6 t);obtain⟨C,y,I⟩:=B.at_ (n6 w);rw[qu,qu,x,y];have G:=(l.2 o rfl).2 K (Xu x);have M:=(f.2 es rfl).2 C (Xu y);exact E G M (m.at_ x y) (by simpa using F) (by simpa using I) (by first | (simp only[Around.in1];lia) | lia)
   by_cases hab:a=b
   .subst hab;rw[fj.mpr (pP.det h g)];exact SeqAt.EqAt.same _
   .have key:=SeqAt.EqAt.of_refs hab (SeqAt.RcAt.tuples J L (by lia) λj p r=>both j p r);have q:=allR_eq o es;rw[show o.length=k.toArray.size by simp;lia,show es.length=c.toArray.size by simp;lia] at q;rw[q] at key;exact key
end
noncomputable instance decD:DecidableEq D:=λa b=>Classical.propDecidable (a=b)
structure KCls(C:D->Prop)(n:Nat):Prop where
 pl:∀ d,C d->Pl d
 sh:∀ d,C d->dz n d
 sm:∀ d e,C d->C e->Sim d e
 n8:n<=8
end L2
namespace SN
open PySem PySem.SetTable L2
def IsK(C:D->Prop)(h:Heap)(d:D)(a:Addr):Prop:=C d/\pP h (.ref a) d
section
variable {prog:Program}{w:World}
def uM:∀(n m:Nat) {d:D}{A:Around}{E:Value->Shared->Prop}{s:Shared}{v:Value}{Q:Bool->Shared->Prop},n<=m->dz n d->pP s.heap v d->Q false s->wpAny (model prog w) A (ofAClassStatement m v) Q E s:=by
 intro n
 induction n with
 | zero =>
  intro m d A E s v Q _ q hd h;cases d with
  | int i=>obtain⟨t,rfl⟩:=hd;unfold ofAClassStatement;exact nF h
  | str x=>obtain⟨t,rfl⟩:=hd;unfold ofAClassStatement;exact nF h
  | tup g=>exact absurd rfl (q.2 g)
  | non=>exact hd.elim
  | bl b=>exact hd.elim
 | succ n y =>
  intro m d A E s v Q J q hd h;cases d with
  | int i=>obtain⟨t,rfl⟩:=hd;unfold ofAClassStatement;exact nF h
  | str x=>obtain⟨t,rfl⟩:=hd;unfold ofAClassStatement;exact nF h
  | non=>exact hd.elim
  | bl b=>exact hd.elim
  | tup g =>
   obtain⟨m,rfl⟩:∃ k,m=k+1:=⟨m - 1,by lia⟩
   obtain⟨a,z,rfl,ht,G⟩:=hd;have B:=iZ ht;obtain⟨o,F,_,H,j⟩:=ht;have u:=(q.2 g rfl).2;unfold ofAClassStatement;refine ni (wpAny_typeOf B ?_);simp only[beq_self_eq_true,if_true];refine ni (nF ?_);tm_at"f";refine ni (wpAny_seqItems F j ?_);refine ni ?_;rw[← Array.forIn_toList];refine wpAny_forIn_list _ (λc r s'=>r.1=none/\s'=s/\∃ left,(∀ e∈left,dz n e)/\fu s.heap c left) _ ?_ ?_ _ _ ⟨rfl,rfl,g,u,by simpa using G⟩
   .rintro v c r s' ⟨l,rfl,left,f,p⟩;cases left with
    | nil=>exact p.elim
    | cons C left =>
     refine ni (y m (by lia) (f C (.head _)) p.1 ?_);simp only[Bool.false_eq_true,if_false];exact nF ⟨rfl,rfl,left,λe he=>f e (.tail _ he),p.2⟩
   .rintro⟨K,I⟩ s' ⟨l,rfl,_⟩;simp only at l;subst l;exact nF h
def GC:∀(n m:Nat) {d:D}{A:Around}{E:Value->Shared->Prop}{s:Shared}{v:Value}{Q:Bool->Shared->Prop},n<=m->dz n d->pP s.heap v d->(∀ b,Q b s)->wpAny (model prog w) A (hashByValue m v) Q E s:=by
 intro n
 induction n with
 | zero =>
  intro m d A E s v Q _ p hd h;cases d with
  | int i=>obtain⟨t,rfl⟩:=hd;cases m <;> (unfold hashByValue;exact nF (h _))
  | str x=>obtain⟨t,rfl⟩:=hd;cases m <;> (unfold hashByValue;exact nF (h _))
  | tup g=>exact absurd rfl (p.2 g)
  | non=>exact hd.elim
  | bl b=>exact hd.elim
 | succ n u =>
  intro m d A E s v Q K p hd h;cases d with
  | int i=>obtain⟨t,rfl⟩:=hd;cases m <;> (unfold hashByValue;exact nF (h _))
  | str x=>obtain⟨t,rfl⟩:=hd;cases m <;> (unfold hashByValue;exact nF (h _))
  | non=>exact hd.elim
  | bl b=>exact hd.elim
  | tup g =>
   obtain⟨m,rfl⟩:∃ k,m=k+1:=⟨m - 1,by lia⟩
   obtain⟨a,y,rfl,ht,H⟩:=hd;have z:=iZ ht;obtain⟨o,C,_,I,j⟩:=ht;have q:=(p.2 g rfl).2;unfold hashByValue;refine ni (wpAny_specialOf z F.slot_tuple_hash.lookup ?_);refine ni (wpAny_seqItems C j ?_);refine ni ?_;rw[← Array.forIn_toList];refine wpAny_forIn_list _ (λc r s'=>s'=s/\∃ left,(∀ e∈left,dz n e)/\fu s.heap c left) _ ?_ ?_ _ _ ⟨rfl,g,q,by simpa using H⟩
   .rintro v c r s' ⟨rfl,left,f,l⟩;cases left with
    | nil=>exact l.elim
    | cons B left =>
     refine ni (u m (by lia) (f B (.head _)) l.1 λb=>?_);cases b with
     | false =>
      simp only[Bool.not_false,if_true];exact nF (nF (h _))
     | true =>
      tm_at"f";exact nF ⟨rfl,left,λe he=>f e (.tail _ he),l.2⟩
   .rintro⟨G,J⟩ s' ⟨rfl,_⟩;cases G with
    | none=>exact nF (h _)
    | some b=>exact nF (h _)
variable {A:Around}{E:Value->Shared->Prop}{s:Shared}{C:D->Prop}{n:Nat}
def GD(hC:KCls C n){Q:Bool->Shared->Prop}(hk:IsK C s.heap ks a)(hy:∀ y∈ys,∃ f b,y=Value.ref b/\IsK C s.heap f b)(h:Q false s):wpAny (model prog w) A (searchCouldBeSeen (.ref a) ys) Q E s:=by
 unfold searchCouldBeSeen;refine ni ?_;refine wpAny_forIn_list _ (λe r s'=>r.1=none/\s'=s/\∀ y∈e,∃ f b,y=Value.ref b/\IsK C s.heap f b) _ ?_ ?_ _ _ ⟨rfl,rfl,hy⟩
 .rintro v e r s' ⟨i,rfl,d⟩;obtain⟨f,b,rfl,g⟩:=d v Xl;have c:=λu j=>d u (Xm _ j)
  dsimp only;split
  .exact nF ⟨rfl,rfl,c⟩
  .refine ni (Dp n 8 hC.n8 (hC.sh _ hk.1) hk.2 ?_);tm_at"f";refine ni (Dp n 8 hC.n8 (hC.sh _ g.1) g.2 ?_);tm_at"f";refine ni (uM n 8 hC.n8 (hC.sh _ hk.1) hk.2 ?_);simp only[Bool.false_eq_true,if_false];refine ni (uM n 8 hC.n8 (hC.sh _ g.1) g.2 ?_);simp only[Bool.false_eq_true,if_false];exact nF ⟨rfl,rfl,c⟩
 .rintro⟨l,k⟩ s' ⟨i,rfl,_⟩;simp only at i;subst i;exact nF h
structure RB(w:World)(C:D->Prop)(h:Heap)(es:Array (Int × Value))(kas:List (D × Addr)):Prop where
 e:es.toList=kas.map λp=>(fL w p.1,Value.ref p.2)
 k:∀ p∈kas,IsK C h p.1 p.2
def Ag(hC:KCls C n){Q:SetFound->Shared->Prop}
  (hu:A.units+n<cLine)(ho:s.heap.get? S=some o)(hd:o.data=.set es ep t)(hT:ST.TOk t es.size)(hE:RB w C s.heap es kas)(hk:IsK C s.heap ks a)(hn:∀ p∈kas,p.1≠ks)(h:∀ j,t.slot j=.empty->Q (.free j false) s) :
  ∀(d fuel:Nat)(q:Probe),ST.Eo t q d->d<10*turns t.mask->d<fuel->q.dummy=none->∀ st:Option Probe,st.getD (t.probeStart (fL w ks))=q->wpAny (model prog w) A (setSearchFrom S (.ref a) (fL w ks) true fuel st) Q E s:=by
 intro d
 induction d using Nat.strongRecOn with
 | ind d R =>
  intro fuel q G I T M st K;obtain⟨fuel,rfl⟩:∃ f,fuel=f+1:=⟨fuel - 1,by lia⟩
  have N:t.fits es.size=true:=by
   unfold SetTable.fits SetTable.fill;rw[hT.d,hT.sz];have:=hT.room;simp;exact this
  unfold setSearchFrom;refine ni (wpAny_setState_of ho hd N ?_);dsimp only;have hg:t.gaveWay=false:=by
   unfold SetTable.gaveWay;rw[hT.o]
   rfl
  rw[hg];simp only[Bool.false_eq_true,if_false];rw[K];have key:∀(F:Nat->Int)(met:Option Met),SetTable.probe t F (fL w ks) q=met->met=some (.empty (ST.adv t d q).j q.dummy)\/∃ e i,e<d/\t.slot (ST.adv t e q).j=.live i/\met=some (.candidate (ST.adv t e q).j i (t.advance (ST.adv t e q))):=λF met D=>by
   have:=ST.yr hT.d (hashAt:=F) (h:=fL w ks) d (10*turns t.mask) q G I;rw[show SetTable.probe.go t F (fL w ks) (10*turns t.mask) q=met from D] at this;rcases this with this | ⟨e,i,V,Y,_,U⟩
   .exact .inl this
   .exact .inr ⟨e,i,V,Y,U⟩
  generalize D:SetTable.probe t _ (fL w ks) q=met;rcases key _ _ D with k2 | ⟨e,i,he,O,k2⟩
  .subst k2;rw[M];exact nF (h _ G.1)
  .subst k2;have u:=ST.DY O;have hi:i<es.size:=by
    rw[← hT.sz];rcases Nat.lt_or_ge i t.place.size with z | z
    .exact z
    .rw[Array.getElem?_eq_none z] at u;cases u
   have m:i<kas.length:=by
    have:=congrArg List.length hE.e;rw[Xj,XF] at this;lia
   have g:es[i]?=some (fL w kas[i].1,Value.ref kas[i].2):=by
    rw[← Array.getElem?_toList,hE.e,XC,n6 m]
    rfl
   have b:=hE.k _ (getElem_mem m);have r:=hn _ (getElem_mem m);generalize kas[i]=Z at g b r;have l:∀ {H:Bool->Shared->Prop},H false s->wpAny (model prog w) A (searchCouldBeSeen (.ref a) ((es.filter (·.1 == fL w ks)).toList.map (·.2))) H E s:=fun {H} q=>by
    refine GD hC hk (λy W=>?_) q;obtain⟨x,v,rfl⟩:=mem_map.mp W;rw[Array.toList_filter] at v;have v:=(mem_filter.mp v).1;rw[hE.e] at v;obtain⟨p,X,rfl⟩:=mem_map.mp v;exact⟨p.1,p.2,rfl,hE.k p X⟩
   have c:wpAny (model prog w) A (do
     let some (_,y):=es[i]? | unsupported "internal:set-entry"
     let equal ← holding [y] (eqBool y (.ref a))
     let (es',_,t') ← setState S
     if true && equal then return SetFound.there none
     let some same:=t'.sameMemory t.moves t.mask | unsupported "set.changed-during-lookup:is-the-new-block-at-the-old-address"
     let still ← match (if same then t'.slot (ST.adv t e q).j else .empty) with
      | .live B=>match es'[B]? with
       | some (_,P)=>do pure (if ← isSame P y then some B else none)
       | none=>pure none
      | _=>pure none
     match still with
     | none=>rule "set.search.anew";setSearchFrom S (.ref a) (fL w ks) true fuel none
     | some B=>if equal then return .there (some B) else setSearchFrom S (.ref a) (fL w ks) true fuel (some (t.advance (ST.adv t e q)))) Q E s:=by
    rw[g];refine ni (Xo (Uc n (hC.sh _ b.1) (hC.sh _ hk.1) (hC.sm _ _ b.1 hk.1) b.2 hk.2 hu _ _ _ _ ?_));rw[Cp r];refine ni (wpAny_setState_of ho hd N ?_);simp only[Bool.and_false,Bool.false_eq_true,if_false];have J:t.sameMemory t.moves t.mask=some true:=by
     unfold SetTable.sameMemory;rw[if_pos (beq_self_eq_true _)]
    rw[J];dsimp only;rw[if_pos rfl,O];dsimp only;rw[g];refine ni (wpAny_isSame_ref_self (ni (nF ?_)));rw[if_pos rfl];have L:t.advance (ST.adv t e q)=ST.adv t (e+1) q:=(ST.rR t e 1 q).symm;refine R (d - (e+1)) (by lia) fuel (ST.adv t (e+1) q) (G.shift (by lia)) (by lia) (by lia) (by rw[ST.DQ];exact M) _ ?_;rw[L]
    rfl
   cases hl:t.led with
   | true =>
    tm_at"f";exact c
   | false =>
    simp only[Bool.not_false,if_true];refine ni (l ?_);simp only[Bool.false_eq_true,if_false];exact c
def JL{es ep t}(x:IsK C h ks a)(ho:h.get? d=some o)(hd:o.data=.set es ep t)(hs:Heap.SameBut d h h'):IsK C h' ks a:=⟨x.1,x.2.keep λb g t=>by
  obtain⟨f,e,c⟩:=t;refine⟨f,(hs.2 b λz=>?_).trans e,c⟩;subst z;obtain rfl:f=o:=Xn (e.symm.trans ho);obtain⟨_,n,c⟩:=c;rw[hd] at c;cases c⟩
structure Ni(w:World)(C:D->Prop)(h:Heap)(S:Addr)(kas:List (D × Addr)):Prop where
 ex:∃(o:Obj)(es:Array (Int × Value))(ep:Nat)(t:SetTable)(kas':List (D × Addr)),h.get? S=some o/\o.ExactSet/\o.data=.set es ep t/\ST.TOk t es.size/\es.size*5<t.mask*3/\(w.params.followText "set-order" = true\/t.led=true)/\t.mask<=8000/\kas'.Perm kas/\RB w C h es kas'
def Mv(hC:KCls C n){Q:Bool->Shared->Prop}(hu:A.units+n<cLine)(hS:Ni w C s.heap S kas)(hk:IsK C s.heap ks a)(hn:∀ p∈kas,p.1≠ks)(hz:kas.length+1<=900)
  (h:∀ h',Heap.SameBut S s.heap h'->Ni w C h' S ((ks,a)::kas)->Q true { s with heap:=h' }):wpAny (model prog w) A (setAddHashed S (.ref a) (fL w ks)) Q E s:=by
 obtain⟨o,es,ep,t,M,B,I,hd,v,a5,V,ae,hp,X⟩:=hS.ex;have hsz:es.size=kas.length:=by
  have:=congrArg List.length X.e;rw[Xj,XF,hp.length_eq] at this;exact this
 have hf:t.fits es.size=true:=by
  unfold SetTable.fits SetTable.fill;rw[v.d,v.sz];have:=v.room;simp;exact this
 unfold setAddHashed setAddHashedIn;refine Xo (ni (wpAny_setState_of B hd hf ?_));dsimp only;have hb:byScan (.ref a) es=false:=by unfold byScan;rfl
 rw[hb];simp only[Bool.false_eq_true,if_false];obtain⟨c1,c2,c3⟩:=ST.rG t (fL w ks);obtain⟨d,aT,hD⟩:=v.dist c1 c2;refine ni (Ag hC hu B hd v X hk (λp L=>hn p (hp.mem_iff.mp L)) (λj af=>?_) d 100000 _ hD (by unfold turns;lia) (by lia) c3 none rfl);refine ni (wpAny_setState_of B hd hf ?_);have U:(t.put j).1.mask=t.mask/\(t.put j).1.dummies = #[]/\(t.put j).1.place.size=es.size+1/\(t.put j).1.led=t.led/\ST.Up (t.put j).1.place:=by
  refine⟨rfl,?_,?_,rfl,ST.vD v.up (ST.qG af)⟩
  .show(if SetTable.has t.dummies j then _ else t.dummies) = #[];rw[v.d]
   rfl
  .show(SetTable.insertAt t.place _ j).size=_;rw[ST.eF,v.sz]
 obtain⟨G,Y,O,Z,m6⟩:=U;generalize (t.put j).2=p;generalize (t.put j).1=F at G Y O Z m6 ⊢
 suffices fin:∀ l:SetTable,l.mask=F.mask->l.dummies=F.dummies->l.place=F.place->l.led=F.led->wpAny (model prog w) A (do
   storeSet S (insertAt es p (fL w ks,Value.ref a)) l
   if (!false && l.tooFull)=true then do
    setRelay S (grown (es.size+1))
    pure true
   else pure true) Q E s by
  split
  .refine ni (GC n 8 hC.n8 (hC.sh _ hk.1) hk.2 λb=>?_);cases b
   .exact fin { F with plain:=false } rfl rfl rfl rfl
   .exact fin F rfl rfl rfl rfl
  .exact ni (nF (fin F rfl rfl rfl rfl))
 intro l x1 x2 x3 x5;rw[← x1] at G;rw[← x2] at Y;rw[← x3] at O m6;rw[← x5] at Z;have m:=ST.eF es p (fL w ks,Value.ref a);have R:=ST.jF es p (fL w ks,Value.ref a);generalize SetTable.insertAt es p (fL w ks,Value.ref a)=c at m R ⊢;have T:c.size<=sizeLine:=by rw[sizeLine_eq];lia
 refine ni (wpAny_storeSet_of B hd ?_ T);have x:(s.heap.update S (Obj.putSet c l)).get? S=some { o with data:=.set c (ep+1) l }:=by
  have:=Heap.get?_update_self (Obj.putSet c l) B (by rw[putSet_of c l hd];rfl);rw[putSet_of c l hd] at this;exact this
 have r:=Heap.SameBut.update s.heap S (Obj.putSet c l);have y:∀(h':Heap)(i:Array (Int × Value)),Heap.SameBut S s.heap h'->i.toList.Perm c.toList->∃ f:List (D × Addr),f.Perm ((ks,a)::kas)/\RB w C h' i f:=λh' i J aa=>by
  have ap:i.toList.Perm (((ks,a)::M).map λp=>(fL w p.1,Value.ref p.2)):=by
   refine(aa.trans R).trans ?_;rw[map_cons,X.e]
  obtain⟨f,k1,k2⟩:=ST.dg ap.symm rfl;refine⟨f,k1.trans (hp.cons _),k2,λq L=>?_⟩;rcases mem_cons.mp (k1.mem_iff.mp L) with rfl | L
  .exact JL hk B hd J
  .exact JL (X.k q L) B hd J
 have N:l.mask%2=1:=by rw[G];exact v.o
 have K:∃ k,l.mask+1=2^k:=by rw[G];exact v.k
 have ai:c.size<=l.mask:=by rw[G,m];have:=v.o;lia
 have P:l.fill=c.size:=by
  unfold SetTable.fill;rw[Y,O,m]
  rfl
 by_cases htf:l.tooFull=true
 .rw[if_pos (by rw[htf];rfl)];have ah:SetTable.grown (es.size+1)=(es.size+1)*4:=by
   unfold SetTable.grown;rw[if_neg (by lia)]
  unfold setRelay;have ad:l.fits c.size=true:=by
   unfold SetTable.fits;rw[P,O,m];simp;lia
  refine ni (ni (wpAny_setState_of x rfl ad ?_));dsimp only;rw[ah];obtain⟨kk,se,s3,s4,s5⟩:=ST.lW (n:=(es.size+1)*4) (by lia);have ac:¬ SetTable.sizeAbove ((es.size+1)*4)>sizeLine:=by
   rw[se,sizeLine_eq];lia
  rw[if_neg ac];obtain⟨H,g,r1,r2,r3,r4,r5,r6,r7⟩:=ST.ur (hashes:=c.map (·.1)) (wanted:=(es.size+1)*4) (by lia) (by rw[Array.size_map,m];lia) (by lia);rw[Array.size_map] at r2 r3;refine ni ?_;rw[r1];have u:(g.filterMap (c[·]?)).toList.Perm c.toList:=by
   rw[Array.toList_filterMap];refine(r3.filterMap _).trans ?_;have:=W.krv_all c;rw[this]
  have hsz2:(g.filterMap (c[·]?)).size=c.size:=by
   have:=u.length_eq;rw[Xj,Xj] at this;exact this
  show wpAny (model prog w) A (if ((g.filterMap (c[·]?)).size != c.size)=true then _ else pure (g.filterMap (c[·]?),H)) _ _ _;rw[hsz2,if_neg (by simp)];refine nF ?_;generalize g.filterMap (c[·]?)=i at u hsz2;refine wpAny_storeSet_of x rfl ?_ (by rw[hsz2];exact T);have ab:((s.heap.update S (Obj.putSet c l)).update S (Obj.putSet i H)).get? S=some { o with data:=.set i (ep+1+1) H }:=by
   have:=Heap.get?_update_self (Obj.putSet i H) x rfl;exact this
  have z:=r.trans (Heap.SameBut.update _ S (Obj.putSet i H));obtain⟨f,k1,k2⟩:=y _ i z u;refine nF (h _ z ⟨_,i,_,H,f,ab,I,rfl,by rw[hsz2];exact r2,by rw[hsz2,m];lia,by rw[r5,Z];exact V,by lia,k1,k2⟩)
 .rw[if_neg (by simpa using htf)];obtain⟨f,k1,k2⟩:=y _ c r (List.Perm.refl _);have ag:c.size*5<l.mask*3:=by
   unfold SetTable.tooFull at htf;rw[P] at htf;simp at htf;exact htf
  exact nF (h _ r ⟨_,c,_,l,f,x,I,rfl,⟨K,Y,by rw[O,m],ai,N,m6⟩,ag,by rw[Z];exact V,by rw[G];exact ae,k1,k2⟩)
end
end SN
namespace SX
open PySem PySem.Spec PyProof.Rows
section
variable {prog:Program}{w:World}{A:Around}{R:Result->Shared->Prop}{I:Addr}{fp wr:List Addr}{G:Array GenState->Array GenState->Prop}{n:Nat}{P:Nat->Value->Prop}{St:Nat->Shared->Prop}
def Ox(W:WalksS prog w A.in1 I fp wr G n P St)(S:Addr)(nf:S ∉ fp)(h0:Heap)(hold:∀ b o,h0.get? b=some o->b ∉ S::wr)(SS:Nat->Heap->Prop)
  (frame:∀ i h h',SS i h->(∀ o,h.get? S=some o->h'.get? S=some o)->(∀ b o,h0.get? b=some o->h'.get? b=some o)->SS i h')
  (add:∀(i:Nat)(v:Value)(s:Shared)(E:Value->Shared->Prop)(Q:Bool->Shared->Prop),i<n->P i v->SS i s.heap->(∀ b o,h0.get? b=some o->s.heap.get? b=some o)->(∀(b:Bool)(h':Heap)(tk:Nat),s.toks<=tk->Heap.SameBut S s.heap h'->SS (i+1) h'->Q b { s with heap:=h',toks:=tk })->wpAny (model prog w) A.in1 (setAdd S v) Q E s) :
  ∀(k i:Nat)(s:Shared),n - i=k->i<=n->St i s->SS i s.heap->(∀ b o,h0.get? b=some o->s.heap.get? b=some o)->(∀ s',Moved (S::wr) G s s'->SS n s'.heap->R (.ok (.ret .none)) s') ->
   codeAny (model prog w) A (.builtin "set.update.loop" ⟨[.ref S,.ref I],[]⟩) R s:=by
 have y:S ∉ wr:=λz=>nf (W.sub _ z)
 have sub:∀ b∈wr,b∈S::wr:=λb z=>Xm _ z
 have f:∀ b o,h0.get? b=some o->b ∉ wr:=λb o e z=>hold b o e (Xm _ z)
 have x:∀ b o,h0.get? b=some o->b≠S:=λb o e z=>hold b o e (by rw[z];exact Xl)
 intro k
 induction k with
 | zero =>
  intro i s ek B st m p q;have e:i=n:=by lia
  subst e;refine codeAny_builtin F.entry_set_update_loop ?_;rw[Around.under_plainId F.plain_set_update_loop _];show wpAny _ A.in1 (pyNext (.ref I) >>= _) _ _ _;refine ni (W.done s _ _ st λs' a=>?_);show wpAny _ A.in1 (ret Value.none) _ _ _;exact nF (q s' (a.mono sub) (frame _ _ _ m (λo e=>a.heap S o y e) λb o e=>a.heap b o (f b o e) (p b o e)))
 | succ k D =>
  intro i s ek B st m p q;have lt:i<n:=by lia
  refine codeAny_builtin F.entry_set_update_loop ?_;rw[Around.under_plainId F.plain_set_update_loop _];show wpAny _ A.in1 (pyNext (.ref I) >>= _) _ _ _;refine ni (W.item i s _ _ lt st λv s' C r a=>?_);have c:∀ b o,h0.get? b=some o->s'.heap.get? b=some o:=λb o e=>a.heap b o (f b o e) (p b o e)
  have hS':=frame _ _ _ m (λo e=>a.heap S o y e) c;show wpAny _ A.in1 (holding [v] (setAdd S v) >>= _) _ _ _;refine ni (Xo ?_);refine add i v s' _ _ lt C hS' c λb g tk d t hS2=>?_
  refine nF ⟨plainId_quiet F.plain_set_update_loop _,D (i+1) _ (by lia) lt (W.frame _ s' _ _ r d λb l o e=>?_) hS2 (λb o e=>?_) λj u hS''=>?_⟩
  .rw[t.2 b λz=>nf (z ▸ l)];exact e
  .exact(t.2 b (x b o e)).trans (c b o e)
  .refine q j (Moved.trans W.gtrans ((a.mono sub).then_heap d λb o l e=>?_) u) hS'';rw[t.2 b λz=>l (by rw[z];exact Xl)];exact e
end
def pK{E:Value->Shared->Prop}{SS:Nat->Heap->Prop}{Q:Value->Shared->Prop}
  (hd:A.handled=none)(tl:s.heap.IsTuple l items\/s.heap.IsList l items)
  (frame:∀ i h h',SS i h->(∀ o,h.get? s.heap.objs.size=some o->h'.get? s.heap.objs.size=some o)->(∀ b o,s.heap.get? b=some o->h'.get? b=some o)->SS i h')
  (add:∀(A':Around)(i:Nat)(v:Value)(s':Shared)(E:Value->Shared->Prop)(Q:Bool->Shared->Prop),A'.units<=A.units+8->i<items.size->items[i]?=some v->SS i s'.heap->(∀ b o,s.heap.get? b=some o->s'.heap.get? b=some o)->(∀(b:Bool)(h':Heap)(tk:Nat),s'.toks<=tk->Heap.SameBut s.heap.objs.size s'.heap h'->SS (i+1) h'->Q b { s' with heap:=h',toks:=tk })->wpAny (model prog w) A' (setAdd s.heap.objs.size v) Q E s')
  (new:∀(led:Bool)(h:Heap),(w.params.followText "set-order" = true\/led=true)->h.get? s.heap.objs.size=some { cls:=.type "set",dict:=none,data:=.set #[] 0 (.fresh 0 0 led) }->(∀ b o,s.heap.get? b=some o->h.get? b=some o)->SS 0 h)
  (q:∀(g:Heap)(tk:Nat),SS items.size g->(∀ b o,b<s.heap.objs.size->s.heap.get? b=some o->g.get? b=some o)->Q (.ref s.heap.objs.size) { s with heap:=g,toks:=tk }) :
  wpAny (model prog w) A (call (.type "set") [.ref l]) Q E s:=by
 obtain⟨c,ay,aa⟩:=PySem.F.called_set.mro;have I:=PySem.F.called_set.made;have Y:=PySem.F.called_set.sub;refine wpAny_call (codeAny_of_tree ?_);show wpAny _ _ (callAny (.type "set") _) _ _ _;refine nF ⟨Code.quiet_builtin _ (by decide +kernel),codeAny_builtin PySem.F.entry_type_call ?_⟩;rw[Around.under_plain (weight_type_call_type "set" [.ref l] []) rfl];have h1:=PySem.F.called_set.notType;have h2:=PySem.F.called_set.canCreate;have ad:=PySem.F.typeCall_set_1 (.ref l)
 repeat (any_goals (first | assumption | wp_step))
 refine codeAny_mono (rP (.ref l) (E:=E) (Q₁:=λob X=>∃ led:Bool,(w.params.followText "set-order" = true\/led=true)/\ob=.ref s.heap.objs.size/\X={ s with heap:=s.heap.push { cls:=.type "set",dict:=none,data:=.set #[] 0 (.fresh 0 0 led) } }) ⟨_,by cases w.params.followText "set-order" <;> simp,rfl,rfl⟩) λr X M=>?_
 cases r with
 | error e=>exact M
 | ok fl =>
  cases fl with
  | ret ob =>
   obtain⟨led,t,rfl,rfl⟩:=M;have V:(s.heap.push { cls:=.type "set",dict:=none,data:=.set #[] 0 (.fresh 0 0 led) }).get? s.heap.objs.size=some { cls:=.type "set",dict:=none,data:=.set #[] 0 (.fresh 0 0 led) }:=Q0 _ rfl;have tS:Shared.TypeIs { s with heap:=s.heap.push { cls:=.type "set",dict:=none,data:=.set #[] 0 (.fresh 0 0 led) } } (.ref s.heap.objs.size) "set":=⟨_,V,rfl⟩
   have as:=PySem.F.called_set.init.lookup;have ai:=PySem.F.called_set.init.bind (.ref s.heap.objs.size)
   repeat (any_goals (first | assumption | wp_step))
   refine codeAny_mono (codeAny_call_builtin (R:=wants (λr s₂=>r=.none/\∃ g tk,s₂={ s with heap:=g,toks:=tk }/\SS items.size g /\
     (∀ b o,b<s.heap.objs.size->s.heap.get? b=some o->g.get? b=some o)) E) PySem.F.called_set.init.plain PySem.F.entry_set_init (check_set_init_1 tS ?_)) λr₂ s₂ d=>?_
   .rcases tl with⟨⟨oc,od,y,D⟩,j,k,nl,f⟩ | ⟨⟨oc,od,y,D⟩,j,k,nl,f⟩
    all_goals
     simp only at k f;subst k;subst f;have a:=n7 { cls:=.type "set",dict:=none,data:=.set #[] 0 (.fresh 0 0 led) } j;have ac:=PySem.F.sub_tuple_set;have Z:=PySem.F.sub_tuple_frozenset;have az:(Value.type "tuple" == Value.type "dict")=false:=by decide
     have W:=PySem.F.sub_list_set;have U:=PySem.F.sub_list_frozenset;have an:(Value.type "list" == Value.type "dict")=false:=by decide
     unfold Builtin.«set.__init__» noKeywords Builtin.Frozenset.updateFrom;generalize hPI:pyIter=PI
     wp_walk
     subst hPI
     first | refine wpAny_pyIter_tuple (items:=items) ⟨_,a,rfl,nl,rfl⟩ (ni (wpAny_runValue ?_)) | refine wpAny_pyIter_list (items:=items) ⟨_,a,rfl,nl,rfl⟩ (ni (wpAny_runValue ?_))
     have S:l<s.heap.objs.size:=I3 j;have p:A.in1.in1.in1.handled=none:=by simp[hd]
     have m:l≠(s.heap.push { cls:=.type "set",dict:=none,data:=.set #[] 0 (.fresh 0 0 led) }).objs.size:=by
      rw[Heap.size_push];exact J6 (XH S)
     have T:s.heap.objs.size ∉ [(s.heap.push { cls:=.type "set",dict:=none,data:=.set #[] 0 (.fresh 0 0 led) }).objs.size,l]:=by
      rw[Heap.size_push];simp only[mem_cons,mem_singleton,not_mem_nil,or_false,not_or];exact⟨J6 (Nat.lt_succ_self _),Nat.ne_of_gt S⟩
     first | refine Ox ((Walks.tuple p _ l m items).toS) s.heap.objs.size T s.heap ?hold SS frame (λi v s' H G P x C N J=>add _ i v s' H G ?hun P x C N J) (items.size - 0) 0 _ (by lia) (Nat.zero_le _) ⟨⟨_,Q0 _ rfl,rfl,rfl⟩,Heap.IsTuple.push ⟨_,a,rfl,nl,rfl⟩ _⟩ ?hS0 ?hO ?hR | refine Ox ((Walks.list p _ l m items).toS) s.heap.objs.size T s.heap ?hold SS frame (λi v s' H G P x C N J=>add _ i v s' H G ?hun P x C N J) (items.size - 0) 0 _ (by lia) (Nat.zero_le _) ⟨⟨_,Q0 _ rfl,rfl,rfl⟩,Heap.IsList.push ⟨_,a,rfl,nl,rfl⟩ _⟩ ?hS0 ?hO ?hR
     case hold =>
      intro b o e;have n:=I3 e;rw[Heap.size_push];simp only[mem_cons,mem_singleton,not_mem_nil,or_false,not_or];exact⟨J6 n,J6 (XH n)⟩
     case hun=>first | (simp only[Around.in1];lia) | simp
     case hO=>exact λb o e=>n7 _ (n7 _ e)
     case hS0=>exact new led _ t (n7 _ V) λb o e=>n7 _ (n7 _ e)
     case hR =>
      intro s' u hS';obtain⟨g,gg,d',K,O⟩:=s';have e1:gg=s.gens:=u.gens;have e2:d'=s.drawn:=u.drawn;have e3:O=s.os:=u.os;subst e1;subst e2;subst e3;show wpAny _ _ _ _ _ _;refine nF ?_;show wpAny _ _ (ret Value.none) _ _ _;refine nF ⟨rfl,g,K,rfl,hS',λb o n e=>?_⟩;have L:b≠(s.heap.push { cls:=.type "set",dict:=none,data:=.set #[] 0 (.fresh 0 0 led) }).objs.size:=by
       rw[Heap.size_push];exact J6 (XH n)
      exact u.heap b o (by simp only[mem_cons,mem_singleton,not_mem_nil,or_false,not_or];exact⟨J6 n,L⟩) (n7 _ (n7 _ e))
   .cases r₂ with
    | error e=>exact d
    | ok z =>
     cases z with
     | ret r =>
      obtain⟨rfl,g,tk,rfl,hS',B⟩:=d
      repeat (any_goals (first | assumption | wp_step))
      exact q _ _ hS' B
     | _=>exact d.elim
  | _=>exact M.elim
end SX
namespace SO
open PySem PySem.W PyProof.Rows
variable {O:KeyOrd}{key:Nat->O.α}{N:Nat}
end SO
namespace L2
open PySem PySem.W PyProof.Rows
section
variable {X:Cx}{pins:List (Addr × Obj)}{σ:St}{H:Hp}{s:Shared}
def S6(X:Cx)(s:Shared)(its:List Value)(ds:List D):Prop:=∃ κ:SortKind,
 (2<=its.length->∀ h',SO.Keeps s.heap h'->∀(E:Value->Shared->Prop)(Q:SortKind->Shared->Prop),Q κ { s with heap:=h' }->wpAny (model X.prog X.w) X.A.in1.in1 (keyKind' its.toArray) Q E { s with heap:=h' }) /\
 (∀ h',SO.Keeps s.heap h'->SO.Cmp (O:=Gv) (λi=>ds.getD i .non) its.length (W.kas_ask X.prog X.w X.A.in1.in1 κ its) { s with heap:=h' })
def Rk(hu:X.A.units+64<cLine)(I:Inv X pins σ H s)(hD:bW H vs a)(rv:Vals vs its)(hom:Hom a)(h64:a.length<=100000)(hsh:∀ d∈a,dz 50 d):S6 X s its a:=by
 have l1:=hD.len;have l2:=rv.length;have one:(∀ d∈a,∀ xs,d≠.tup xs)->∀ T,(T != Value.type "tuple")=true->(T == T)=true->(∀ d∈a,tyD d=T)->S6 X s its a:=by
  intro nt T hT1 hT2 hT;refine⟨oneType',λL h' kp E Q q=>?_,λh' kp i j C g hj q=>?_⟩
  .refine W.kas_kind L (λv hv=>?_) hT1 hT2 q;obtain⟨i,g,rfl⟩:=mem_iff_getElem.mp hv;obtain⟨x,v,e1,Z,e3,M,P,h⟩:=at3 (i:=i) hD rv (by lia);rw[n6 g] at Z;cases Z;rw[← hT _ h];exact mY I kp (hom.1 _ h _ h) M P
  .obtain⟨x,v,e1,Z,e3,M,P,h⟩:=at3 (i:=i) hD rv (by lia);obtain⟨y,u,f1,f2,f3,Y,f5,N⟩:=at3 (i:=j) hD rv (by lia);unfold W.kas_ask;rw[e3,f3,keyLt'_oneType];exact mW (hom.1 _ h _ N) M Y P f5 (nt _ h) _ _ q
 rcases hom.2 with g | g | g
 .exact one (λd hd xs e=>by obtain⟨i,z⟩:=g d hd;rw[z] at e;cases e) (.type "int") (by decide) (by rfl) (λd hd=>by obtain⟨i,z⟩:=g d hd;rw[z];rfl)
 .exact one (λd hd xs e=>by obtain⟨i,z⟩:=g d hd;rw[z] at e;cases e) (.type "str") (by decide) (by rfl) (λd hd=>by obtain⟨i,z⟩:=g d hd;rw[z];rfl)
 .obtain⟨T,hT2,hT⟩:∃ T:Value,(T == T)=true/\∀ d r,D.tup (d::r)∈a->tyD d=T/\Sim d d:=by
   cases hds:a with
   | nil=>exact⟨.type "int",by rfl,λd r z=>by cases z⟩
   | cons d0 bq =>
    obtain⟨e0,r0,rfl⟩:=g d0 (by rw[hds];exact .head _);refine⟨tyD e0,zx e0,λd r z=>?_⟩;have s1:=hom.1 _ (show D.tup (d::r)∈a by rw[hds];exact z) (.tup (e0::r0)) (by rw[hds];exact .head _);have s2:=hom.1 _ (show D.tup (d::r)∈a by rw[hds];exact z) (.tup (d::r)) (by rw[hds];exact z);exact⟨Ga s1.1,s2.1⟩
  refine⟨tuples' (T != Value.type "tuple"),λL h' kp E Q q=>?_,λh' kp i j C br hj q=>?_⟩
  .obtain⟨fs,k,l,m⟩:=kat_tups I kp hD rv g;refine W.kat_kind k (by lia) (T:=T) (λv hv=>?_) hT2 q;obtain⟨x,d,r,z1,z2,z3⟩:=m v hv;obtain⟨t1,t2⟩:=hT d r z3;rw[← t1];exact mY I kp t2 z1 z2
  .obtain⟨x,v,e1,Z,e3,M,P,h⟩:=at3 (i:=i) hD rv (by lia);obtain⟨y,u,f1,f2,f3,Y,f5,N⟩:=at3 (i:=j) hD rv (by lia);unfold W.kas_ask;rw[e3,f3];have F:C (dlt (a.getD i .non) (a.getD j .non)) { s with heap:=h' }:=q;obtain⟨n,o,E1⟩:=g _ h;obtain⟨t,w,E2⟩:=g _ N;have R:=hsh _ h;have O:=hsh _ N;have sm:=hom.1 _ h _ N;rw[E1] at M h F R sm;rw[E2] at Y N F O sm;obtain⟨a1,w1,rfl,ax,J⟩:=aO M;obtain⟨a2,w2,rfl,ap,B⟩:=aO Y;cases P;cases f5;obtain⟨c,v1,⟨o1,az,bv,n1,an⟩,_⟩:=I.tuple (SqT.of (K:=X.K) ax);obtain⟨b,v2,⟨o2,aE,a6,n2,ah⟩,_⟩:=I.tuple (SqT.of (K:=X.K) ap);have k1:=J.len;have k2:=B.len;have k3:=v1.length;have k4:=v2.length;have cm:=QJ I (s':={ s with heap:=h' }) kp 49;have G:∀(k:Nat)(p q:Value),(c.zip b)[k]?=some (p,q)->∃(x y:V),Den H x ((n::o).getD k .non)/\Den H y ((t::w).getD k .non)/\RelV x p/\RelV y q/\Sim ((n::o).getD k .non) ((t::w).getD k .non)/\dz 49 ((n::o).getD k .non)/\dz 49 ((t::w).getD k .non):=by
    intro k p q hz;rw[List.getElem?_zip_eq_some] at hz;have b1:=(pN.mp hz.1).1;have b2:=(pN.mp hz.2).1;obtain⟨x1,p1,_,g1,_,g2,g3,g4⟩:=at3 (i:=k) J v1 (by lia);obtain⟨x2,p2,_,S,_,am,as,av⟩:=at3 (i:=k) B v2 (by lia);rw[hz.1] at g1;rw[hz.2] at S;cases g1;cases S;refine⟨x1,x2,g2,am,g3,as,sm.at_ (i:=k) ?_ ?_,(R.2 _ rfl).2 _ g4,(O.2 _ rfl).2 _ av⟩
    .rw[qu,n6 (by lia)];rfl
    .rw[qu,n6 (by lia)];rfl
   refine W.kat_lt (kp _ _ az) an (kp _ _ aE) ah (SO.Ek (e:=λk=>eqD ((n::o).getD k .non) ((t::w).getD k .non)) (f:=λk=>dlt ((n::o).getD k .non) ((t::w).getD k .non)) _ 0 (λk p q z=>?_) (λk p q z _ Q E F=>?_) ?_)
   .obtain⟨x,y,h1,L,h3,h4,U,h6,h7⟩:=G k p q z;rw[Nat.zero_add];exact(cm _ _ _ _ _ _ _ h6 h7 U h1 L h3 h4 (by simp only[Around.in1];lia)).1
   .obtain⟨x,y,h1,L,h3,h4,U,h6,h7⟩:=G k p q z;rw[Nat.zero_add] at F ⊢;have lt:=(cm _ _ X.A.in1.in1 _ _ _ _ h6 h7 U h1 L h3 h4 (by simp only[Around.in1];lia)).2;cases hb:(T != Value.type "tuple") && k == 0 with
    | false=>exact uQ lt Q E F
    | true =>
     rw[Bool.and_eq_true,beq_iff_eq] at hb;obtain⟨hb,rfl⟩:=hb;have t1:=hT n o h;exact mW U h1 L h3 h4 (show ∀ a,n≠.tup a from Ef t1.2 (by rw[t1.1];exact hb)) Q E F
   .have hl:=mX (n::o) (t::w);have e:List.range' 0 (c.toArray.toList.zip b.toArray.toList).length=List.range (min (n::o).length (t::w).length):=by
     rw[List.range_eq_range'];congr 1;simp only[length_zip];lia
    have ef:decide (c.toArray.size<b.toArray.size)=decide ((n::o).length<(t::w).length):=by
     rw[show c.toArray.size=(n::o).length by simp at k1 k3 ⊢;lia,show b.toArray.size=(t::w).length by simp at k2 k4 ⊢;lia]
    rw[e,ef,hl];rw[BX] at F;exact F
end
end L2
namespace L2
open PySem PySem.Spec PyProof.Rows
theorem uw:∀ as:List Addr,Vals (as.map V.ref) (as.map Value.ref)
 | []=>.nil
 | _::as=>.cons rfl (uw as)
theorem yw:∀ {p:List Int}{a:List V},bW H a (p.map D.int)->a=p.map V.int
 | [],[],_=>rfl
 | i::p,v::a,h=>by
  obtain⟨c,b⟩:=h;rw[show v=V.int i from c,yw b]
  rfl
 | [],_::_,h=>h.elim
 | _::_,[],h=>h.elim
end L2
namespace ST
open PySem PySem.SetTable
structure Ih{α:Type}(w:World)(pl:Bool)(ent:α × Tok->Int × Value)(h:Heap)(S:Addr)(ns:List α):Prop where
 ex:∃(o:Obj)(es:Array (Int × Value))(ep:Nat)(t:SetTable)(kts:List (α × Tok)),h.get? S=some o/\o.ExactSet/\o.data=.set es ep t/\TOk t es.size/\es.size*5<t.mask*3/\(pl=true->t.plain=true)/\(w.params.followText "set-order" = true\/t.led=true)/\t.mask<=9000/\(kts.map (·.1)).Perm ns/\es.toList=kts.map ent
def xq{α:Type}[DecidableEq α](ns:List α)(k:α):List α:=if k∈ns then ns else k::ns
def Ih.keep{α:Type}{ent:α × Tok->Int × Value}{ns:List α}(x:Ih w pl ent h S ns)(hS:∀ o,h.get? S=some o->h'.get? S=some o):Ih w pl ent h' S ns:=by
 obtain⟨o,es,ep,t,a,b,r⟩:=x.ex;exact⟨o,es,ep,t,a,hS o b,r⟩
def Ih.new{α:Type}{pl:Bool}{ent:α × Tok->Int × Value}{led:Bool}(hl:w.params.followText "set-order" = true\/led=true)(e:h.get? S=some { cls:=.type "set",dict:=none,data:=.set #[] 0 (.fresh 0 0 led) }):Ih w pl ent h S [] :=
 ⟨_,#[],0,.fresh 0 0 led,[],e,⟨rfl,rfl,rfl⟩,rfl,⟨⟨3,rfl⟩,rfl,rfl,by show 0<=7;decide,by show 7%2=1;rfl,Up.nil⟩,by show 0*5<7*3;decide,λ_=>rfl,hl,by show 7<=9000;decide,.refl _,rfl⟩
def Ql(a:TOk t es.size)(hrm:es.size*5<t.mask*3):∃ j,t.slot j=.empty/\layNew t es h x=(insertAt es (t.put j).2 (h,x),(t.put j).1,false,false):=by
 obtain⟨n,p,g⟩:=rG t h;obtain⟨d,l,c⟩:=a.dist n p;have b:t.freeSlot h=some ((adv t d (t.probeStart h)).j,false):=by
  unfold SetTable.freeSlot;have:t.probe (λ_=>h+1) h (t.probeStart h)=some (.empty (adv t d (t.probeStart h)).j none):=by
   unfold SetTable.probe;rcases yr a.d (hashAt:=λ_=>h+1) (h:=h) d (10*turns t.mask) (t.probeStart h) c (by unfold turns;lia) with z | ⟨e,i,_,_,z,_⟩
   .rw[z,g]
   .have z:=z;lia
  rw[this]
  rfl
 refine⟨_,c.1,?_⟩;unfold layNew;rw[b];dsimp only;have f:(t.put (adv t d (t.probeStart h)).j).1.fits (insertAt es (t.put (adv t d (t.probeStart h)).j).2 (h,x)).size=true:=by
  unfold SetTable.fits SetTable.fill;have k:(t.put (adv t d (t.probeStart h)).j).1.dummies = #[]:=by
   show(if SetTable.has t.dummies _ then _ else t.dummies) = #[];rw[a.d]
   rfl
  have m:(t.put (adv t d (t.probeStart h)).j).1.place.size=es.size+1:=by
   show(SetTable.insertAt t.place _ _).size=_;rw[eF,a.sz]
  have o:(t.put (adv t d (t.probeStart h)).j).1.mask=t.mask:=rfl;rw[k,m,o,eF];simp;lia
 unfold SetTable.orStandIn;rw[if_pos f,f]
 rfl
section
variable {prog:Program}{w:World}{A:Around}{E:Value->Shared->Prop}{s:Shared}
def zB{α:Type}[DecidableEq α]{knd:KeyKind prog w α}{ent:α × Tok->Int × Value}{ns:List α}{k:α}{Q:Bool->Shared->Prop}(he:∀ p,(ent p).1=knd.hash p.1/\knd.is p.1 (ent p).2=true/\(ent p).2.scannable=true)
  (M:∀ {β:Type}{A:Around}{s:Shared}{K:Bool->Sem β}{Q:β->Shared->Prop},(∀ b,(pl=true->b=true)->wpAny (model prog w) A (K b) Q E s)->wpAny (model prog w) A (hashByValue 8 (ent (k,tk)).2 >>= K) Q E s)(hS:Ih w pl ent s.heap S ns)(hz:ns.length+1<=1002)
  (h:∀(b:Bool)(h':Heap),Heap.SameBut S s.heap h'->Ih w pl ent h' S (xq ns k)->Q b { s with heap:=h' }):wpAny (model prog w) A (setAddHashed S (ent (k,tk)).2 (knd.hash k)) Q E s:=by
 obtain⟨o,es,ep,t,aE,ho,F,hd,m,aI,ay,Z,am,hp,G⟩:=hS.ex;have ek:ent (k,tk)=(knd.hash k,(ent (k,tk)).2):=Prod.ext (he _).1 rfl;have hx:=he (k,tk);generalize (ent (k,tk)).2=x at ek hx M ⊢;have hsz:es.size=ns.length:=by
  have:=congrArg List.length G;rw[Xj,XF] at this;have h2:=hp.length_eq;rw[XF] at h2;lia
 have hf:t.fits es.size=true:=by
  unfold SetTable.fits SetTable.fill;rw[m.d,m.sz];have:=m.room;simp;exact this
 have P:ElemsOf knd es.toList:=λe J=>by
  rw[G] at J;obtain⟨p,_,rfl⟩:=mem_map.mp J;exact⟨⟨p.1,(he p).2.1,(he p).1⟩,(he p).2.2⟩
 unfold setAddHashed setAddHashedIn;refine Xo (ni (wpAny_setState_of ho hd hf ?_));dsimp only;rw[byScan_of (knd:=knd) hx.2.2 (by unfold scanBound;lia) P];simp only[↓reduceIte];unfold setAddByScan;refine ni ?_;refine ni (wpAny_rule ?_);refine ni (wpAny_setScan_of hx.2.1 ho hd hf P ?_);have y:(∃ e∈es.toList,knd.is k e.2=true)↔k∈ns:=by
  constructor
  .rintro⟨e,J,z⟩;rw[G] at J;obtain⟨p,l,rfl⟩:=mem_map.mp J;exact hp.mem_iff.mp (mem_map.mpr ⟨p,l,knd.inj _ _ _ (he p).2.1 z⟩)
  .intro z;obtain⟨p,l,e⟩:=mem_map.mp (hp.mem_iff.mpr z);exact⟨ent p,by rw[G];exact mem_map_of_mem l,by rw[← e];exact(he p).2.1⟩
 cases hr:List.findIdx? (λe=>knd.is k e.2) es.toList with
 | some j =>
  obtain⟨hj,ag,_⟩:=List.findIdx?_eq_some_iff_getElem.mp hr;have hk:=y.mp ⟨_,getElem_mem hj,ag⟩;refine nF (nF ?_);have e:s={ s with heap:=s.heap }:=by cases s;rfl
  have:=h false s.heap (Heap.SameBut.refl S s.heap) (by unfold xq;rw[if_pos hk];exact hS);rw[e];exact this
 | none =>
  have hk:k ∉ ns:=λz=>by
   obtain⟨e,he,z⟩:=y.mpr z;have:=List.findIdx?_eq_none_iff.mp hr e he;rw[z] at this;exact Bool.noConfusion this
  have X:xq ns k=k::ns:=if_neg hk;obtain⟨j,ap,hL⟩:=Ql m aI;rw[hL];dsimp only;have U:(t.put j).1.mask=t.mask/\(t.put j).1.dummies = #[]/\(t.put j).1.place.size=es.size+1/\(pl=true->(t.put j).1.plain=true)/\(t.put j).1.led=t.led/\Up (t.put j).1.place:=by
   refine⟨rfl,?_,?_,ay,rfl,vD m.up (qG ap)⟩
   .show(if SetTable.has t.dummies j then _ else t.dummies) = #[];rw[m.d]
    rfl
   .show(SetTable.insertAt t.place _ j).size=_;rw[eF,m.sz]
  obtain⟨C,N,O,I,V,m6⟩:=U;have n:=eF es (t.put j).2 (knd.hash k,x);have R:=jF es (t.put j).2 (knd.hash k,x);generalize SetTable.insertAt es (t.put j).2 (knd.hash k,x)=a at n R ⊢;generalize (t.put j).1=t0 at C N O I V m6 ⊢;have T:a.size<=sizeLine:=by rw[sizeLine_eq];lia
  refine ni (nF ?_)
  suffices fin:∀ v:Bool,(pl=true->v=true)->_ by
   split
   .exact M fin
   .exact ni (nF (fin _ λ_=>rfl))
  intro v af;generalize et:(if v=true then t0 else { t0 with plain:=false })=t1;replace C:t1.mask=t.mask:=by rw[← et,← C];cases v <;> rfl
  replace N:t1.dummies = #[]:=by rw[← et,← N];cases v <;> rfl
  replace O:t1.place.size=es.size+1:=by rw[← et,← O];cases v <;> rfl
  replace I:pl=true->t1.plain=true:=λz=>by rw[← et,if_pos (af z)];exact I z
  replace V:t1.led=t.led:=by rw[← et,← V];cases v <;> rfl
  replace m6:Up t1.place:=by rw[← et];cases v <;> exact m6
  refine ni (wpAny_storeSet_of ho hd ?_ T);have B:(s.heap.update S (Obj.putSet a t1)).get? S=some { o with data:=.set a (ep+1) t1 }:=by
   have:=Heap.get?_update_self (Obj.putSet a t1) ho (by rw[putSet_of a t1 hd];rfl);rw[putSet_of a t1 hd] at this;exact this
  have q:=Heap.SameBut.update s.heap S (Obj.putSet a t1);have r:∀(f:Array (Int × Value)),f.toList.Perm a.toList->∃ u:List (α × Tok),(u.map (·.1)).Perm (xq ns k)/\f.toList=u.map ent:=λf ah=>by
   have l:f.toList.Perm (((k,tk)::aE).map ent):=by
    refine(ah.trans R).trans ?_;rw[map_cons,G,ek]
   obtain⟨g,k1,k2⟩:=dg l.symm rfl;refine⟨g,(k1.map (·.1)).trans ?_,k2⟩;rw[X,map_cons];exact hp.cons _
  have L:t1.mask%2=1:=by rw[C];exact m.o
  have H:∃ k,t1.mask+1=2^k:=by rw[C];exact m.k
  have ax:a.size<=t1.mask:=by rw[C,n];have:=m.o;lia
  have as:t1.fill=a.size:=by
   unfold SetTable.fill;rw[N,O,n]
   rfl
  by_cases htf:t1.tooFull=true
  .rw[if_pos (by rw[htf];rfl)];have aw:SetTable.grown a.size=a.size*4:=by
    unfold SetTable.grown;rw[if_neg (by lia)]
   obtain⟨D,c,r1,Y,r3,r4,r5,r6,r7⟩:=ur (hashes:=a.map (·.1)) (wanted:=a.size*4) (by lia) (by rw[Array.size_map];lia) (by lia);rw[Array.size_map] at Y r3;have i:(c.filterMap (a[·]?)).toList.Perm a.toList:=by
    rw[Array.toList_filterMap];refine(r3.filterMap _).trans ?_;have:=W.krv_all a;rw[this]
   have hsz2:(c.filterMap (a[·]?)).size=a.size:=by
    have:=i.length_eq;rw[Xj,Xj] at this;exact this
   have av:relayAll t1 a (SetTable.grown a.size)=(c.filterMap (a[·]?),D,false):=by
    unfold relayAll;rw[aw,r1];dsimp only;have c1:coversAll c a.size=true:=by
     unfold coversAll;exact List.isPerm_iff.mpr r3
    have c2:D.fits (c.filterMap (a[·]?)).size=true:=by
     unfold SetTable.fits SetTable.fill;rw[Y.d,Y.sz,hsz2];have:=Y.room;simp;exact this
    rw[if_pos (by rw[c1,c2];rfl)]
   rw[av];refine ni (nF ?_);generalize c.filterMap (a[·]?)=f at i hsz2;refine ni (wpAny_storeSet_of B rfl ?_ (by rw[hsz2];exact T));have ai:((s.heap.update S (Obj.putSet a t1)).update S (Obj.putSet f D)).get? S=some { o with data:=.set f (ep+1+1) D }:=by
    have:=Heap.get?_update_self (Obj.putSet f D) B rfl;exact this
   have aa:=q.trans (Heap.SameBut.update _ S (Obj.putSet f D));obtain⟨g,k1,k2⟩:=r f i;refine nF (nF (h true _ aa ⟨_,f,_,D,g,ai,F,rfl,by rw[hsz2];exact Y,by rw[hsz2];lia,λz=>by rw[r4];exact I z,by rw[r5,V];exact Z,by lia,k1,k2⟩))
  .rw[if_neg (by simpa using htf)];obtain⟨g,k1,k2⟩:=r a (List.Perm.refl _);have ar:a.size*5<t1.mask*3:=by
    unfold SetTable.tooFull at htf;rw[as] at htf;simp at htf;exact htf
   refine nF (nF (h true _ q ⟨_,a,_,t1,g,B,F,rfl,⟨H,N,by rw[O,n],ax,L,m6⟩,ar,I,by rw[V];exact Z,by rw[C];exact am,k1,k2⟩))
end
def Q9(p:Int × Tok):Int × Value:=(hashInt p.1,.int p.1 p.2)
def Sw(w:World)(p:Str × Tok):Int × Value:=(hashStr w p.1,.str p.1 p.2)
abbrev Ld(w:World)(h:Heap)(S:Addr)(ns:List Int):Prop:=Ih w true Q9 h S ns
abbrev Mf(w:World)(h:Heap)(S:Addr)(ns:List Str):Prop:=Ih w false (Sw w) h S ns
section
variable {prog:Program}{w:World}{A:Around}{E:Value->Shared->Prop}{s:Shared}
def add_int{Q:Bool->Shared->Prop}(hS:Ld w s.heap S ns)(hz:ns.length+1<=1002)
  (h:∀(b:Bool)(h':Heap),Heap.SameBut S s.heap h'->Ld w h' S (xq ns k)->Q b { s with heap:=h' }):wpAny (model prog w) A (setAddHashed S (.int k tk) (hashInt k)) Q E s :=
 zB (knd:=intKind prog w) (ent:=Q9) (λp=>⟨rfl,by show Value.isInt p.1 (.int p.1 p.2)=true;simp[Value.isInt],rfl⟩) (λh=>ni (nF (h true λ_=>rfl))) hS hz h
def add_str{Q:Bool->Shared->Prop}(hS:Mf w s.heap S ns)(hz:ns.length+1<=1002)
  (h:∀(b:Bool)(h':Heap),Heap.SameBut S s.heap h'->Mf w h' S (xq ns k)->Q b { s with heap:=h' }):wpAny (model prog w) A (setAddHashed S (.str k tk) (hashStr w k)) Q E s :=
 zB (pl:=false) (knd:=strKind prog w) (ent:=Sw w) (λp=>⟨rfl,by show Value.isStrOf p.1 (.str p.1 p.2)=true;simp[Value.isStrOf],rfl⟩) (λh=>ni (nF (h false λz=>nomatch z))) hS hz h
end
end ST
namespace SX
open PySem PySem.Spec PyProof.Rows
def Bb(val:Nat->Int):Nat->List Int
 | 0=>[]
 | i+1=>ST.xq (Bb val i) (val i)
theorem mL{val:Nat->Int}:∀ {i:Nat},(Bb val i).length<=i
 | 0=>ql _
 | i+1=>by
  have:=mL (val:=val) (i:=i);show(ST.xq (Bb val i) (val i)).length<=i+1;unfold ST.xq
  grind
def jT{E:Value->Shared->Prop}{val:Nat->Int}{Q:Value->Shared->Prop}
  (hd:A.handled=none)(tl:s.heap.IsTuple l items\/s.heap.IsList l items)(hv:∀(i:Nat)(v:Value),items[i]?=some v->∃ t,v=Value.int (val i) t)(room:items.size+1<=1002)
  (q:∀(g:Heap)(tk:Nat),ST.Ld w g s.heap.objs.size (Bb val items.size)->(∀ b o,b<s.heap.objs.size->s.heap.get? b=some o->g.get? b=some o)->Q (.ref s.heap.objs.size) { s with heap:=g,toks:=tk }) :
  wpAny (model prog w) A (call (.type "set") [.ref l]) Q E s:=by
 refine pK (SS:=λi h=>ST.Ld w h s.heap.objs.size (Bb val i)) hd tl (λi h h' a f _=>a.keep f) (λn i v s' r p _ u d a m k=>?_) (λled h c e _=>.new c e) λg tk a kp=>q g tk a kp
 obtain⟨t,rfl⟩:=hv i v d;unfold setAdd;refine Xo (ni (wpAny_pyHash_int ?_));have c:=mL (val:=val) (i:=i);exact ST.add_int a (by lia) λb g j hS2=>k b g _ (Nat.le_add_right _ _) j hS2
end SX
namespace L2
open PySem PySem.Spec PyProof.Rows
def ExcAt(cls:Value)(T e:Addr)(h:Heap):Prop:=∃ b a c,h.get? e=some b/\b.cls=cls/\b.data=.fields a/\a[0]?=some c/\a[1]?=some (.ref T)
def qW(T:Addr)(h:Heap):Prop:=∃ a b,h.get? T=some a/\a.data=.fields b/\b[3]?=some .none
def mZ(cls:Value)(T e:Addr):HO:=.ext (ExcAt cls T e)
def TrO(T:Addr):HO:=.ext (qW T)
def Kh(x:ExcAt cls T e h):cW P w H h e (mZ cls T e):=by
 refine⟨x,?_,λd f p k=>?_⟩
 .obtain⟨a,_,_,he,_⟩:=x;exact⟨a,he⟩
 .obtain⟨a,c,b,he,r⟩:=p;exact⟨a,c,b,k a he,r⟩
def Cw(x:qW T h):cW P w H h T (TrO T):=by
 refine⟨x,?_,λc d p k=>?_⟩
 .obtain⟨a,_,he,_⟩:=x;exact⟨a,he⟩
 .obtain⟨a,b,he,r⟩:=p;exact⟨a,b,k a he,r⟩
def CX1(P:Program)(w:World):CXT:=λouter H s E e s'=>∃(ea T:Addr)(cls:Value)(H':Hp),e=.ref ea/\T≠ea/\s'.os=s.os/\AllBare s'.gens/\Un (frs outer) [] H H' s.heap s'.heap/\HOk P w H' s'.heap /\
 H' ea=some (mZ cls T ea)/\H' T=some (TrO T)/\E cls (some ea) H'
section
variable {M:Model}{A:Around}{E:Value->Shared->Prop}{s:Shared}{base:Heap}{env:Env}{outer:List Env}{L e:Addr}
structure Left(fs:List Addr)(e:Addr)(cls:Value)(T:Addr)(h h':Heap):Prop where
 keep:∀ b o,h.get? b=some o->b ∉ fs->b≠e->h'.get? b=some o
 slot:∀ b o,h.get? b=some o->b∈fs->∃ sl,h'.get? b=some { o with slots:=sl }
 new:h.get? T=none
 ne:T≠e
 exc:ExcAt cls T e h'
 tr:qW T h'
def iV{base B h:Heap}{l:List Env}(hl:h.FunFrames base l)(hB:∀ b∈frs l,B.get? b=none):h.FunFrames B l:=by
 induction l with
 | nil=>trivial
 | cons env r g =>
  obtain⟨e,⟨L,o,a,i,c,hd⟩,d⟩:=hl;refine⟨e,⟨L,o,a,hB L ?_,c,hd⟩,g d λb f=>hB b ?_⟩
  .unfold frs;rw[filterMap_cons,a];exact Xl
  .unfold frs;rw[filterMap_cons,a];exact Xm _ f
def wF(hl:s.heap.FunFrames base (env::outer))
  (x:Heap.LeftW (W.hideAll s.heap (e::frs (env::outer))) (env::outer) e cls a0 s.heap h'):∃ T,Left (frs (env::outer)) e cls T s.heap h':=by
 obtain⟨k1,k2,⟨n,t,T,m,k,he,⟨u,r⟩,hd,p,hnT,hTe,j,hdT,w⟩,i⟩:=x;refine⟨T,λb o f v g=>k1 b o (W.hideAll_get _ f λz=>?_),λb o f d=>?_,?_,hTe,⟨n,t,a0,he,u,hd,r,p⟩,⟨m,k,j,hdT,w⟩⟩
 .rcases mem_cons.mp z with z | z
  .exact g z
  .exact v z
 .obtain⟨_,l,c,a⟩:=hl.mem d;rw[f] at c;cases c;exact i b o f a
 .cases q:s.heap.get? T with
  | none=>rfl
  | some o =>
   exfalso;by_cases d:T∈frs (env::outer)
   .obtain⟨_,l,c,a⟩:=hl.mem d;obtain⟨sl,h⟩:=i T l c a;rw[j] at h;cases h;exact a k hdT
   .have:=W.hideAll_get (e::frs (env::outer)) q λz=>(mem_cons.mp z).elim hTe d
    rw[hnT] at this;cases this
def w6{oe:Obj}{vs:Array Value}{a0:Value}{Q:Unit->Shared->Prop}(hfr:A.frames=some (env::outer))(hl:s.heap.FunFrames base (env::outer))(hf:env.frame=some L)
  (he:s.heap.get? e=some oe)(hd:oe.data=.fields vs)(h1:vs[1]?=some .none)(h0:vs[0]?=some a0)
  (h:∀ h' T,Left (frs (env::outer)) e oe.cls T s.heap h'->Q () { s with heap:=h' }):wpAny M A (leaving env (.ref e)) Q E s:=by
 refine wpAny_leaving_firstW hfr (iV hl λb a=>W.hideAll_none _ (Xm _ a)) hf he (λb o a=>W.of_hideAll _ a) (W.hideAll_none _ Xl) hd h1 h0 λh' x=>?_
 obtain⟨T,y⟩:=wF hl x;exact h h' T y
def u9{cls:Value}{T:Addr}{Q:Unit->Shared->Prop}(hfr:A.frames=some (env::outer))(hl:s.heap.FunFrames base (env::outer))(hf:env.frame=some L)
  (hx:ExcAt cls T e s.heap)(g:qW T s.heap)(hTe:T≠e)
  (h:∀ f h' l,(∀ b,b≠T->f.get? b=s.heap.get? b)->qW T f->Left (frs (env::outer)) e cls l f h'->Q () { s with heap:=h' }):wpAny M A (noteFrame (.ref e) env) (λ_ s'=>wpAny M A (setFlight (.ref e) none) Q E s') E s:=by
 obtain⟨t,m,u,he,i,hd,n,f⟩:=hx;obtain⟨r,p,g,hdT,k⟩:=g;subst i;unfold noteFrame;simp only[hf];refine ni (wpAny_field he hd f ?_);rw[if_pos (show(Value.ref T != Value.none)=true from by simp)];refine ni (wpAny_field g hdT k ?_);rw[if_neg (show ¬ ((Value.none == rawInt L)=true) from by simp[rawInt])];refine ni (wpAny_setField g hdT (Array.getElem?_eq_some_iff.mp k).1 ?_);have a:∀ b,b≠T->(s.heap.update T (Obj.mapFields (·.setIfInBounds 3 Value.none))).get? b=s.heap.get? b:=λb c=>Heap.get?_update_other _ _ (Ne.symm c)
 have noRecord:∀ b o,s.heap.get? b=some o->(∀ m,o.data≠.fields m)->b≠T:=λb o c d q=>by
  rw[q,g] at c;injection c with c;subst c;exact d p hdT
 have j:=hl.of_keeps λb o c d=>⟨o,(a b (noRecord b o c d)).trans c,rfl⟩
 have hT1:qW T (s.heap.update T (Obj.mapFields (·.setIfInBounds 3 Value.none))) :=
  ⟨_,_,Heap.get?_update_self _ g (Obj.isFreed_of_fields (Obj.data_mapFields hdT _)),Obj.data_mapFields hdT _,by simp[(Array.getElem?_eq_some_iff.mp k).1]⟩
 refine wpAny_newEntryW hfr (iV j λb c=>W.hideAll_none _ (Xm _ c)) hf ((a e (Ne.symm hTe)).trans he)
  (λb o c=>W.of_hideAll _ c) (W.hideAll_none _ Xl) hd (Array.getElem?_eq_some_iff.mp f).1 n λh' x=>?_
 obtain⟨l,y⟩:=wF j x;exact h _ h' l a hT1 y
def zQ{Q:Unit->Shared->Prop}(hfr:A.frames=some (env::outer))(hl:s.heap.FunFrames base (env::outer))(hf:env.frame=some L)
  (hx:ExcAt cls T e s.heap)(hT:qW T s.heap)(hTe:T≠e)
  (h:∀ a h' c,(∀ b,b≠T->a.get? b=s.heap.get? b)->qW T a->Left (frs (env::outer)) e cls c a h'->Q () { s with heap:=h' }):wpAny M A (leaving env (.ref e)) Q E s:=by
 unfold leaving;exact ni (u9 hfr hl hf hx hT hTe h)
end
def cW.has(x:cW P w H h a o):∃ u,h.get? a=some u:=by
 cases o with
 | lst xs=>obtain⟨_,_,_,_,e⟩:=x;exact⟨_,e⟩
 | tup xs=>obtain⟨_,_,_,ob,e,_⟩:=x;exact⟨_,e⟩
 | dK b=>obtain⟨_,_,_,_,ob,_,_,e,_⟩:=x;exact⟨_,e⟩
 | dT b=>obtain⟨_,_,_,_,ob,_,_,e,_⟩:=x;exact⟨_,e⟩
 | set S n=>obtain⟨ob,_,_,_,e,_⟩:=x;exact⟨_,e⟩
 | ins C c fs=>obtain⟨_,_,_,e,_⟩:=x;exact⟨_,e⟩
 | own y=>exact x
 | xd fs=>obtain⟨_,⟨ob,_,_,e,_⟩,_⟩:=x;exact⟨_,e⟩
 | rng lo d=>obtain⟨_,_,_,e⟩:=x;exact⟨_,e⟩
 | frz ob u=>exact⟨_,x.1⟩
 | tbl g=>exact⟨_,x⟩
 | met f y=>exact⟨_,x⟩
 | ext φ=>exact x.2.1
def HOk.new(x:HOk P w H h)(e:h.get? a=none):H a=none:=by
 cases q:H a with
 | none=>rfl
 | some u =>
  obtain⟨o,z⟩:=(x a u q).has;rw[e] at z;cases z
abbrev xH(H:Hp)(T e:Addr)(cls:Value):Hp:=upd (upd H T (TrO T)) e (mZ cls T e)
def QM(h:T≠e):xH H T e cls T=some (TrO T):=by
 show upd (upd H T (TrO T)) e (mZ cls T e) T=_;rw[aG h];exact ak
section
variable {P:Program}{w:World}{fs:List Addr}{e T T0:Addr}{cls:Value}{H:Hp}{h0 h1 h':Heap}
def Left.un(x:Left fs e cls T h1 h')(hok:HOk P w H h0)(hfs:∀ b∈fs,H b=none)(k:∀ b o,h0.get? b=some o->b≠T0->h1.get? b=some o)(kn:∀ b,h1.get? b=none->h0.get? b=none)
  (e1:∀ o,h0.get? e=some o->∃ f,H e=some (mZ cls f e))(t1:T0=e\/(H T0=some (TrO T0)/\qW T0 h1)):Un fs [] H (xH H T e cls) h0 h'/\HOk P w (xH H T e cls) h':=by
 have hT0:=kn T x.new;have t:=hok.new hT0;have l:∀ u,H e=some u->∃ f,u=mZ cls f e:=λu q=>by
  obtain⟨o,z⟩:=(hok e u q).has;obtain⟨f,r⟩:=e1 o z;rw[r] at q;cases q;exact⟨f,rfl⟩
 have gen:∀ b u,H b=some u->(∀ φ,u≠.ext φ)->xH H T e cls b=some u:=λb u q ne=>by
  have a:b≠e:=λz=>by
   subst z;obtain⟨f,r⟩:=l u q;exact ne _ r
  have hbT:b≠T:=λz=>by subst z;rw[t] at q;cases q
  show upd (upd H T (TrO T)) e (mZ cls T e) b=some u;rw[aG a,aG hbT];exact q
 have A:∀ b o,h0.get? b=some o->H b=none->b≠e:=λb o q n z=>by
  subst z;obtain⟨f,r⟩:=e1 o q;rw[n] at r;cases r
 have B:∀ b o,h0.get? b=some o->H b=none->b≠T0:=λb o q n z=>by
  rcases t1 with r | ⟨r,_⟩
  .exact A b o q n (z.trans r)
  .subst z;rw[n] at r;cases r
 have on:∀ b o,h1.get? b=some o->b≠e->∃ F,h'.get? b=some F:=λb o q a=>by
  by_cases h:b∈fs
  .obtain⟨sl,z⟩:=x.slot b o q h;exact⟨_,z⟩
  .exact⟨o,x.keep b o q h a⟩
 refine⟨⟨λb o q n h _=>x.keep b o (k b o q (B b o q n)) h (A b o q n),λb o q n h _=>x.slot b o (k b o q (B b o q n)) h,λb o q n _=>?_,λb o q _=>?_,λb xs q=>gen b _ q λφ z=>(nomatch z),λb o u q=>gen b _ q λφ z=>(nomatch z),λb G q=>⟨#[],by rw[gen b _ q λφ z=>(nomatch z)];simp⟩⟩,λb u q=>?_⟩
 .have hbT:b≠T:=λz=>by subst z;rw[hT0] at q;cases q
  show upd (upd H T (TrO T)) e (mZ cls T e) b=none;rw[aG (A b o q n),aG hbT];exact n
 .by_cases a:b=e
  .subst a;obtain⟨D,_,_,z,_⟩:=x.exc;exact⟨D,z⟩
  .by_cases hb0:b=T0
   .subst hb0;rcases t1 with r | ⟨_,p,_,z,_⟩
    .exact absurd r a
    .exact on b p z a
   .exact on b o (k b o q hb0) a
 .by_cases a:b=e
  .subst a;have:u=mZ cls T b:=by
    have C:upd (upd H T (TrO T)) b (mZ cls T b) b=some u:=q;rw[ak] at C;cases C;rfl
   subst this;exact Kh x.exc
  .have d:upd (upd H T (TrO T)) e (mZ cls T e) b=some u:=q;rw[aG a] at d;by_cases hbT:b=T
   .subst hbT;rw[ak] at d;cases d;exact Cw x.tr
   .rw[aG hbT] at d;have j:b ∉ fs:=λz=>by rw[hfs b z] at d;cases d
    by_cases hb0:b=T0
    .subst hb0;rcases t1 with r | ⟨r,p,E,z,y⟩
     .exact absurd r a
     .rw[r] at d;cases d;exact Cw ⟨p,E,x.keep b p z j a,y⟩
    .refine(hok b u d).stay (λc v g i=>?_) (λc i=>gen c _ i λφ z=>(nomatch z)) λc xs i=>gen c _ i λφ z=>(nomatch z)
     rcases g with rfl | g
     .exact x.keep c v (k c v i hb0) j a
     .have m:c≠e:=λz=>by
       subst z;obtain⟨f,r⟩:=l _ g;cases r
      have s:c≠T0:=λz=>by
       rcases t1 with r | ⟨r,_⟩
       .exact m (z.trans r)
       .subst z;rw[r] at g;cases g
      exact x.keep c v (k c v i s) (λz=>by rw[hfs c z] at g;cases g) m
variable {X:Cx}{pins:List (Addr × Obj)}{σ:St}{H':Hp}{s:Shared}
def Inv.out(I:Inv X pins σ H s)(d:X.ex=[])(u:Un (frs X.stack) [] H H' s.heap h'):Un (frs X.outer) [] X.H₀ H' X.s₀.heap h':=by
 have a:∀ b∈X.fs,b∈frs X.stack:=λb c=>by
  rcases I.ok.stk with e | ⟨e,g⟩
  .rw[e];exact c
  .rw[e];unfold frs;rw[filterMap_cons,g];exact Xm _ c
 have f:=I.base;rw[d] at f;have t:=(f.mono a λ_ z=>z).trans u;refine⟨λb o q n c d=>t.keep b o q n (λz=>?_) d,λb o q n c d=>t.slot b o q n (a b c) d,t.free,t.there,t.tups,t.frzs,t.tbls⟩;rcases mem_cons.mp (I.stkSub b z) with r | r
 .subst r;exact absurd (Xk (I3 q) I.ok.above) (Nat.lt_irrefl _)
 .exact c r
variable {K:W.Frag}{mg:Str->Option Value}{base:Heap}{N:List Str}{qual:Str}{scope:Scope}{f:Addr}{cd:Value}{A:Around}{outer:List Env}{s0:Shared}{H0:Hp}{E:XK}
 {pins:List (Addr × Obj)}{σ:St}{H:Hp}{s:Shared}
def xU(I:Inv (zH (CX1 P w) P w K mg base N qual scope f cd A outer s0 H0 E) pins σ H s)(hx:Heap.MadeExcOf s.heap h1 e cls args)
  (hE:∀ T,H e=none->H T=none->E cls (some e) (xH H T e cls)):(zH (CX1 P w) P w K mg base N qual scope f cd A outer s0 H0 E).xe (.ref e) { s with heap:=h1 }:=by
 have d:=I.stack;have a:=d.of_keeps λb o g _=>⟨o,hx.keeps b o g,rfl⟩
 obtain⟨t,he,c,ht⟩:=hx.there;refine w6 I.ok.frames a rfl he rfl rfl rfl λh' T x=>?_
 have kn:∀ b,h1.get? b=none->s.heap.get? b=none:=λb q=>by
  cases z:s.heap.get? b with
  | none=>rfl
  | some o=>rw[hx.keeps b o z] at q;cases q
 have h:=I.hok.new hx.new;obtain⟨u,ok⟩:=x.un I.hok I.stkFree (λb o q _=>hx.keeps b o q) kn (λo q=>by rw[hx.new] at q;cases q) (.inl rfl);exact⟨e,T,cls,_,rfl,x.ne,I.os,I.bare,I.out rfl u,ok,ak,QM x.ne,hE T h (I.hok.new (kn T x.new))⟩
def Lp(E1:XK)(hE:∀ cls e T a,a e=some (mZ cls T e)->E1 cls (some e) a->∀ c,a c=none->E cls (some e) (xH a c e cls)):Passes (CX1 P w) (zH (CX1 P w) P w K mg base N qual scope f cd A outer s0 H0 E) E1:=by
 intro k σ H s e s' I h;obtain⟨i,T,cls,a,rfl,hTe,os,bare,un,ok,he,j,q⟩:=h;have J:=I.call' os un ok bare λb z=>absurd z (by simp)
 have m:=(ok i _ he).1;have l:=(ok T _ j).1;refine zQ J.ok.frames J.stack rfl m l hTe λn h' c k1 k2 x=>?_
 have kn:∀ b,n.get? b=none->s'.heap.get? b=none:=λb q=>by
  by_cases d:b=T
  .subst d;obtain⟨p,_,z,_⟩:=k2;rw[z] at q;cases q
  .rw[← k1 b d];exact q
 obtain⟨u,g⟩:=x.un J.hok J.stkFree (λb o q d=>by rw[k1 b d];exact q) kn (λo _=>⟨T,he⟩) (.inr ⟨j,k2⟩);exact⟨i,c,cls,_,rfl,x.ne,J.os,J.bare,J.out rfl u,g,ak,QM x.ne,hE cls i T a he q c (J.hok.new (kn c x.new))⟩
end
abbrev vBm:List Value:=[.type "ValueError",.type "Exception",.type "BaseException",.type "object"]
def Dt{K:W.Frag}{h:Heap}{C:Addr}{bmB:List Value}{newId:String}{x:Str}{mg:Str->Option Value}(X:K.In h)(hb:mg x=some (.ref C))(q:W.excIn K C bmB newId=true):OwnCls x C bmB newId mg h:=by
 refine⟨hb,?_⟩;unfold W.excIn at q;split at q
 .rename_i dd a sl m;split at q
  .rename_i i c k0 k1 k2 k3 n k5 g j;simp only[Bool.and_eq_true,beq_iff_eq,Bool.not_eq_true'] at q;obtain⟨⟨⟨⟨⟨f,k⟩,p⟩,o⟩,b⟩,r⟩:=q;subst f;subst k;have e:=Array.toList_inj.mp j;subst e;have l:a={ name:=a.name,bases:=a.bases,mro:=.ref i::c,ns:=a.ns,qualname:=a.qualname,hasDict:=a.hasDict,slotNames:=a.slotNames,subclasses:=a.subclasses,abstract:=a.abstract,collection:=a.collection,hasDel:=false }:=by
    rw[← g,← p]
   have d:=X _ _ m;rw[l] at d;exact⟨c,a.ns,a.name,a.qualname,a.bases,a.hasDict,a.slotNames,a.subclasses,a.abstract,a.collection,dd,k0,k1,k2,k3,k5,_,d,.of_isNs (W.isNs_of_in X b),W.nsMap_none_of_in X b r,W.tail_of_in X o⟩
  .cases q
 .cases q
def Throws(X:Cx)(E:XK):Prop:=∀(pins:List (Addr × Obj))(σ:St)(H:Hp)(s:Shared)(e:Addr)(h1:Heap)(cls:Value)(args:List Value),Inv X pins σ H s->Heap.MadeExcOf s.heap h1 e cls args ->
 (∀ T,H e=none->H T=none->E cls (some e) (xH H T e cls))->X.xe (.ref e) { s with heap:=h1 }
def lE{P:Program}{w:World}{K:W.Frag}{mg:Str->Option Value}{base:Heap}{N:List Str}{qual:Str}{scope:Scope}{f:Addr}{cd:Value}{A:Around}{outer:List Env}{s0:Shared}{H0:Hp}{E:XK} :
  Throws (zH (CX1 P w) P w K mg base N qual scope f cd A outer s0 H0 E) E:=λ_ _ _ _ _ _ _ _ I a b=>xU I a b
def Ow(C:Addr)(E:XK)(t:TA):TS:=λ_ σ H=>t σ H λb a=>b.length<=sizeLine/\∀ e T,a e=none->a T=none->E (.ref C) (some e) (xH a T e (.ref C))
def jg{X:Cx}{x:Str}{C:Addr}{E:XK}{a:Expr}{as:List Expr}{t:TA}{np cpos pos:Pos}(hc:X.calm=true)(ht:Throws X E)(hg:Gl X x)(hm:X.mg x=some (.ref C))(hq:W.excIn X.K C vBm "ValueError.__new__" = true)(ha:PA X (a::as) t)
  (hdb:(x == ("__debug__" : Str))=false:=by decide)(he:starEach (a::as) X.env=(false,eval a X.env)::starEach as X.env:=by rfl)(hpl:(backTo cpos (starEach as X.env)).any (·.1)=false:=by rfl) :
  PS X (.Raise (some (.Call (.Name x np) (a::as) [] cpos)) none pos) (Ow C E t):=by
 intro b s σ H D I h;obtain⟨_,g,N,nm,q,bs,hdct,sn,sub,ab,col,dd,k0,k1,k2,k3,k5,A,l,j,d,T⟩:=Dt I.mod.kin hm hq;have k:g.contains (.type "BaseException")=true:=T.hasType (by decide);refine wpAny_Raise_call_subT (nm:=nm) (q:=q) (N:=N) (bs:=bs) (hdct:=hdct) (sn:=sn) (sub:=sub) (ab:=ab) (col:=col) (dd:=dd) (k0:=k0) (k1:=k1) (k2:=k2) (k3:=k3) (k5:=k5) F.excBase_ValueError k (I.ok.hd hc) ?_ d (nH I hg hm ⟨rfl,?_⟩ hdb)
 .rw[he];show(false || (backTo cpos (starEach as X.env)).any (·.1))=false;rw[hpl];rfl
 have f:=ha cpos b s σ H _ I h;rw[he] at f ⊢;refine Calls.evalArgs_plain (wpAny_mono f (λw u ⟨z,m,c,r,i,n⟩=>⟨rfl,?_,c.bk _ _ l,j.keeps c.bk,T.keeps c.bk,λh' e v=>ht b σ m u e h' _ _ c v λT p o=>n e T p o⟩) λ_ _ y=>y);rw[← r.length];exact i
abbrev TJ:=St->Hp->Str->VK->Prop
def PJ(X:Cx)(es:List Expr)(t:TJ):Prop :=
 ∀(pins:List (Addr × Obj))(s:Shared)(σ:St)(H:Hp)(acc:Str)(Q:VK),Inv X pins σ H s->t σ H acc Q->wpAny (model X.prog X.w) X.A (joinParts acc (evalEach es X.env)) (EP X pins σ Q) X.xe s
def tJ0:TJ:=λ_ H a Q=>a.length<=sizeLine/\Q (.str a) H
def tJ1(te:TE)(tj:TJ):TJ:=λσ H a Q=>te σ H λv b=>∃ y,v=.str y/\(a++y).length<=sizeLine/\tj σ b (a++y) Q
def T4(te:TE):TE:=λσ H Q=>te σ H λv a=>(∃ y,v=.str y/\y.length<=sizeLine/\Q v a)\/∃ i:Int,v=.int i/\i.natAbs.log2<1920/\Q (.str (toString i)) a
section
variable {X:Cx}{e e2:Expr}{es:List Expr}{te te2:TE}{tj:TJ}{pos:Pos}
def xZ:PJ X [] tJ0:=λb s σ H a Q I h=>joinParts_nil ⟨.str a,H,I.tok _,⟨_,rfl⟩,h.2⟩ h.1
def iU(he:PE X e te)(hj:PJ X es tj):PJ X (e::es) (tJ1 te tj):=λa s σ H g Q I h=>by
 refine joinParts_cons (thn (he a s σ H _ I h) λu i ⟨v,c,f,r,y,b,d,q⟩=>?_);subst b;obtain⟨tk,rfl⟩:=r;exact⟨d,hj a i σ c _ Q f q⟩
def yj(he:PE X e te):PE X (.FormattedValue e (-1) none pos) (T4 te):=λa s σ H Q I h=>by
 refine FormattedValue_plain (thn (he a s σ H _ I h) λu f ⟨v,c,d,r,q⟩=>?_);rcases q with⟨y,rfl,b,q⟩ | ⟨i,rfl,b,q⟩
 .obtain⟨tk,rfl⟩:=r;exact formatField_str (λt' tk=>⟨.str y,c,d.tok _,⟨t',rfl⟩,q⟩) b
 .obtain⟨tk,rfl⟩:=r;exact formatField_int_small b ⟨.str (toString i),c,d.tok _,⟨_,rfl⟩,q⟩
def rZ(hj:PJ X (e::e2::es) tj):PE X (.JoinedStr (e::e2::es) pos) (λσ H Q=>tj σ H Str.empty Q):=λa s σ H Q I h=>JoinedStr_many (hj a s σ H Str.empty Q I h)
end
structure jj(P:Program)(w:World)(K:W.Frag)(mg:Str->Option Value)(base:Heap)(x:Str)(k:Nat)(ps:List Str)(sp:Sp):Prop where
 ex:∃(f:Addr)(fd:FuncData),vH P w K mg base (CX1 P w) k f fd ps sp/\Binds K fd ps []/\W.keepIn K (.ref f)=true/\mg x=some (.ref f)
section
variable {P:Program}{w:World}{K:W.Frag}{mg:Str->Option Value}{base:Heap}{x:Str}{ps:List Str}{sp:Sp}
def Has.mk1{st:Stmt}{N:List Str}{k:Nat}(h:Has K mg x st ps)(S:aU N ps (aC st))(len:∀ c H Q E,sp c H Q E->c.length=ps.length)
  (hbody:∀(f:Addr)(a:Value)(A:Around)(outer:List Env)(s:Shared)(H:Hp)(c:List V)(Q:VK)(E:XK),lZ k (A.deeper (envOfC x (aC st) s.heap.objs.size f a))->sp c H Q E ->
   ∃ t,PSs (zH (CX1 P w) P w K mg base N x (aC st) f a A outer s H E) (fB st) t/\t { nx:=λ_ i=>Q .non i,rt:=Q } (start N c) H):jj P w K mg base x (k+1) ps sp:=by
 obtain⟨f,q,F,b,m⟩:=h.ex;obtain⟨p,o,kV,l,n,an,a,ct,j,rfl,lk,e⟩:=F.ex;exact⟨f,_,Nu lk e S len λA outer s H c Q E g d=>hbody f a A outer s H c Q E g d,b,F.kp,m⟩
end
def gB(CX:CXT)(X:Cx)(E:St->XK):Prop:=∀(pins:List (Addr × Obj))(σ:St)(H:Hp)(s:Shared)(e:Value)(s':Shared),Inv X pins σ H s->CX X.stack H s (E σ) e s'->X.xe e s'
theorem Passes.s(h:Passes CX X E):gB CX X λ_=>E:=h
def JR(sp:Sp)(E:St->XK)(t:TA):TE:=λσ H Q=>t σ H λb a=>sp b a Q (E σ)
def dZ{E:St->XK}(C:jj X.prog X.w X.K X.mg X.base x k ps sp)(hr:lZ n X.A)(hk:k<=n)(hg:Gl X x)(hx:gB (CX1 X.prog X.w) X E)(ha:PA X (e::es) t)
  (hdb:(x == ("__debug__" : Str))=false:=by decide)(he:starEach (e::es) X.env=(false,eval e X.env)::starEach es X.env:=by rfl)(hpl:(backTo pos (starEach es X.env)).any (·.1)=false:=by rfl) :
  PE X (.Call (.Name x p) (e::es) [] pos) (JR sp E t):=by
 obtain⟨f,y,F,b,kp,m⟩:=C.ex;intro a s σ H Q I h;refine wpAny_Call_Name_kw (nH I hg m ?_ hdb);refine W.callWith_K I.ok.mod.kin kp (thn (ha pos a s σ H _ I h) λg i ⟨v,j,c,r,q⟩=>⟨c.kIn,?_⟩) he hpl;have o:g.length=ps.length:=by rw[← r.length];exact F.len _ _ _ _ q
 refine wpAny_call (codeAny_mono ((F.mono hk).run X.A X.stack i j ⟨g,[]⟩ g v Q (E σ) hr c.env0 (by have:=b i g c.kIn (by rw[append_nil];exact o);rw[append_nil] at this;exact this) r q) λr s' d=>?_);cases r with
 | error e=>exact hx a σ j i e s' c d
 | ok l =>
  cases l with
  | ret u=>exact c.after d
  | next=>exact False.elim d
  | brk=>exact False.elim d
  | cont=>exact False.elim d
abbrev XR:=Value->Addr->St->Hp->Prop
def RK(X:Cx)(pins:List (Addr × Obj))(R:XR)(e:Value)(s:Shared):Prop:=∃(ea T:Addr)(cls:Value)(σ:St)(H:Hp),e=.ref ea/\T≠ea/\Inv X pins σ H s/\H ea=some (mZ cls T ea)/\H T=some (TrO T)/\R cls ea σ H
abbrev qb(X:Cx)(pins:List (Addr × Obj))(R:XR):Cx:={ X with pn:=X.pn++pins,xe:=RK X pins R }
section
variable {X:Cx}{pins more:List (Addr × Obj)}{σ:St}{H:Hp}{s:Shared}{R:XR}
def RX(ok:X.Ok):(qb X pins R).Ok:=⟨ok.mod,ok.kind,ok.glob,ok.blt,ok.above,ok.inj,ok.has,ok.cab,ok.hd,ok.frames,ok.stk,ok.exf,ok.bs,ok.bsz,ok.noex,ok.exfs,ok.funs,ok.frf⟩
def Mh(ok:(qb X pins R).Ok):X.Ok:=⟨ok.mod,ok.kind,ok.glob,ok.blt,ok.above,ok.inj,ok.has,ok.cab,ok.hd,ok.frames,ok.stk,ok.exf,ok.bs,ok.bsz,ok.noex,ok.exfs,ok.funs,ok.frf⟩
def Inv.toTry(I:Inv X pins σ H s):Inv (qb X pins R) [] σ H s:=⟨RX I.ok,I.os,I.bare,I.base,I.loc,I.cell,I.free,I.freeC,λp b=>I.pin p (by
 have a:=b;rw[append_nil] at a;exact a),I.hok,I.len⟩
def Inv.ofTry(I:Inv (qb X pins R) more σ H s):Inv X pins σ H s:=⟨Mh I.ok,I.os,I.bare,I.base,I.loc,I.cell,I.free,I.freeC,λp a=>I.pin p (Xx _ a),I.hok,I.len⟩
def SP.ofTry{D:Ends}{f:Flow}{s':Shared}(h:SP (qb X pins R) [] D f s'):SP X pins D f s':=by
 cases f with
 | next=>obtain⟨b,a,I,q⟩:=h;exact⟨b,a,I.ofTry,q⟩
 | brk=>obtain⟨b,a,I,q⟩:=h;exact⟨b,a,I.ofTry,q⟩
 | cont=>obtain⟨b,a,I,q⟩:=h;exact⟨b,a,I.ofTry,q⟩
 | ret u=>obtain⟨v,b,a,I,r,q⟩:=h;exact⟨v,b,a,I.ofTry,r,q⟩
def M6:gB (CX1 X.prog X.w) (qb X pins R) (λσ cls o a=>∀ e,o=some e->R cls e σ a):=by
 intro more σ H s e s' I h;obtain⟨c,T,cls,a,rfl,hTe,os,bare,un,ok,he,d,q⟩:=h;exact⟨c,T,cls,σ,a,rfl,hTe,I.ofTry.call' os un ok bare λb z=>absurd z (by simp),he,d,q c rfl⟩
def wu{E:Value->Shared->Prop}{Q:Unit->Shared->Prop}(I:Inv X pins σ H s)(hst:X.stack=X.env::X.outer)(hf:X.env.frame=some X.env.locals)(hTe:T≠ea)(he:H ea=some (mZ cls T ea))(hT:H T=some (TrO T))
  (h:∀ s' c,Inv X pins σ (xH H c ea cls) s'->c≠ea->H c=none->Q () s'):wpAny M X.A (noteFrame (.ref ea) X.env) (λ_ s'=>wpAny M X.A (setFlight (.ref ea) none) Q E s') E s:=by
 have k:=(I.hok ea _ he).1;have j:=(I.hok T _ hT).1;have g:=I.stack;have d:=I.ok.frames;have a:=I.stkFree;rw[hst] at g d a;refine u9 d g hf k j hTe λi h' c k1 k2 x=>?_
 have kn:∀ b,i.get? b=none->s.heap.get? b=none:=λb q=>by
  by_cases e:b=T
  .subst e;obtain⟨l,_,z,_⟩:=k2;rw[z] at q;cases q
  .rw[← k1 b e];exact q
 obtain⟨u,f⟩:=x.un I.hok a (λb o q e=>by rw[k1 b e];exact q) kn (λo _=>⟨T,he⟩) (.inr ⟨hT,k2⟩);exact h _ c (I.call' rfl (by rw[hst];exact u) f I.bare λb z=>absurd z (by simp)) x.ne (I.hok.new (kn c x.new))
def wV{E:Value->Shared->Prop}{Q:Unit->Shared->Prop}(I:Inv X pins σ H s)(he:H c=some (mZ cls T c))(hT:H T=some (TrO T))
  (h:∀ s',Inv X pins σ H s'->Q () s'):wpAny M A (setFlight (.ref c) none) Q E s:=by
 obtain⟨n,t,v,d,_,hd,p,j⟩:ExcAt cls T c s.heap:=(I.hok c _ he).1;obtain⟨m,r,hT1,hdT,k⟩:qW T s.heap:=(I.hok T _ hT).1;have a:=(Array.getElem?_eq_some_iff.mp k).1;unfold setFlight;refine ni (wpAny_field d hd j ?_);rw[if_pos (show(Value.ref T != Value.none)=true from by simp)];have g:upd H T (TrO T)=H:=by
  funext b
  unfold upd;split
  .rename_i e;subst e;exact hT.symm
  .rfl
 have i:qW T (s.heap.update T (Obj.mapFields (·.setIfInBounds 3 ((none:Option Addr).elim Value.none λf=>rawInt f)))) :=
  ⟨_,_,Heap.get?_update_self _ hT1 (Obj.isFreed_of_fields (Obj.data_mapFields hdT _)),Obj.data_mapFields hdT _,by simp[a]⟩
 refine wpAny_setField hT1 hdT a (h _ ?_);have W:=I.write (t':=s.toks) (by rw[hT];trivial) (.inl rfl)
  (λb u l q=>(Heap.get?_update_other _ _ (Ne.symm l)).trans q) (by obtain⟨o,_,z,_⟩:=i;exact⟨o,z⟩) (Cw i)
 rw[g] at W;exact W
end
abbrev Nh(X:Cx)(e:Addr):Cx:={ X with A:=X.A.mark (some (.ref e)),calm:=false,xe:=λ_ _=>False }
section
variable {X:Cx}{pins:List (Addr × Obj)}{σ:St}{H:Hp}{s:Shared}{e:Addr}
def Tf(ok:X.Ok):(Nh X e).Ok:=⟨ok.mod,ok.kind,ok.glob,ok.blt,ok.above,ok.inj,ok.has,ok.cab,(λz=>Bool.noConfusion (show false=true from z)),ok.frames,ok.stk,ok.exf,ok.bs,ok.bsz,ok.noex,ok.exfs,ok.funs,ok.frf⟩
def Inv.toEx(I:Inv X pins σ H s):Inv (Nh X e) pins σ H s:=⟨Tf I.ok,I.os,I.bare,I.base,I.loc,I.cell,I.free,I.freeC,I.pin,I.hok,I.len⟩
def Inv.ofEx(hk:X.Ok)(I:Inv (Nh X e) pins σ H s):Inv X pins σ H s:=⟨hk,I.os,I.bare,I.base,I.loc,I.cell,I.free,I.freeC,I.pin,I.hok,I.len⟩
def jO{E:Value->Shared->Prop}{Q:Unit->Shared->Prop}(I:Inv X pins σ H s)(hN:X.N.Nodup)(hi:X.N[i]?=some n)(hl:X.env.kindOf n=some .local)
  (h:∀ s',Inv X pins (σ.set i none) H s'->Q () s'):wpAny M A (do bindName X.env n .none;unbindBehindTheSuite X.env n pos) Q E s:=by
 obtain⟨m,D,K⟩:=id I.loc;have g:(X.env.scope.kind == .class || (X.env.scope.kind == .module && X.env.locals != X.env.globals))=false:=by rw[I.ok.kind];rfl
 have w:i<σ.length:=by rw[I.len];exact(pN.mp hi).1
 refine wpAny_nameGoes_keeps hl D g λh' v x a=>h _ ?_
 have ab:∀ b o,X.s₀.heap.get? b=some o->b≠X.env.locals:=λb o e=>J6 (Xk (I3 e) I.ok.above)
 refine⟨I.ok,I.os,I.bare,⟨λb o e n u l=>(a.2 b (ab b o e)).trans (I.base.keep b o e n u l),λb o e n u l=>?_,I.base.free,λb o e l=>?_,I.base.tups,I.base.frzs,I.base.tbls⟩,⟨_,x,λj y R f r P=>?_⟩,λy c e=>?_,I.free,I.freeC,λp J=>?_,λb ob e=>?_,by simpa using I.len⟩
 .obtain⟨sl,f⟩:=I.base.slot b o e n u l;exact⟨sl,(a.2 b (ab b o e)).trans f⟩
 .obtain⟨L,f⟩:=I.base.there b o e l;exact⟨L,(a.2 b (ab b o e)).trans f⟩
 .have C:j≠i:=λz=>by
   subst z;rw[getElem?_set_self w] at r;cases r
  rw[getElem?_set_ne (Ne.symm C)] at r;obtain⟨F,O,q⟩:=K j y R f r P;refine⟨F,O,?_⟩;rcases q with⟨k,e⟩ | ⟨k,c,e,z⟩
  .refine .inl ⟨k,?_⟩;have:y≠n:=λe=>C (sS hN f (e ▸ hi))
   simp[this,e]
  .exact .inr ⟨k,c,e,z.sameBut a (I.cne y c e)⟩
 .obtain⟨B,z⟩:=I.cell y c e;exact⟨B,z.sameBut a (I.cne y c e)⟩
 .obtain⟨e,n,ne,G,d⟩:=I.pin p J;exact⟨(a.2 p.1 ne).trans e,n,ne,G,d⟩
 .refine(I.hok b ob e).stay (λc B t q=>(a.2 c ?_).trans q) (λ_ q=>q) λ_ _ q=>q
  rintro rfl;rcases t with rfl | t
  .have:=I.free;rw[e] at this;cases this
  .have:=I.free;rw[t] at this;cases this
end
structure Under(K:W.Frag)(D:Addr)(cls:Value):Prop where
 ex:∃ C,cls=.ref C/\W.subIn K (.ref C) (.ref D)=some true
def pZ{M:Model}{A:Around}{E:Value->Shared->Prop}{K:W.Frag}{h:Heap}{g:Array GenState}{d:Drawn}{t:Nat}{os:OsState}{e C D:Addr}{oe:Obj}{x:Str}{mg:Str->Option Value}{Q:Bool->Shared->Prop}
  (X:K.In h)(O:OwnCls x D vBm "ValueError.__new__" mg h)(he:h.get? e=some oe)(hcls:oe.cls=.ref C)(hs:W.subIn K (.ref C) (.ref D)=some true)
  (hq:Q true ⟨h,g,d,t,os⟩):wpAny M A (excMatches (.ref e) (.ref D)) Q E ⟨h,g,d,t,os⟩:=by
 obtain⟨_,b,N,nm,q,bs,hdct,sn,sub,ab,col,dd,k0,k1,k2,k3,k5,l,a,k,c,T⟩:=O;have j:b.contains (.type "BaseException")=true:=T.hasType (by decide);have hcB:(Value.ref D::b).contains (.type "BaseException")=true:=by rw[List.contains_cons,j,Bool.or_true]
 have f:=tc_notTuple;have i:W.Looks M h (isSubtype (.ref C) (.ref D)) true:=W.looks_subIn X hs;unfold excMatches
 repeat (first | (with_reducible refine wpAny_loadPart_at he ?_;rw[hcls]) | with_reducible refine wpAny_loadPart_at a ?_ | (with_reducible refine wpAny_isSubtype_exc a ?_;rw[hcB]) | (with_reducible refine i.at ?_) | wp_step)
 exact hq
def Jr(i:Nat)(D:Ends):Ends:={ nx:=λσ H=>D.nx (σ.set i none) H,rt:=D.rt,bk:=λσ H=>D.bk (σ.set i none) H,ct:=λσ H=>D.ct (σ.set i none) H }
def rEx(K:PySem.W.Frag)(W:Addr)(i:Nat)(th:TS)(D:Ends):XR:=λcls a σ H=>Under K W cls/\∀ b,b≠a->H b=none->th (Jr i D) (σ.set i (some (.ref a))) (xH H b a cls)
def Ti(K:PySem.W.Frag)(W:Addr)(i:Nat)(tb:XR->TS)(th:TS):TS:=λD σ H=>tb (rEx K W i th D) D σ H
def Ej{tb:XR->TS}(hb:∀ a R,PSs (qb X a R) body (tb R))(hs:∀ e,PSs (Nh X e) (b₀::suite) th)
  (hg:Gl X x)(hm:X.mg x=some (.ref W))(hq:PySem.W.excIn X.K W vBm "ValueError.__new__" = true)(hN:X.N.Nodup)(hi:X.N[i]?=some n)(hl:X.env.kindOf n=some .local)(hst:X.stack=X.env::X.outer)(hf:X.env.frame=some X.env.locals)
  (hdb:(x == ("__debug__" : Str))=false:=by decide) :
  PS X (.Try body [.ExceptHandler (some (.Name x np)) (some n) (b₀::suite) hpos] [] [] pos) (Ti X.K W i tb th):=by
 intro a s σ H D I h;refine wpAny_Try_except (wpAny_mono (hb a (rEx X.K W i th D) [] s σ H D I.toTry h) (λf U q=>?_) λe U q=>?_)
 .have w:=SP.ofTry q;cases f with
  | next=>exact wpAny_execs_nil w
  | brk=>exact w
  | cont=>exact w
  | ret u=>exact w
 .obtain⟨b,T,cls,Z,F,rfl,hTe,Q,he,O,⟨C,rfl,o⟩,q⟩:=q;refine wu Q hst hf hTe he O λS k c d p=>?_
  have m:xH F k b (.ref C) b=some (mZ (.ref C) k b):=ak;have hT2:xH F k b (.ref C) k=some (TrO k):=QM d;obtain⟨V,vs,a0,B,l,M,_⟩:ExcAt (.ref C) k b S.heap:=(c.hok b _ m).1;refine wpAny_handleBy_cons (codeAny_handlers_test (nH c.toEx hg hm ?_ hdb)) (by intro z;cases z);refine pZ c.kIn (Dt c.kIn hm hq) B l o ?_;refine codeAny_handlers_suite_as ?_;refine wV (X:=Nh X b) c.toEx m hT2 λs3 L=>?_
  refine sO (X:=Nh X b) (v:=.ref b) L hN hi (.inl hl) rfl (λP G=>?_) (.inr hl);refine wpAny_mono (hs b a P _ _ (Jr i D) G (q k d p)) (λf Y t=>?_) λ_ _ z=>False.elim z
  cases f with
  | next =>
   obtain⟨y,A,J,j⟩:=t;exact jO (J.ofEx c.ok) hN hi hl λE g=>⟨_,_,g,j⟩
  | brk =>
   obtain⟨y,A,J,j⟩:=t;exact jO (J.ofEx c.ok) hN hi hl λE g=>⟨_,_,g,j⟩
  | cont =>
   obtain⟨y,A,J,j⟩:=t;exact jO (J.ofEx c.ok) hN hi hl λE g=>⟨_,_,g,j⟩
  | ret u =>
   obtain⟨v,y,A,J,r,j⟩:=t;exact jO (J.ofEx c.ok) hN hi hl λE g=>⟨v,_,_,g,r,j⟩
end L2
namespace L2
open PySem PySem.Spec PySem.Calls PyProof.Rows PySem.W Builtin.Getset_descriptor
section
variable {prog:Program}{w:World}{A:Around}{E:Value->Shared->Prop}{K:Frag}{x C D:Addr}{ox:Obj}{h:Heap}{g:Array GenState}{d:Drawn}{t:Nat}{os:OsState}
structure yd(h:Heap)(x:Addr)(ox:Obj)(D:Addr):Prop where
 at_:h.get? x=some ox
 cls:ox.cls=.ref D
def yd.type(I:yd h x ox D):Looks M h (typeOf (.ref x)) (.ref D):=I.cls ▸ (Looks.ld I.at_).andThen .now
def Hz{R:Result->Shared->Prop}(X:K.In h)(I:yd h x ox D)(hm:mroIn K D (.type "object")=some true)
  (hq:R (.ok (.ret (.ref D))) ⟨h,g,d,t,os⟩):codeAny (model prog w) A (.call (.builtin "getset_descriptor.__get__") ⟨[.builtin "object.__class__",.ref x,tp],[]⟩) R ⟨h,g,d,t,os⟩:=by
 have b:=I.type (M:=model prog w);have a:=looks_mroIn (M:=model prog w) X hm;refine codeAny_call_builtin KF.slot_gs.plain KF.entry_gs (KF.slot_gs.check _ _ _ _ _ _ _ _ KF.type_class (KF.args_gs _ _ _) ?_);unfold Builtin.«getset_descriptor.__get__» descrGet;rw[dga_obj];refine ni (nF ?_);unfold descrGetter descrCheckInstance descrNameAndClass isInstance;simp only[KF.owner_class]
 repeat lk
 refine⟨Code.quiet_builtin _ (by decide +kernel),codeAny_builtin KF.entry_class ?_⟩;unfold Builtin.«object.__class__» shownTypeOf
 repeat lk
 exact hq
structure HJ(K:Frag)(D:Addr):Prop where
 ga:findIn K (.ref D) "__getattribute__" = some (some (.builtin "BaseException.__getattribute__"))
 no:findIn K (.ref D) "__getattr__" = some none
 cl:findIn K (.ref D) "__class__" = some (some (.builtin "object.__class__"))
 bs:subIn K (.ref D) (.type "BaseException")=some true
 ob:mroIn K D (.type "object")=some true
 is:isClsIn K D=true
def Gj{Q:Fin->Shared->Prop}(X:K.In h)(k:HJ K D)(I:yd h x ox D)(hq:Q (.done (.ret (.ref D))) ⟨h,g,d,t,os⟩) :
  wpAny (model prog w) A (Builtin.«object.__getattribute__» ⟨[.ref x,.str "__class__" tk],[]⟩) Q E ⟨h,g,d,t,os⟩:=by
 have c:=I.at_;have b:=I.cls;have a:Looks (model prog w) h (typeLookup (.ref D) "__class__") (some (.builtin "object.__class__")):=looks_findIn X k.cl;have f:=W.KF.type_class;have e:=F.slot_gs_get.lookup;have i:=F.slot_gs_set.lookup;have hT5:(⟨h,g,d,t,os⟩:Shared).TypeIs (.builtin "object.__class__") "getset_descriptor":=W.KF.type_class
 repeat (any_goals (first | assumption | (with_reducible refine wpAny_loadPart_at c ?_;rw[b]) | (with_reducible refine a.at ?_) | wp_step))
 refine Hz (ox:=ox) X I k.ob ?_
 repeat (any_goals (first | assumption | wp_step))
def Cq{Q:Unit->Shared->Prop}(X:K.In h)(k:HJ K D)(I:yd h x ox D)(hq:Q () ⟨h,g,d,t,os⟩):wpAny (model prog w) A (checkBuiltinCall "BaseException.__getattribute__" ⟨[.ref x,nameV],[]⟩) Q E ⟨h,g,d,t,os⟩:=by
 have f:=I.at_;have e:=I.cls;have c:builtinKind "BaseException.__getattribute__" = some .slot:=by decide +kernel
 have a:splitId "BaseException.__getattribute__" = some ("BaseException","__getattribute__"):=by decide +kernel
 have b:Looks (model prog w) h (isSubtype (.ref D) (.type "BaseException")) true:=looks_subIn X k.bs;have i:=F.args_bexc_ga (.ref x) nameV;simp only[checkBuiltinCall,c,a];refine ni ?_
 .unfold isInstance
  repeat (first | (with_reducible refine wpAny_loadPart_at f ?_;rw[e]) | (with_reducible refine b.at ?_) | wp_step)
  exact hq
def Oj{Q:Value->Shared->Prop}(X:K.In h)(k:HJ K D)(I:yd h x ox D)(hq:Q (.ref D) ⟨h,g,d,t,os⟩):wpAny (model prog w) A (getAttrBy (.ref x) (.str "__class__" tk) false) Q E ⟨h,g,d,t,os⟩:=by
 have i:=I.at_;have f:=I.cls;have l:=F.excAttr_ValueError.ga.bind (.ref x);have j:(false && onTheHeap (Value.builtin "BaseException.__getattribute__"))=false:=rfl;have a:(Value.builtin "BaseException.__getattribute__" == Value.builtin "object.__getattribute__")=false:=by decide +kernel
 have c:(onTheHeap (Value.ref D) && Value.builtin "BaseException.__getattribute__" == Value.builtin "object.__getattribute__")=false:=by rw[a];rfl
 have b:Looks (model prog w) h (typeLookup (.ref D) "__getattribute__") (some (.builtin "BaseException.__getattribute__")):=looks_findIn X k.ga;have e:Looks (model prog w) h (typeLookup (.ref D) "__getattr__") none:=looks_findIn X k.no
 repeat (any_goals (first | assumption | (with_reducible refine wpAny_loadPart_at i ?_;rw[f]) | (with_reducible refine b.at ?_) | (with_reducible refine e.at ?_) | wp_step))
 refine codeAny_call_builtin F.excAttr_ValueError.ga.plain F.entry_bexc_ga (Cq X k I (Gj X k I ?_))
 repeat (any_goals (first | assumption | wp_step))
def Jl{Q:Option Value->Shared->Prop}(X:K.In h)(k:HJ K D)(I:yd h x ox D)(hq:Q (some (.ref D)) ⟨h,g,d,t+1,os⟩):wpAny (model prog w) A (getAttr? (.ref x) "__class__") Q E ⟨h,g,d,t,os⟩:=by
 unfold getAttr? getAttrBy?;refine ni (wpAny_mkText (ni (wpAny_attempt (Oj X k I ?_))));exact nF hq
def wj{Q:Fin->Shared->Prop}(X:K.In s.heap)(k:HJ K D)(I:yd s.heap x ox D)(hty:Looks (model prog w) s.heap (typeOf c) (.type "type"))(his:Looks (model prog w) s.heap (isType c) true)
  (hne:(Value.ref D == c)=false)(hsub:Looks (model prog w) s.heap (isSubtype (.ref D) c) false)(h:Q (.done (.ret (.bool false))) { s with toks:=s.toks+1 }) :
  wpAny (model prog w) A (Builtin.«isinstance.nested» ⟨[.ref x,c,.int dep tk],[]⟩) Q E s:=by
 have hisD:Looks (model prog w) s.heap (isType (.ref D)) true:=by
  have hcD:=k.is;unfold isClsIn clsIn at hcD;split at hcD
  .rename_i b;intro l j m s' i q;unfold isType loadHead;exact ni (wpAny_loadPart (i _ _ (X _ _ b)) (nF q))
  .cases hcD
 obtain⟨f,g,d,n,os⟩:=s;have a:=I.type (M:=model prog w);have e:Looks (model prog w) f (isInstance (.ref x) c) false:=a.andThen hsub;unfold Builtin.«isinstance.nested»;refine ni (a.at ?_);rw[if_neg (λq=>by rw[hne] at q;exact Bool.noConfusion q)];refine ni (hty.at ?_);rw[if_pos (by decide)]
 k_delta "plainIsInstance"
 refine ni (ni (his.at ?_));tm_at"f";refine ni (e.at ?_);simp only[Bool.false_eq_true,if_false];refine ni (Jl X k I ?_);refine ni (hisD.at ?_);tm_at"f";refine ni (wpAny_rule ?_);refine hsub.at ?_
 first
  | exact nF h
  | exact nF (nF h)
  | exact ni (nF (nF h))
def Fz{Q:Value->Shared->Prop}(X:K.In s.heap)(k:HJ K D)(I:yd s.heap x ox D)(e:kin_not K D C=true)(h:Q (.bool false) { s with toks:=s.toks+1 }) :
  wpAny (model prog w) A (call (.builtin "isinstance") [.ref x,.ref C]) Q E s:=by
 unfold kin_not at e;rw[Bool.and_eq_true,Bool.and_eq_true,Bool.and_eq_true] at e;obtain⟨⟨⟨n,b⟩,i⟩,d⟩:=e;refine call_isinstance (S:=λ_ R s=>(K.In s.heap/\yd s.heap x ox D)/\R (.ok (.ret (.bool false))) { s with toks:=s.toks+1 })
  (λ_ _ _ _ _ a=>isinstance_outer (wj a.1.1 k a.1.2 (looks_typeIn a.1.1 (beq_iff_eq.mp i)) ?_ ?_ (looks_subIn a.1.1 (beq_iff_eq.mp d)) a.2) (by intro q;cases q)) ⟨⟨X,I⟩,h⟩
 .have g:=a.1.1;unfold clsIn at b;split at b
  .rename_i c;intro l j m s' f q;unfold isType loadHead;exact ni (wpAny_loadPart (f _ _ (g _ _ c)) (nF q))
  .cases b
 .grind
def wI{Q:Fin->Shared->Prop}(X:K.In s.heap)(I:yd s.heap x ox D)(hty:typeOf (.type T)=pure (.type "type"))(hs:subIn K (.ref D) (.type T)=some true)
  (h:Q (.done (.ret (.bool true))) s):wpAny (model prog w) A (Builtin.«isinstance.nested» ⟨[.ref x,.type T,.int dep tk],[]⟩) Q E s:=by
 obtain⟨c,g,d,j,os⟩:=s;have f:=I.type (M:=model prog w);have b:Looks (model prog w) c (isSubtype (.ref D) (.type T)) true:=looks_subIn X hs;have i:Looks (model prog w) c (isInstance (.ref x) (.type T)) true:=f.andThen b;have a:Looks (model prog w) c (typeOf (.type T)) (.type "type"):=Looks.of_pure hty;have e:Looks (model prog w) c (isType (.type T)) true:=Looks.of_pure rfl;unfold Builtin.«isinstance.nested»;refine ni (f.at ?_);rw[if_neg (λq=>by cases beq_iff_eq.mp q)];refine ni (a.at ?_);rw[if_pos (by decide)]
 k_delta "plainIsInstance"
 refine ni (ni (e.at ?_));tm_at"f";refine ni (i.at ?_);simp only[if_true]
 first
  | exact nF h
  | exact nF (nF h)
  | exact ni (nF (nF h))
def Cj{Q:Value->Shared->Prop}(X:K.In s.heap)(I:yd s.heap x ox D)(hty:typeOf (.type T)=pure (.type "type"))(e:subIn K (.ref D) (.type T)=some true)(h:Q (.bool true) s) :
  wpAny (model prog w) A (call (.builtin "isinstance") [.ref x,.type T]) Q E s :=
 call_isinstance (S:=λ_ R s=>(K.In s.heap/\yd s.heap x ox D)/\R (.ok (.ret (.bool true))) s)
  (λ_ _ _ _ _ a=>isinstance_outer (wI a.1.1 a.1.2 hty e a.2) (by intro q;cases q)) ⟨⟨X,I⟩,h⟩
end
def zK{K:Frag}{D C:Addr}(hn:D≠C)(hc:isClsIn K C=true)(ht:typeIn K (.ref C)=some (.type "type"))(hs:subIn K (.ref D) (.ref C)=some false):kin_not K D C=true:=by
 unfold kin_not;unfold isClsIn at hc;rw[XD hn,hc,ht,hs]
 rfl
def IsX(K:Frag)(D:Addr)(c:V)(b:Bool):Prop:=(∃ C,c=.ref C/\((b=true/\isIn K (.ref D) C=true)\/(b=false/\HJ K D/\kin_not K D C=true)))\/(∃ T,c=.ty T/\b=true/\typeOf (.type T)=pure (.type "type")/\subIn K (.ref D) (.type T)=some true)
def S8(K:Frag):List V->Hp->VK->Prop:=λxs H Q=>∃ e T D c b,xs=[.ref e,c]/\H e=some (mZ (.ref D) T e)/\IsX K D c b/\Q (.bl b) H
def cD:d7 X (.builtin "isinstance") (S8 X.K):=by
 intro d s σ H xs l Q I r h;obtain⟨e,T,D,c,b,rfl,he,k,q⟩:=h;obtain⟨u,v,rfl,i,a⟩:=vals2 r;cases i;obtain⟨f,m,o,g,j,_⟩:ExcAt (.ref D) T e s.heap:=(I.hok e _ he).1;have O:yd s.heap e f D:=⟨g,j⟩
 rcases k with⟨C,rfl,⟨rfl,k⟩ | ⟨rfl,k1,k2⟩⟩ | ⟨n,rfl,rfl,k1,k2⟩
 .cases a;exact isi_call I.kIn (λM=>O.type) k (λz=>nomatch z) ⟨.bl true,H,I,rfl,q⟩
 .cases a;exact Fz I.kIn k1 O k2 ⟨.bl false,H,I.tok _,rfl,q⟩
 .cases a;exact Cj I.kIn O k1 k2 ⟨.bl true,H,I,rfl,q⟩
end L2
namespace L2
open PySem PySem.Spec PyProof.Rows
def QT(E:XK):XK:=λcls o a=>∀ e,o=some e->∀ b,a b=none->E cls o (xH a b e cls)
def fY{P:Program}{w:World}{K:W.Frag}{mg:Str->Option Value}{base:Heap}{N:List Str}{qual:Str}{scope:Scope}{f:Addr}{cd:Value}{A:Around}{outer:List Env}{s0:Shared}{H0:Hp}{E:XK} :
  gB (CX1 P w) (zH (CX1 P w) P w K mg base N qual scope f cd A outer s0 H0 E) λ_=>QT E:=(Lp (QT E) λcls e T b _ h a n=>h e rfl a n).s
def cP(C:Addr)(H:Hp)(E:XK):Prop:=∀(e T:Addr)(H':Hp),Same H H'->H e=none->H' e=some (mZ (.ref C) T e)->E (.ref C) (some e) H'
def wG(s:Same H H1)(he:H e=none)(hT:H1 T=none):Same H (xH H1 T e cls):=λb o h=>by
 have a:b≠e:=λz=>by subst z;rw[he] at h;cases h
 have hbT:b≠T:=λz=>by subst z;rw[s _ _ h] at hT;cases hT
 show upd (upd H1 T (TrO T)) e (mZ cls T e) b=some o;rw[aG a,aG hbT];exact s b o h
section
variable {C:Addr}{H H1:Hp}{E:XK}
def cP.up(h:cP C H E)(s:Same H H1):cP C H1 E:=λe T a s' he b=>h e T a (s.trans s') (s.free he) b
def cP.made(h:cP C H E)(he:H e=none)(hT:H T=none):E (.ref C) (some e) (xH H T e (.ref C)):=h e T _ (wG (Same.refl H) he hT) he ak
def cP.out(h:cP C H E):cP C H (QT E):=λe T b s he d c z a n=>by
 cases z;exact h e a _ (wG s he n) he ak
def Ak{R:XR}{σ:St}(h:∀(e T:Addr)(a:Hp),Same H a->H e=none->a e=some (mZ (.ref C) T e)->R (.ref C) e σ a):cP C H (λcls o a=>∀ e,o=some e->R cls e σ a):=λe T a s he b c z=>by
 cases z;exact h e T a s he b
end
structure Fn1(P:Program)(w:World)(K:W.Frag)(mg:Str->Option Value)(base:Heap)(f:Addr)(k:Nat)(ps:List Str)(sp:Sp):Prop where
 ex:∃(fd:FuncData),vH P w K mg base (CX1 P w) k f fd ps sp/\Binds K fd ps []/\W.keepIn K (.ref f)=true
def jj.fn{P:Program}{w:World}{K:W.Frag}{mg:Str->Option Value}{base:Heap}{x:Str}{k:Nat}{ps:List Str}{sp:Sp}(C:jj P w K mg base x k ps sp):∃ f,mg x=some (.ref f)/\Fn1 P w K mg base f k ps sp:=by
 obtain⟨f,a,F,b,kp,m⟩:=C.ex;exact⟨f,m,a,F,b,kp⟩
def Oa(P:Program)(w:World)(K:W.Frag)(mg:Str->Option Value)(base:Heap)(n i:Nat)(E:St->XK)(t:TA):TE:=λσ H Q=>∃(f:Addr)(k:Nat)(ps:List Str)(sp:Sp),σ[i]?=some (some (.ref f))/\Fn1 P w K mg base f k ps sp/\k<=n/\t σ H λb a=>sp b a Q (E σ)
def Kc{E:St->XK}(hr:lZ n X.A)(hv:PE X (.Name x p) (QG i))(hx:gB (CX1 X.prog X.w) X E)(ha:PA X (e::es) t)
  (he:starEach (e::es) X.env=(false,eval e X.env)::starEach es X.env:=by rfl)(hpl:(backTo pos (starEach es X.env)).any (·.1)=false:=by rfl) :
  PE X (.Call (.Name x p) (e::es) [] pos) (Oa X.prog X.w X.K X.mg X.base n i E t):=by
 intro a s σ H Q I h;obtain⟨f,k,G,sp,y,⟨P,F,b,kp⟩,o,h⟩:=h;refine wpAny_Call_Name_kw (thn (hv a s σ H (λv C=>v=.ref f/\C=H) I ⟨_,y,rfl,rfl⟩) λu M ⟨v,O,l,N,z,L⟩=>?_);subst z L;cases N;refine W.callWith_K l.ok.mod.kin kp (thn (ha pos a M σ O _ l h) λg j ⟨J,m,c,r,q⟩=>⟨c.kIn,?_⟩) he hpl;have D:g.length=G.length:=by rw[← r.length];exact F.len _ _ _ _ q
 refine wpAny_call (codeAny_mono ((F.mono o).run X.A X.stack j m ⟨g,[]⟩ g J Q (E σ) hr c.env0 (by have:=b j g c.kIn (by rw[append_nil];exact D);rw[append_nil] at this;exact this) r q) λr s' d=>?_);cases r with
 | error e=>exact hx a σ m j e s' c d
 | ok B =>
  cases B with
  | ret u=>exact c.after d
  | next=>exact False.elim d
  | brk=>exact False.elim d
  | cont=>exact False.elim d
abbrev Ug(R:XR):St->XK:=λσ cls o a=>∀ e,o=some e->R cls e σ a
def HS(C:jj X.prog X.w X.K X.mg X.base x k ps sp)(hr:lZ n X.A)(hk:k<=n)(hg:Gl X x)(ha:PA (qb X pins R) (e::es) t)
  (hdb:(x == ("__debug__" : Str))=false:=by decide)(he:starEach (e::es) X.env=(false,eval e X.env)::starEach es X.env:=by rfl)(hpl:(backTo pos (starEach es X.env)).any (·.1)=false:=by rfl) :
  PE (qb X pins R) (.Call (.Name x p) (e::es) [] pos) (JR sp (Ug R) t):=dZ (X:=qb X pins R) C hr hk hg M6 ha hdb he hpl
def LC:gB (CX1 X.prog X.w) X λ_ _ _ _=>False:=λ_ _ _ _ _ _ _ h=>by
 obtain⟨_,_,_,_,_,_,_,_,_,_,_,_,q⟩:=h;exact q.elim
theorem tW:∀ {xs:List V}{a:List Value},Vals xs a->xs.all eX=true->a.countP (eqU y)=xs.countP λz=>eqV z y
 | _,_,.nil,_=>rfl
 | x::xs,u::a,.cons r t,f=>by
  rw[all_cons,Bool.and_eq_true] at f;rw[List.countP_cons,List.countP_cons,yD r f.1,tW t f.2]
def Em:MtR X "list.count" (λx xs H Q=>∃(l:Addr)(ys:List V)(y:V),x=.ref l/\xs=[y]/\H l=some (.lst ys)/\eX y=true/\ys.all eX=true/\Q (.int (ys.countP (λz=>eqV z y):Nat)) H):=by
 intro b s σ H x xs v m Q I j g h;obtain⟨l,ys,y,rfl,rfl,f,c,fs,q⟩:=h;cases j;obtain⟨u,rfl,i⟩:=g.one;obtain⟨z,a,n,r,k,e⟩:=I.lstM f;refine call_meets F.slot_list_count ⟨_,e,rfl⟩ F.entry_list_count (F.args_list_count_2 _ _) (SeqAt.list_countAt l a.toArray n none #[] u (eqU y)) ⟨e,λw d=>gG i c r fs w (by simpa using d),?_⟩;rw[show a.toArray.toList=a from rfl,tW r fs];exact⟨.int _,H,I.tok _,⟨_,rfl⟩,q⟩
def Dc:MtR X "list.index" (λx xs H Q=>∃(l:Addr)(ys:List V)(y w:V)(j:Nat),x=.ref l/\xs=[y]/\H l=some (.lst ys)/\eX y=true/\ys.all eX=true/\ys[j]?=some w/\eqV w y=true/\(∀ i z,i<j->ys[i]?=some z->eqV z y=false)/\Q (.int (j:Nat)) H):=by
 intro o s σ H x xs v M Q I D K h;obtain⟨l,ys,y,w,j,rfl,rfl,B,A,fs,p,d,g,q⟩:=h;cases D;obtain⟨u,rfl,C⟩:=K.one;obtain⟨z,a,n,r,N,e⟩:=I.lstM B;have J:j<ys.length:=(pN.mp p).1;have at_:∀(i:Nat)(t:i<a.length)(z:V),ys[i]?=some z->eqU y a[i]=eqV z y:=λi t z hz=>by
  obtain⟨L,k,G⟩:=r.get hz;rw[n6 t] at k;cases k;exact yD G (all_eq_true.mp fs z (Xu hz))
 have hz:=tO;refine call_meets F.slot_list_index ⟨_,e,rfl⟩ F.entry_list_index (F.args_list_index_2 _ _) (SeqAt.list_indexAt l a.toArray n none #[] u (eqU y) j (by rw[XM];lia) (by lia) ?_ ?_) ⟨e,λw d=>gG C A r fs w (by simpa using d),?_⟩
 .show eqU y a[j]=true;rw[at_ j (by lia) w p];exact d
 .intro m E c;show eqU y a[m]=false;have f:m<a.length:=by simpa using E
  have b:m<ys.length:=by lia
  rw[at_ m f ys[m] (n6 b)];exact g m _ c (n6 b)
 .exact⟨.int _,H,I.tok _,⟨_,rfl⟩,q⟩
open AutoSeq1 (wpAny_loadPart')
def N8:R2:=λx y H Q=>∃(ds es:List D)(n:Nat),Den H x (.tup ds)/\Den H y (.tup es)/\dz (n+1) (.tup ds)/\dz (n+1) (.tup es)/\n<=50/\vL ds es/\Q (.bl (!eqD (.tup ds) (.tup es))) H
def Lg(hu:X.A.units+64<cLine):OpR X (compareOp .NotEq) N8:=by
 intro M s σ H x y v u Q I U S h;obtain⟨l,es,n,hx,hy,D,C,hn,hm,q⟩:=h;have R:=QJ I (s':=s) (λb o z=>z) n;obtain⟨a,vs,rfl,ha,d⟩:=aO hx;obtain⟨b,Y,rfl,W,i⟩:=aO hy;cases U;cases S;obtain⟨k,N,Z,_⟩:=I.tuple (SqT.of (K:=X.K) ha);obtain⟨c,J,p2,_⟩:=I.tuple (SqT.of (K:=X.K) W);have l1:=d.len;have l2:=i.len;have m1:=N.length;have m2:=J.length;have G:=allR_eq l es;rw[show l.length=k.toArray.size by simp;lia,show es.length=c.toArray.size by simp;lia] at G;have key:=SeqAt.RcNeAt.tuples (A:=X.A) (s:=s) (e:=λj=>eqD (l.getD j .non) (es.getD j .non)) Z p2 (by lia) λj P h2=>?_
 .rw[G] at key;exact key X.prog X.w _ _ ⟨.bl _,H,I,rfl,q⟩
 .have f:j<vs.length:=by simpa [m1] using P
  have g:j<Y.length:=by simpa [m2] using h2
  obtain⟨L,p,b1⟩:=d.at_ (n6 f);obtain⟨F,t,V⟩:=i.at_ (n6 g);obtain⟨w1,r,E⟩:=N.get (n6 f);obtain⟨T,B,m⟩:=J.get (n6 g);have O:k.toArray[j]=w1:=by
   have:=(pN.mp r).2
   simpa using this
  have q2:c.toArray[j]=T:=by
   have:=(pN.mp B).2
   simpa using this
  rw[O,q2];rw[qu,qu,p,t];have s1:=(D.2 l rfl).2 L (Xu p);have s2:=(C.2 es rfl).2 F (Xu t);exact(R L F X.A.in1 _ _ _ _ s1 s2 (hm.at_ p t) b1 V E m (by first | (simp only[Around.in1];lia) | lia)).1
def Gf{ns:List Int}{its:List Value}(r:Vals (ns.map V.int) its){i:Nat}{v:Value}(h:its[i]?=some v):∃ t,v=.int (ns.getD i 0) t:=by
 have a:i<ns.length:=by
  have:=(pN.mp h).1;have:=r.length;rw[XF] at this;lia
 obtain⟨u,b,c⟩:=r.get (i:=i) (x:=.int (ns.getD i 0)) (by rw[XC,n6 a,qu,n6 a];rfl);rw[b] at h;cases h;exact c
end L2
namespace SO
open PySem PySem.W PyProof.Rows
section
variable {O:KeyOrd}{prog:Program}{w:World}{A:Around}{E:Value->Shared->Prop}{s:Shared}
def wX{Q:Value->Shared->Prop}(G:List Value->Heap->Nat->Prop)
  (d:∀(Q:List Value->Shared->Prop),(∀ a g tk,G a g tk->Q a { s with heap:=g,toks:=tk })->wpAny (model prog w) A.in1 (collect v) Q E s)
  (hrest:∀ a g tk,G a g tk->∃(key:Nat->O.α)(κ:SortKind),a.length<64/\
   (2<=a.length->∀ h',Keeps g h'->∀(E:Value->Shared->Prop)(Q:SortKind->Shared->Prop),Q κ { s with heap:=h',toks:=tk }->wpAny (model prog w) A.in1.in1 (keyKind' a.toArray) Q E { s with heap:=h',toks:=tk }) /\
   (∀ h',Keeps g h'->Cmp key a.length (kas_ask prog w A.in1.in1 κ a) { s with heap:=h',toks:=tk }) /\
   (∀(g':Heap)(p:Array Nat),Keeps g g'->InN a.length p->dM key p a.length->(∃ n,g'.get? g.objs.size=some (seqObj "list" (List.toArray (p.toList.map λi=>a.getD i Value.none)) n))->Q (.ref g.objs.size) { s with heap:=g',toks:=tk })) :
  wpAny (model prog w) A (call (.builtin "sorted") [v]) Q E s:=by
 refine Calls.call_function_entry kind_sorted plain_sorted entry_sorted (args_sorted1 _) ?_;unfold Builtin.«sorted»;refine ni (nF ?_);refine ni (d _ λa g tk B=>?_);obtain⟨key,κ,l,u,x,h⟩:=hrest a g tk B;refine ni (wpAny_newList ?_ (by rw[sizeLine_eq];lia));have hoL:(g.push (seqObj "list" a.toArray 0)).get? g.objs.size=some (seqObj "list" a.toArray 0):=Q0 _ rfl;have kp:∀ h',(∀ b o,b≠g.objs.size->(g.push (seqObj "list" a.toArray 0)).get? b=some o->h'.get? b=some o)->Keeps g h':=λh' k b o q=>by
  exact k b o (J6 (I3 q)) (n7 _ q)
 refine ni (Xo (Xy slot_list_sort ⟨_,hoL,rfl⟩ entry_list_sort (pH key κ hoL l (λz h' k Q q=>u z h' (kp h' k) _ Q q) (λh' k=>x h' (kp h' k)) λp t y=>⟨_,rfl,?_⟩) (args_list_sort _)));refine nF ⟨_,rfl,h _ p (kp _ λb o r q=>?_) t y ?_⟩
 .unfold sortedHeap;have c:=I3 q;rw[Heap.get?_update_ne _ _ _ _ r,XJ _ _ _ (by rw[size_push',Xq];exact J6 (XH c)),XJ _ _ _ (by rw[Xq];exact J6 c),Heap.get?_update_ne _ _ _ _ r];exact q
 .unfold sortedHeap;have m:=I3 hoL;obtain⟨e,f⟩:∃ e,((g.push (seqObj "list" a.toArray 0)).update g.objs.size (Obj.mapSeq λ_=>#[])).get? g.objs.size=some (seqObj "list" #[] e):=⟨_,get?_update_seq hoL (λ_=>#[])⟩
  have j:((((g.push (seqObj "list" a.toArray 0)).update g.objs.size (Obj.mapSeq λ_=>#[])).push (seqObj "tuple" a.toArray 0)).push (seqObj "list" #[] 0)).get? g.objs.size=some (seqObj "list" #[] e):=by
   rw[XJ _ _ _ (by rw[size_push',Xq];exact J6 (XH m)),XJ _ _ _ (by rw[Xq];exact J6 m)];exact f
  exact⟨_,get?_update_seq j _⟩
end
end SO
namespace L2
open PySem PySem.Spec PyProof.Rows
def intΦ(w:World)(a:Addr)(ns:List Int):Heap->Prop:=λh=>ST.Ld w h a ns
theorem rU{ns:List Int}:∀ i,i<=ns.length->(SX.Bb (λi=>ns.getD i 0) i).Nodup/\∀ k,k∈SX.Bb (λi=>ns.getD i 0) i↔k∈ns.take i
 | 0,_=>⟨nodup_nil,λk=>by rw[take_zero];exact Iff.rfl⟩
 | i+1,a=>by
  obtain⟨b,c⟩:=rU (ns:=ns) i (by lia);have e:ns.take (i+1)=ns.take i++[ns.getD i 0]:=by
   rw[List.take_succ_eq_append_getElem (by lia),qu,n6 (by lia)]
   rfl
  show(ST.xq (SX.Bb (λi=>ns.getD i 0) i) (ns.getD i 0)).Nodup/\_;rw[e];unfold ST.xq;refine⟨?_,λk=>?_⟩
  .grind
  .show k∈ST.xq (SX.Bb (λi=>ns.getD i 0) i) (ns.getD i 0)↔_;unfold ST.xq
   grind
def OD(K:W.Frag)(w:World):List V->Hp->VK->Prop:=λxs H Q=>∃(p:Addr)(ns:List Int),xs=[.ref p]/\SqL K H p (ns.map V.int)/\ns.length<=1001/\∀(a:Addr)(ms:List Int),H a=none->ms.Nodup->(∀ k,k∈ms↔k∈ns)->ms.length<=ns.length->Q (.ref a) (upd H a (.ext (intΦ w a ms)))
def Fx{X:Cx}(hc:X.calm=true):d7 X (.type "set") (OD X.K X.w):=by
 intro l s σ H xs D Q I r h;obtain⟨p,ns,rfl,A,hz,q⟩:=h;obtain⟨u,rfl,t⟩:=vals1 r;cases t;obtain⟨f,m,pl,n⟩:=I.list A;have j:=m.length;rw[XF] at j;have hsz:f.toArray.size=ns.length:=by simp;lia
 refine SX.jT (I.ok.hd hc) (.inr pl.isList) (λi v z=>Gf m (by simpa using z)) (by rw[hsz];lia) λg tk a kp=>?_
 rw[hsz] at a;obtain⟨d,c⟩:=rU ns.length (ql _);have B:=SX.mL (val:=λi=>ns.getD i 0) (i:=ns.length);generalize SX.Bb (λi=>ns.getD i 0) ns.length=C at a d c B;rw[take_length] at c;refine⟨.ref s.heap.objs.size,_,I.laid (λb o e=>kp b o (I3 e) e) (ql _) ?_,rfl,q _ C I.fresh d c (by lia)⟩;refine⟨a,?_,λd c x k=>x.keep k⟩;obtain⟨o,_,_,_,_,y,_⟩:=a.ex;exact⟨o,y⟩
def Ia{E:Value->Shared->Prop}{Q:List Value->Shared->Prop}(hh:A.handled=none)(hS:ST.Ld w s.heap S ns)
  (h:∀(g:Heap)(tk:Nat)(a:List (Int × Tok)),(a.map (·.1)).Perm ns->(∀ b u,s.heap.get? b=some u->g.get? b=some u)->Q (a.map λp=>.int p.1 p.2) { s with heap:=g,toks:=tk }):wpAny (model prog w) A (collect (.ref S)) Q E s:=by
 obtain⟨o,es,ep,t,a,r,j,hd,c,x,k,e,v,m,l⟩:=hS.ex;have q:t.fits es.size=true:=by
  unfold SetTable.fits SetTable.fill;rw[c.d,c.sz]
  grind
 refine SI.mq hh r j.1 hd q c.sz c.up (.inr (.inl (k rfl))) (λz=>e.resolve_left λy=>absurd (y.symm.trans z) (by decide)) (by have:=c.room;rw[sizeLine_eq];lia) λg tk n=>?_
 have i:(SI.ord w S es ep).toList.Perm (a.map ST.Q9):=by
  rw[← l];exact SI.sH
 obtain⟨f,k1,k2⟩:=ST.dg i.symm rfl;have:=h g tk f ((k1.map (·.1)).trans m) n;rw[k2,map_map];exact this
def Gy(ns:List Int):Hom (ns.map D.int):=by
 refine⟨λd hd e he=>?_,.inl λd hd=>?_⟩
 .obtain⟨a,_,rfl⟩:=mem_map.mp hd;obtain⟨b,_,rfl⟩:=mem_map.mp he;exact trivial
 .grind
theorem JV:∀ a:List (Int × Tok),Vals ((a.map (·.1)).map V.int) (a.map λp=>Value.int p.1 p.2)
 | []=>.nil
 | p::r=>.cons ⟨_,rfl⟩ (JV r)
def wQ(w:World):List V->Hp->VK->Prop:=λxs H Q=>∃(p:Addr)(ms:List Int),xs=[.ref p]/\H p=some (.ext (intΦ w p ms))/\ms.length<64 /\
 ∀(l:Addr)(ns:List Int),H l=none->ns.Perm ms->ns.Pairwise (· <= ·)->Q (.ref l) (upd H l (.lst (ns.map V.int)))
def jU(hc:X.calm=true)(hu:X.A.units+64<cLine):d7 X (.builtin "sorted") (wQ X.w):=by
 intro ai s σ H xs us Q I r h;obtain⟨p,T,rfl,hp,hz,q⟩:=h;obtain⟨u,rfl,rx⟩:=vals1 r;cases rx;have hS:=(I.hok _ _ hp).1;refine SO.wX (O:=Gv) (λy g tk=>∃ c:List (Int × Tok),(c.map (·.1)).Perm T/\y=c.map (λp=>Value.int p.1 p.2)/\∀ b o,s.heap.get? b=some o->g.get? b=some o)
  (λQ' q'=>Ia (by first | exact I.ok.hd hc | simp[I.ok.hd hc]) hS λg tk c C kp=>q' _ _ _ ⟨c,C,rfl,kp⟩) ?_
 rintro y g tk ⟨c,C,rfl,kp⟩;have I5:=I.kept (t':=tk) kp;have hn:c.length=T.length:=by
  have:=C.length_eq;rw[XF] at this;exact this
 have hD':bW H ((c.map (·.1)).map V.int) ((c.map (·.1)).map D.int):=by
  generalize c.map (·.1)=l
  induction l with
  | nil=>exact trivial
  | cons a l ih=>exact⟨rfl,ih⟩
 have U:=JV c;have M:((c.map (·.1)).map D.int).Perm (T.map D.int):=C.map _;obtain⟨κ,N,K⟩:=Rk hu I5 hD' U (Gy _) (by rw[XF,XF];lia) (λd hd=>by
  obtain⟨a,_,rfl⟩:=mem_map.mp hd;exact⟨(λz=>nomatch z),λ_ z=>nomatch z⟩)
 have f:(c.map λp=>Value.int p.1 p.2).length=c.length:=XF _;have F:((c.map (·.1)).map V.int).length=c.length:=by rw[XF,XF]
 have t:((c.map (·.1)).map D.int).length=c.length:=by rw[XF,XF]
 generalize ((c.map (·.1)).map D.int)=G at hD' M K t;generalize (c.map λp=>Value.int p.1 p.2)=y at U N K f ⊢;generalize ((c.map (·.1)).map V.int)=vs at hD' U F;refine⟨λi=>G.getD i .non,κ,by rw[f];lia,λh2 h' v E Q q=>N h2 h' v E Q q,λh' v=>K h' v,λg' x v L hs n=>?_⟩;obtain⟨m,n⟩:=n;have R:∀ i∈x.toList,i<c.length:=λi J=>by rw[← f];exact mem_range.mp (L.mem_iff.mp J)
 have ab:x.toList.length=c.length:=by rw[← f];simpa using L.length_eq
 have hU:=kh U x.toList λi J=>by rw[F];exact R i J
 have S:=jG hD' x.toList λi J=>by rw[t];exact R i J
 have hPP:(x.toList.map λi=>G.getD i D.non).Perm (T.map D.int):=by
  refine List.Perm.trans ?_ M;have e:(List.range y.length).map (λi=>G.getD i .non)=G:=by
   apply ext_getElem
   .rw[XF,length_range,f,t]
   .intro i h1 h2;simp[qu,h2]
  have:=L.map λi=>G.getD i D.non
  rw[e] at this;exact this
 have B:UpD (x.toList.map λi=>G.getD i D.non):=by
  unfold UpD;rw[pairwise_iff_getElem];intro i j J hj aa;have h:=hs i j (Nat.le_of_lt aa) (by rw[f,← ab];simpa using hj);have e:∀ k (W:k<x.toList.length),SO.KN (O:=Gv) (λi=>G.getD i .non) x k=(x.toList.map λi=>G.getD i D.non)[k]'(by rw[XF];exact W):=by
   intro k W;have ae:k<x.size:=by simpa using W
   unfold SO.KN;rw[getElem_map];congr 1;simp[Array.getD,ae]
  rw[e i (by simpa using J),e j (by simpa using hj)] at h;exact h
 obtain⟨ns,P,Y⟩:=ST.dg hPP.symm rfl;rw[Y] at S B;have af:=yw S;have Z:ns.Pairwise (· <= ·):=by
  unfold UpD at B;rw[pairwise_map] at B;refine B.imp fun {a b} h=>?_
  rw[wN] at h;exact Int.not_lt.mp (of_decide_eq_false h)
 rw[af] at hU;refine⟨.ref _,_,I5.laid (o:=.lst (ns.map V.int)) v (ql _) ⟨?_,_,m,hU,n⟩,rfl,q _ ns (I5.hok.fresh (ql _)) P Z⟩;rw[XF,P.length_eq,sizeLine_eq];lia
def Er:∀ {a b:List Int},a.Pairwise (· < ·)->b.Pairwise (· <= ·)->b.Nodup->(∀ k,k∈b↔k∈a)->b=a:=by
 intro a b e g d f;have c:b.Pairwise (· < ·):=by
  have:=List.Pairwise.and g (nodup_iff_pairwise_ne.mp d);exact this.imp fun {x y} h=>by lia
 exact(List.perm_ext_iff_of_nodup d (e.imp fun {x y} h=>by lia)).mpr f |>.eq_of_pairwise (λx y _ _ i j=>by lia) c e
end L2
namespace SO
open PySem PySem.W PyProof.Rows
section
variable {O:KeyOrd}{prog:Program}{w:World}{A:Around}{E:Value->Shared->Prop}{s:Shared}
def oh{Q:Value->Shared->Prop}(G:List Value->Heap->Nat->Drawn->Prop)
  (e:∀(Q:List Value->Shared->Prop),(∀ a g tk c,G a g tk c->Q a { s with heap:=g,toks:=tk,drawn:=c })->wpAny (model prog w) A.in1 (collect v) Q E s)
  (hrest:∀ a g tk c,G a g tk c->∃(key:Nat->O.α)(κ:SortKind),a.length<64/\
   (2<=a.length->∀ h',Keeps g h'->∀(E:Value->Shared->Prop)(Q:SortKind->Shared->Prop),Q κ { s with heap:=h',toks:=tk,drawn:=c }->wpAny (model prog w) A.in1.in1 (keyKind' a.toArray) Q E { s with heap:=h',toks:=tk,drawn:=c }) /\
   (∀ h',Keeps g h'->Cmp key a.length (kas_ask prog w A.in1.in1 κ a) { s with heap:=h',toks:=tk,drawn:=c }) /\
   (∀(g':Heap)(p:Array Nat),Keeps g g'->InN a.length p->dM key p a.length->(∃ n,g'.get? g.objs.size=some (seqObj "list" (List.toArray (p.toList.map λi=>a.getD i Value.none)) n))->Q (.ref g.objs.size) { s with heap:=g',toks:=tk,drawn:=c })) :
  wpAny (model prog w) A (call (.builtin "sorted") [v]) Q E s:=by
 refine Calls.call_function_entry kind_sorted plain_sorted entry_sorted (args_sorted1 _) ?_;unfold Builtin.«sorted»;refine ni (nF ?_);refine ni (e _ λa g tk c C=>?_);obtain⟨key,κ,m,x,y,h⟩:=hrest a g tk c C;refine ni (wpAny_newList ?_ (by rw[sizeLine_eq];lia));have hoL:(g.push (seqObj "list" a.toArray 0)).get? g.objs.size=some (seqObj "list" a.toArray 0):=Q0 _ rfl;have kp:∀ h',(∀ b o,b≠g.objs.size->(g.push (seqObj "list" a.toArray 0)).get? b=some o->h'.get? b=some o)->Keeps g h':=λh' k b o q=>by
  exact k b o (J6 (I3 q)) (n7 _ q)
 refine ni (Xo (Xy slot_list_sort ⟨_,hoL,rfl⟩ entry_list_sort (pH key κ hoL m (λz h' k Q q=>x z h' (kp h' k) _ Q q) (λh' k=>y h' (kp h' k)) λp u B=>⟨_,rfl,?_⟩) (args_list_sort _)));refine nF ⟨_,rfl,h _ p (kp _ λb o t q=>?_) u B ?_⟩
 .unfold sortedHeap;have d:=I3 q;rw[Heap.get?_update_ne _ _ _ _ t,XJ _ _ _ (by rw[size_push',Xq];exact J6 (XH d)),XJ _ _ _ (by rw[Xq];exact J6 d),Heap.get?_update_ne _ _ _ _ t];exact q
 .unfold sortedHeap;have r:=I3 hoL;obtain⟨f,j⟩:∃ f,((g.push (seqObj "list" a.toArray 0)).update g.objs.size (Obj.mapSeq λ_=>#[])).get? g.objs.size=some (seqObj "list" #[] f):=⟨_,get?_update_seq hoL (λ_=>#[])⟩
  have l:((((g.push (seqObj "list" a.toArray 0)).update g.objs.size (Obj.mapSeq λ_=>#[])).push (seqObj "tuple" a.toArray 0)).push (seqObj "list" #[] 0)).get? g.objs.size=some (seqObj "list" #[] f):=by
   rw[XJ _ _ _ (by rw[size_push',Xq];exact J6 (XH r)),XJ _ _ _ (by rw[Xq];exact J6 r)];exact j
  exact⟨_,get?_update_seq l _⟩
end
end SO
namespace SN
open PySem PySem.Spec PyProof.Rows L2
section
variable {prog:Program}{w:World}{A:Around}{E:Value->Shared->Prop}{s:Shared}{S:Addr}{C:D->Prop}
def vp{Q:List Value->Shared->Prop}(hh:A.handled=none)(hS:Ni w C s.heap S kas)
  (h:∀(g:Heap)(tk:Nat) j (a:List (D × Addr)),a.Perm kas->(∀ b u,s.heap.get? b=some u->g.get? b=some u)->Q (a.map λp=>.ref p.2) { s with heap:=g,toks:=tk,drawn:=j }):wpAny (model prog w) A (collect (.ref S)) Q E s:=by
 obtain⟨o,es,ep,t,a,B,m,hd,c,G,f,F,q,n⟩:=hS.ex;have v:t.fits es.size=true:=by
  unfold SetTable.fits SetTable.fill;rw[c.d,c.sz];have:=c.room;simp;exact this
 refine SI.nD hh B m.1 hd v c.sz c.up (λz=>f.resolve_left λy=>absurd (y.symm.trans z) (by decide)) (by have:=c.room;rw[sizeLine_eq];lia) λg tk j x l r=>?_
 have k:x.Perm (a.map λp=>Value.ref p.2):=by
  refine l.trans ?_;rw[n.e,map_map];exact List.Perm.refl _
 obtain⟨i,k1,k2⟩:=ST.dg k.symm rfl;rw[k2];exact h g tk j i (k1.trans q) r
end
end SN
namespace L2
open PySem PySem.Spec PyProof.Rows
def Inv.draw(I:Inv X pins σ H s)(dr:Drawn):Inv X pins σ H { s with drawn:=dr }:=⟨I.ok,I.os,I.bare,I.base,I.loc,I.cell,I.free,I.freeC,I.pin,I.hok,I.len⟩
def nestΦ(w:World)(a:Addr)(c:List (D × Addr)):Heap->Prop:=λh =>
 ∃(o:Obj)(es:Array (Int × Value))(ep:Nat)(t:SetTable)(b:List (D × Addr)),h.get? a=some o/\o.ExactSet/\o.data=.set es ep t/\ST.TOk t es.size/\es.size*5<t.mask*3/\(w.params.followText "set-order" = true\/t.led=true)/\t.mask<=8000/\b.Perm c/\es.toList=b.map λp=>(fL w p.1,Value.ref p.2)
def nestΦ_of{C:D->Prop}(x:SN.Ni w C h a kas)(hp:kas.Perm kas2):nestΦ w a kas2 h:=by
 obtain⟨o,es,ep,t,c,f,l,g,i,j,a7,k,d,b⟩:=x.ex;exact⟨o,es,ep,t,c,f,l,g,i,j,a7,k,d.trans hp,b.e⟩
def nestΦ_to{C:D->Prop}(x:nestΦ w a kas h)(hk:∀ p∈kas,SN.IsK C h p.1 p.2):SN.Ni w C h a kas:=by
 obtain⟨o,es,ep,t,c,e,k,f,g,i,a7,j,d,b⟩:=x;exact⟨o,es,ep,t,c,e,k,f,g,i,a7,j,d,b,λp l=>hk p (d.mem_iff.mp l)⟩
section
variable {X:Cx}{pins:List (Addr × Obj)}{σ:St}{H:Hp}{s:Shared}
def Cm(I:Inv X pins σ H s){C:D->Prop}(hC:KCls C n)(hd:C d)(h:Den H (.ref a) d):SN.IsK C s.heap d a:=⟨hd,yO I.hok (hC.pl _ hd) h rfl⟩
theorem wL:∀ {as:List Addr}{ds:List D},bW H (as.map V.ref) ds->as.length=ds.length/\∀ q∈ds.zip as,Den H (.ref q.2) q.1
 | [],[],_=>⟨rfl,λq b=>by cases b⟩
 | a::as,p::f,h=>by
  obtain⟨c,d⟩:=h;obtain⟨e,k⟩:=wL d;refine⟨by rw[length_cons,length_cons,e],λq b=>?_⟩;rcases mem_cons.mp b with rfl | b
  .exact c
  .exact k q b
 | [],_::_,h=>h.elim
 | _::_,[],h=>h.elim
theorem qL:∀ {l:List (D × Addr)},(∀ q∈l,Den H (.ref q.2) q.1)->bW H ((l.map (·.2)).map V.ref) (l.map λq=>q.1)
 | [],_=>trivial
 | q::l,h=>⟨h q (.head _),qL λr a=>h r (.tail _ a)⟩
end
def GK(h:Hom ds)(p:ds.Perm es):Hom es:=⟨λa c b e=>h.1 a (p.mem_iff.mpr c) b (p.mem_iff.mpr e),h.2.imp (λz d hd=>z d (p.mem_iff.mpr hd)) λz=>z.imp (λz d hd=>z d (p.mem_iff.mpr hd)) λz d hd=>z d (p.mem_iff.mpr hd)⟩
def Bh(hn:n<=8)(h:dz n d):dz 50 d:=by
 have:∀ k,dz (n+k) d:=λk=>by
  induction k with
  | zero=>exact h
  | succ k a=>exact a.up
 have:=this (50 - n)
 rwa [show n+(50 - n)=50 by lia] at this
def yq(K:W.Frag)(w:World)(C:D->Prop):List V->Hp->VK->Prop:=λxs H Q=>∃(p:Addr)(as:List Addr)(ps:List D),xs=[.ref p]/\SqT K H p (as.map V.ref)/\bW H (as.map V.ref) ps/\(∀ d∈ps,C d)/\ps.Nodup/\ps.length<=899/\∀ a,H a=none->Q (.ref a) (upd H a (.ext (nestΦ w a (ps.zip as))))
def um{C:D->Prop}(hC:KCls C n)(hw:X.w=w)(hc:X.calm=true)(hu:X.A.units+64<cLine):d7 X (.type "set") (yq X.K w C):=by
 subst hw;intro U s σ H xs us Q I r h;obtain⟨p,as,d,rfl,P,hD,M,F,hz,q⟩:=h;obtain⟨u,rfl,rx⟩:=vals1 r;cases rx;obtain⟨l,W,pl,ap⟩:=I.tuple P;obtain⟨hl,hk⟩:=wL hD;have R:=W.length;rw[XF] at R;have hsz:l.toArray.size=d.length:=by simp;lia
 have aI:(d.zip as).length=d.length:=by rw[length_zip];lia
 have Y:=λq a=>Cm I hC (M _ (of_mem_zip a).1) (hk q a)
 have E:∀ h':Heap,(∀ b o,s.heap.get? b=some o->h'.get? b=some o)->∀ q∈d.zip as,SN.IsK C h' q.1 q.2:=λh' y q a=>⟨(Y q a).1,(Y q a).2.keep λb l t=>by
  obtain⟨o,e,c⟩:=t;exact⟨o,y b o e,c⟩⟩
 refine SX.pK (SS:=λi h=>SN.Ni X.w C h s.heap.objs.size (((d.zip as).take i).reverse)) (I.ok.hd hc) (.inl (show s.heap.IsTuple _ l.toArray from pl)) (λi h h' x hs y=>?_) (λA' i v s' E' Q' hA hi hv x y a=>?_) (λled h L eg y=>?_) λg tk x kp=>?_
 .obtain⟨o,es,ep,t,f,a1,a2,Z,a4,a5,a7,a8,S,b⟩:=x.ex;exact⟨o,es,ep,t,f,hs o a1,a2,Z,a4,a5,a7,a8,S,b.e,λq a=>E h' y q (List.mem_of_mem_take (mem_reverse.mp (S.mem_iff.mp a)))⟩
 .rw[hsz] at hi;have G:i<(d.zip as).length:=by lia
  have N:l[i]?=some v:=by simpa using hv
  have hn:(as.map V.ref)[i]?=some (.ref as[i]):=by rw[XC,n6 (by lia)];rfl
  obtain⟨u,B,ru⟩:=W.get hn;rw[N] at B;cases B;have ev:=ru;subst ev;have hm:(d[i],as[i])∈d.zip as:=by
   have:=getElem_mem G;rw[getElem_zip] at this;exact this
  have m:=E s'.heap y _ hm;have av:=hC.n8;unfold setAdd;refine Xo (ni (G8 n (hC.sh _ m.1) m.2 (by lia) ?_));refine SN.Mv hC (by lia) x m (λq a z=>?_) (by rw[List.length_reverse,length_take];lia) λg sb hS2=>?_
  .have a:=mem_reverse.mp a;obtain⟨j,hj,e⟩:=getElem_of_mem a;rw[length_take] at hj;rw[getElem_take,getElem_zip] at e;have e1:d[j]=q.1:=by rw[← e]
   rw[nodup_iff_pairwise_ne,pairwise_iff_getElem] at F;exact F j i (by lia) (by lia) (by lia) (e1.trans z)
  .refine a true g _ (Nat.le_add_right _ _) sb ?_;have:(((d.zip as).take (i+1)).reverse)=(d[i],as[i])::((d.zip as).take i).reverse:=by
    rw[List.take_succ_eq_append_getElem G,List.reverse_append,getElem_zip]
    rfl
   rw[this];exact hS2
 .exact⟨_,#[],0,.fresh 0 0 led,[],eg,⟨rfl,rfl,rfl⟩,rfl,⟨⟨3,rfl⟩,rfl,rfl,by show 0<=7;decide,by show 7%2=1;rfl,ST.Up.nil⟩,by show 0*5<7*3;decide,L,by show 7<=8000;decide,List.Perm.refl _,⟨rfl,λp P=>by cases P⟩⟩
 .rw[hsz,take_of_length_le (by lia)] at x;refine⟨.ref s.heap.objs.size,_,I.laid (λb o e=>kp b o (I3 e) e) (ql _) ?_,rfl,q _ I.fresh⟩;have T:=nestΦ_of x (List.reverse_perm _);refine⟨T,?_,λh1 h2 ⟨o,es,ep,t,f,O,J⟩ k=>⟨o,es,ep,t,f,k o O,J⟩⟩;obtain⟨o,es,ep,t,_,O,_⟩:=T;exact⟨o,O⟩
def CZ(w:World)(C:D->Prop):List V->Hp->VK->Prop:=λxs H Q=>∃(p:Addr)(as:List Addr)(ps:List D),xs=[.ref p]/\H p=some (.ext (nestΦ w p (ps.zip as)))/\bW H (as.map V.ref) ps/\(∀ d∈ps,C d)/\Hom ps/\ps.length<64 /\
 ∀(l:Addr)(us:List V)(ds':List D),H l=none->ds'.Perm ps->UpD ds'->bW H us ds'->Q (.ref l) (upd H l (.lst us))
def rH{C:D->Prop}(hC:KCls C n)(hw:X.w=w)(hc:X.calm=true)(hu:X.A.units+64<cLine):d7 X (.builtin "sorted") (CZ w C):=by
 subst hw;intro af s σ H xs us Q I r h;obtain⟨p,as,N,rfl,hp,hD,R,T,hz,q⟩:=h;obtain⟨u,rfl,rx⟩:=vals1 r;cases rx;obtain⟨hl,M⟩:=wL hD;have hS:=nestΦ_to (I.hok _ _ hp).1 λq z=>Cm I hC (R _ (of_mem_zip z).1) (M q z)
 refine SO.oh (O:=Gv) (λx g tk W=>∃ a:List (D × Addr),a.Perm (N.zip as)/\x=a.map (λp=>Value.ref p.2)/\∀ b o,s.heap.get? b=some o->g.get? b=some o)
  (λQ' q'=>SN.vp (by first | exact I.ok.hd hc | simp[I.ok.hd hc]) hS λg tk W a f kp=>q' _ _ _ W ⟨a,f,rfl,kp⟩) ?_
 rintro x g tk W ⟨a,f,rfl,kp⟩;have I5:=(I.kept (t':=tk) kp).draw W;have hn:a.length=N.length:=by rw[f.length_eq,length_zip];lia
 have aa:∀ q∈a,q.1∈N:=λq z=>(of_mem_zip (f.mem_iff.mp z)).1
 have hD':=qL λq z=>M q (f.mem_iff.mp z)
 have Y:Vals ((a.map (·.2)).map V.ref) (a.map λp=>Value.ref p.2):=by
  have:=uw (a.map (·.2));have e:(a.map (·.2)).map Value.ref=a.map λp=>Value.ref p.2:=by rw[map_map];rfl
  rw[e] at this;exact this
 have G:(a.map λq=>q.1).Perm (N):=by
  have:=f.map λq=>q.1
  refine this.trans ?_;have e:(N.zip as).map (λq=>q.1)=N:=List.map_fst_zip (by lia);rw[e]
 obtain⟨κ,S,J⟩:=Rk hu I5 hD' Y (GK T G.symm) (by rw[XF];lia) (λd hd=>by obtain⟨q,z,rfl⟩:=mem_map.mp hd;exact Bh hC.n8 (hC.sh _ (R _ (aa q z))));have c:(a.map λp=>Value.ref p.2).length=a.length:=XF _;have B:((a.map (·.2)).map V.ref).length=a.length:=by rw[XF,XF]
 have l:(a.map λq=>q.1).length=a.length:=XF _;generalize (a.map λq=>q.1)=F at hD' G J l;generalize (a.map λp=>Value.ref p.2)=x at Y S J c ⊢;generalize ((a.map (·.2)).map V.ref)=vs at hD' Y B;refine⟨λi=>F.getD i .non,κ,by rw[c];lia,λh2 h' t E Q q=>S h2 h' t E Q q,λh' t=>J h' t,λg' y t K hs v=>?_⟩;obtain⟨m,v⟩:=v;have P:∀ i∈y.toList,i<a.length:=λi L=>by rw[← c];exact mem_range.mp (K.mem_iff.mp L)
 have U:y.toList.length=a.length:=by rw[← c];simpa using K.length_eq
 have hU:=kh Y y.toList λi L=>by rw[B];exact P i L
 refine⟨.ref _,_,I5.laid (o:=.lst (y.toList.map λi=>vs.getD i .non)) t (ql _) ⟨?_,_,m,hU,v⟩,rfl,q _ _ (y.toList.map λi=>F.getD i .non) (I5.hok.fresh (ql _)) ?_ ?_ (jG hD' _ λi L=>by rw[l];exact P i L)⟩
 .rw[XF,U,sizeLine_eq];lia
 .refine List.Perm.trans ?_ G;have e:(List.range x.length).map (λi=>F.getD i .non)=F:=by
   apply ext_getElem
   .rw[XF,length_range,c,l]
   .intro i h1 h2;simp[qu,h2]
  have:=K.map λi=>F.getD i D.non
  rw[e] at this;exact this
 .unfold UpD;rw[pairwise_iff_getElem];intro i j L hj ab;have h:=hs i j (Nat.le_of_lt ab) (by rw[c,← U];simpa using hj);have e:∀ k (M:k<y.toList.length),SO.KN (O:=Gv) (λi=>F.getD i .non) y k=(y.toList.map λi=>F.getD i D.non)[k]'(by rw[XF];exact M):=by
   intro k M;have Z:k<y.size:=by simpa using M
   unfold SO.KN;rw[getElem_map];congr 1;simp[Array.getD,Z]
  rw[e i (by simpa using L),e j (by simpa using hj)] at h;exact h
section
variable {prog:Program}{w:World}{A:Around}{E:Value->Shared->Prop}{s:Shared}
theorem zF(hne:l≠g):∀(n i:Nat)(s:Shared)(Q:List Value->Shared->Prop),s.heap.IsListIter g l i->s.heap.IsList l its->i+n<=its.size ->
  (∀ h',h'.IsListIter g l (i+n)->Heap.SameBut g s.heap h'->Q ((its.toList.drop i).take n) { s with heap:=h' })->wpAny (model prog w) A (draw (.ref g) n) Q E s
 | 0,i,s,Q,hg,_,_,q=>nF (by
   have:=q s.heap hg (Heap.SameBut.refl ..)
   rwa [take_zero] at this)
 | n+1,i,s,Q,hg,b,a,q=>by
  have lt:i<its.size:=Xk (by lia) a;refine ni (wpAny_pyNext_list_item hg b (UG lt) λh ga sa=>?_);refine ni (Xo (zF hne n (i+1) _ _ ga (b.extBut sa.extBut hne) (by lia) λd f c=>nF ?_));have z:=q d (by rw[Nat.add_comm n 1,← Nat.add_assoc];exact f) (sa.trans c);have e:its.toList.drop i=its[i]::its.toList.drop (i+1):=List.drop_eq_getElem_cons (by simpa using lt)
  rwa [e,take_succ_cons] at z
def Aa{a:List (Bool × (Value->Sem Unit))}{Q:Unit->Shared->Prop}(hh:A.handled=none)(hl:s.heap.IsList l its)(hn:a.length=its.size)(hst:a.findIdx? (·.1)=none)
  (h:∀ h',Heap.ExtBut s.heap.objs.size s.heap h'->wpAny (model prog w) A (assignInOrder (a.map (·.2)) its.toList) Q E { s with heap:=h' }):wpAny (model prog w) A (unpack (.ref l) a) Q E s:=by
 have ne:l≠s.heap.objs.size:=by
  obtain⟨o,c,_⟩:=hl;exact J6 (I3 c)
 unfold unpack;rw[hn,hst];refine ni (Xo ?_);unfold unpackItems notIterableAtAll;refine ni (ni (wpAny_specialOf hl.typeIs slot_list_iter.lookup (nF ?_)));rw[if_neg (by simp)];refine ni (Xo (wpAny_pyIter_list hl ?_));refine ni (Xo (zF ne its.size 0 _ _ ⟨_,Q0 _ rfl,rfl,rfl⟩ (hl.push _) (by lia) λg ga sa=>?_));have e:(its.toList.drop 0).take its.size=its.toList:=take_of_length_le (Nat.le_of_eq (by rw[length_drop,Nat.sub_zero,Xj]));rw[e,if_neg (by simp)];refine ni (Xo (wpAny_pyNext_list_end hh ga ((hl.push _).extBut sa.extBut ne) (by simp) λf d=>?_));rw[if_neg (by simp)];exact nF (h f λb o z e=>d b o z (sa.extBut b o z (n7 _ e)))
end
def Ua(K:W.Frag)(n:Nat)(t:TGs):TG:=λv σ H Q=>∃ a xs,v=.ref a/\SqL K H a xs/\xs.length=n/\t xs σ H Q
theorem Pk(hc:X.calm=true)(h:PGs X es t)
  (hn:(assignEach es X.env).length=n:=by rfl)(hst:(assignEach es X.env).findIdx? (·.1)=none:=by rfl):PG X (.Tuple es k pos) (Ua X.K n t):=by
 intro c s σ H v u Q I r d;obtain⟨a,xs,g,l,j,d⟩:=d;subst g;cases r;obtain⟨i,f,ht,hz⟩:=I.list l;rw[assign_Tuple];refine ni (wpAny_standAt (Aa (I.ok.hd hc) ht.isList (by simp[hn,← j,f.length]) hst λh' m=>?_));exact h c _ σ H xs _ Q (I.kept λb o e=>m b o (J6 (I3 e)) e) (by simpa using f) d
def S9(F:List (Str × List Str)):List (Str × KTD.Dat):=F.map λp=>(p.1,.tup (p.2.map PyData.str))
def Uq(K:W.Frag)(t:Addr)(F:List (Str × List Str)):Prop:=KTD.tabLook (KTD.datLooks λb=>K.lookup b) (λb=>K.lookup b) t (S9 F)=true
def zP:MtM X "list.remove" (λx o H Q=>∃(l:Addr)(ys:List Str)(y:Str)(j:Nat),x=.ref l/\o=[.str y]/\H l=some (.lst (ys.map V.str))/\ys[j]?=some y/\(∀(i:Nat)(z:Str),i<j->ys[i]?=some z->z≠y)/\Q .non (upd H l (.lst ((ys.map V.str).eraseIdx j)))):=by
 intro p s σ H x o v P Q I C N h;obtain⟨l,ys,y,j,rfl,rfl,k,w,d,q⟩:=h;cases C;obtain⟨u,rfl,B⟩:=N.one;obtain⟨tk,rfl⟩:=B;obtain⟨z,a,n,r,E,e⟩:=I.lstM k;have K:=Ay r;have f:=(pN.mp w).1;rw[XF] at E;have at_:∀(i:Nat)(A:i<a.length),∃ t,a[i]=.str ys[i] t:=λi A=>by
  have J:(ys.map V.str)[i]?=some (.str ys[i]):=by rw[XC,n6 (by lia)];rfl
  obtain⟨O,g,t,L⟩:=r.get J;rw[n6 A] at g;exact⟨t,(Xn g).trans L⟩
 have M:=Xn ((n6 f).symm.trans w);refine call_meets PySem.F.slot_list_remove ⟨_,e,rfl⟩ PySem.F.entry_list_remove (PySem.F.args_list_remove_2 _ _)
  (MeetsSeq.list_remove l a.toArray n (.str y tk) (isStrOf y) (λv D=>eq_isStrOf y tk K v (by simpa using D)) j (by rw[XM];lia) ?_ ?_ ?_) ⟨e,?_⟩
 .show isStrOf y a[j]=true;obtain⟨t,h⟩:=at_ j (by lia)
  rw[h,M];exact beq_self_eq_true y
 .intro m G b;show isStrOf y a[m]=false;have c:m<a.length:=by simpa using G
  obtain⟨t,h⟩:=at_ m c
  rw[h];exact beq_eq_false_iff_ne.mpr (d m _ b (n6 (by lia)))
 .rw[XM];rw[XF] at z;lia
 .refine⟨.non,_,I.lset k e ?_ (r.eraseIdx j) ?_,rfl,q⟩
  .show a.toArray.eraseIdxIfInBounds j=(a.eraseIdx j).toArray;rw[List.eraseIdxIfInBounds_toArray]
  .have:=nM (ys.map V.str) j;lia
def sG(K:W.Frag)(nm:Str)(v:Value):Bool:=match W.nsIn K mainGlobals nm,v with
 | some (some (.ref a)),.ref b=>a == b
 | _,_=>false
def KFT(K:W.Frag)(t:Addr)(F:List (Str × Str)):Prop:=KTD.tabLook (sG K) (λb=>K.lookup b) t F=true
def O9{K:W.Frag}{nm:Str}{v:Value}(h:sG K nm v=true):∃ f,v=.ref f/\W.nsIn K mainGlobals nm=some (some (.ref f)):=by
 unfold sG at h;split at h
 .rename_i a b e;exact⟨b,rfl,by rw[e,eq_of_beq h]⟩
 .cases h
def KFT.tab{K:W.Frag}{t:Addr}{F:List (Str × Str)}{h:Heap}(k:KFT K t F)(X:K.In h):KTD.TabOf (λnm v=>sG K nm v=true) h t F:=KTD.tab_of_look (λ_ _ x=>x) (λb o q=>X b o q) k
section
variable {prog:Program}{w:World}{A:Around}{E:Value->Shared->Prop}{s:Shared}
def LK{δ:Type}{R:δ->Value->Prop}{D:List (Str × δ)}{Q:Option Value->Shared->Prop}(T:KTD.TabOf R s.heap a D){d:δ}(hd:KTD.datumAt k D=some d)
  (q:∀ v,R d v->Q (some v) { s with toks:=s.toks+1 }):wpAny (model prog w) A (dictGet a (.str k tk)) Q E s:=by
 obtain⟨_,o,es,ep,b,h,he,c⟩:=T;unfold dictGet
 try with_reducible refine Xo ?_
 refine ni (wpAny_pyHash_str (ni (KTD.kt_dictFind_strs b he (by obtain⟨l⟩:=es;simpa using c.exact) ?_)));obtain⟨v,g,f⟩:=c.find_some hd;have z:findBy (λk v=>v.isStr k) es k=some v:=by
  obtain⟨l⟩:=es
  simpa [findBy] using g
 rw[findBy_of_findIdx?] at z;cases hi:es.findIdx? λe=>e.key.isStr k with
 | none=>rw[hi] at z;cases z
 | some i =>
  rw[hi] at z;refine ni (wpAny_dictEntries b he (nF ?_));rw[show(es[i]?.map (·.val))=some v from z];exact q v f
end
def Ra(K:W.Frag)(td ty:TE):TE:=λσ H Q=>td σ H λx b=>ty σ b λy a=>∃(t:Addr)(F:List (Str × Str))(k nm:Str),x=.ref t/\y=.str k/\KFT K t F/\KTD.datumAt k F=some nm /\
 ∀ f,W.nsIn K mainGlobals nm=some (some (.ref f))->Q (.ref f) a
def Lh{X:Cx}{o i:Expr}{pos:Pos}{td ty:TE}(c:PE X o td)(hi:PE X i ty)(hs:RJ i):PE X (.Subscript o i pos) (Ra X.K td ty):=by
 intro b s σ H Q I h;refine Fe PySem.F.slot_dict_getitem.lookup hs (thn (c b s σ H _ I h) λu B ⟨x,q,r,p,j⟩=>thn (hi b B σ q _ r j) λiv e ⟨y,g,d,n,t,F,k,nm,ex,D,z,l,A⟩=>?_);subst ex D;cases p;obtain⟨tk,rfl⟩:=n;have T:=z.tab d.kIn;have a:e.TypeIs (.ref t) "dict":=by
  obtain⟨_,o,es,ep,c,m,_⟩:=T;exact⟨o,c,m.1⟩
 refine⟨a,?_⟩;unfold getItem
 try with_reducible refine Xo ?_
 refine ni (wpAny_sequenceKey a (by decide) (ni (wpAny_callSpecial?_slot a slot_dict_getitem
  (Xy slot_dict_getitem a entry_dict_getitem ?_ (args_dict_getitem _ _)))))
 show wpAny _ _ (dictGet t (.str k tk) >>= _) _ _ e;refine ni (LK T l λv C=>nF ⟨v,rfl,nF ?_⟩);obtain⟨f,rfl,w⟩:=O9 C;exact⟨.ref f,g,d.tok _,rfl,A f w⟩
def kZ(hw:X.w=w)(hc:X.calm=true):d7 X (.type "set") (OD X.K w):=by subst hw;exact Fx hc
def fV(hw:X.w=w)(hc:X.calm=true)(hu:X.A.units+64<cLine):d7 X (.builtin "sorted") (wQ w):=by subst hw;exact jU hc hu
def sI{X:Cx}{K:W.Frag}(hK:X.K=K):d7 X (.type "list") (λxs H Q=>∃ p ys,xs=[.ref p]/\(SqL K H p ys\/SqT K H p ys)/\∀ l,H l=none->Q (.ref l) (upd H l (.lst ys))):=by subst hK;exact cO
def MgK(K:W.Frag)(mg:Str->Option Value):Prop:=∀(nm:Str)(v:Value),W.nsIn K mainGlobals nm=some (some v)->mg nm=some v
def mgk{K:W.Frag}{mg:Str->Option Value}{h:Heap}(X:K.In h)(G:h.Ns mainGlobals mg):MgK K mg:=λ_ _ e=>W.mg_of X G e
end L2
namespace SX
open PySem PySem.Spec PyProof.Rows
def qd{E:Value->Shared->Prop}{val:Nat->Int}{Q:Value->Shared->Prop}
  (hd:A.handled=none)(tl:s.heap.IsTuple l items)(hv:∀(i:Nat)(v:Value),items[i]?=some v->∃ t,v=Value.int (val i) t)(room:items.size+1<=1002)
  (q:∀(g:Heap)(tk:Nat),ST.Ld w g s.heap.objs.size (Bb val items.size)->(∀ b o,b<s.heap.objs.size->s.heap.get? b=some o->g.get? b=some o)->Q (.ref s.heap.objs.size) { s with heap:=g,toks:=tk }) :
  wpAny (model prog w) A (call (.type "set") [.ref l]) Q E s :=
 jT hd (.inl tl) hv room q
end SX
namespace L2
open PySem PySem.W PyProof.Rows
def JH(K:W.Frag)(w:World):List V->Hp->VK->Prop:=λxs H Q=>∃(p:Addr)(ns:List Int),xs=[.ref p]/\SqT K H p (ns.map V.int)/\ns.length<=1001/\∀(a:Addr)(ms:List Int),H a=none->ms.Nodup->(∀ k,k∈ms↔k∈ns)->ms.length<=ns.length->Q (.ref a) (upd H a (.ext (intΦ w a ms)))
def Af(hw:X.w=w)(hc:X.calm=true):d7 X (.type "set") (JH X.K w):=by
 subst hw;intro l s σ H xs D Q I r h;obtain⟨p,ns,rfl,B,hz,q⟩:=h;obtain⟨u,rfl,x⟩:=vals1 r;cases x;obtain⟨a,m,pl,t⟩:=I.tuple B;have j:=m.length;rw[XF] at j;have hsz:a.toArray.size=ns.length:=by simp;lia
 refine SX.qd (val:=λi=>ns.getD i 0) (I.ok.hd hc) (show s.heap.IsTuple _ a.toArray from pl) (λi v A=>Gf m (by simpa using A)) (by rw[hsz];lia) λg tk c kp=>?_
 rw[hsz] at c;obtain⟨f,d⟩:=rU (ns:=ns) ns.length (ql _);have C:=SX.mL (val:=λi=>ns.getD i 0) (i:=ns.length);generalize SX.Bb (λi=>ns.getD i 0) ns.length=n at c f d C;rw[take_length] at d;refine⟨.ref s.heap.objs.size,_,I.laid (t':=tk) (o:=.ext (intΦ X.w s.heap.objs.size n)) (λb o e=>kp b o (I3 e) e) (ql _) ?_,rfl,q _ n I.fresh f d (by lia)⟩;refine⟨c,?_,λf d y k=>y.keep k⟩;obtain⟨o,_,_,_,_,z,_⟩:=c.ex;exact⟨o,z⟩
def textΦ(w:World)(a:Addr)(ms:List Str):Heap->Prop:=λh=>ST.Mf w h a ms
def NK(K:W.Frag)(w:World):List V->Hp->VK->Prop:=λxs H Q=>∃(p:Addr)(ns:List Str),xs=[.ref p]/\SqT K H p (ns.map V.str)/\ns.Nodup/\ns.length<=900/\∀ a,H a=none->Q (.ref a) (upd H a (.ext (textΦ w a ns)))
def Gs(hw:X.w=w)(hc:X.calm=true):d7 X (.type "set") (NK X.K w):=by
 subst hw;intro C s σ H xs us Q I r h;obtain⟨p,ns,rfl,hp,f,hz,q⟩:=h;obtain⟨u,rfl,T⟩:=vals1 r;cases T;obtain⟨a,A,pl,N⟩:=I.tuple hp;have n:=A.length;rw[XF] at n;have hsz:a.toArray.size=ns.length:=by simp;lia
 refine SX.pK (SS:=λi h=>ST.Mf X.w h s.heap.objs.size ((ns.take i).reverse)) (I.ok.hd hc) (.inl (show s.heap.IsTuple _ a.toArray from pl)) (λi h h' c hs y=>c.keep hs) (λA' i v s' E' Q' hA B P c y L=>?_) (λled h l Y y=>?_) λg tk c kp=>?_
 .rw[hsz] at B;have m:a[i]?=some v:=by simpa using P
  have hn:(ns.map V.str)[i]?=some (.str ns[i]):=by rw[XC,n6 (by lia)];rfl
  obtain⟨u,d,E⟩:=A.get hn;rw[m] at d;cases d;obtain⟨aa,rfl⟩:=E;unfold setAdd;refine Xo (ni (wpAny_pyHash_str ?_));refine ST.add_str (s:={ s' with toks:=s'.toks+1 }) c (by rw[List.length_reverse,length_take];lia) λb g sb hS2=>?_
  refine L b g _ (Nat.le_add_right _ _) sb ?_;have e1:ns[i] ∉ (ns.take i).reverse:=λz=>by
   obtain⟨j,hj,e⟩:=getElem_of_mem (mem_reverse.mp z);rw[length_take] at hj;rw[getElem_take] at e;rw[nodup_iff_pairwise_ne,pairwise_iff_getElem] at f;exact f j i (by lia) (by lia) (by lia) e
  have G:(ns.take (i+1)).reverse=ST.xq ((ns.take i).reverse) ns[i]:=by
   unfold ST.xq;rw[if_neg e1,List.take_succ_eq_append_getElem B,List.reverse_append]
   rfl
  rw[G];exact hS2
 .exact .new l Y
 .rw[hsz,take_length] at c;have hS':ST.Mf X.w g s.heap.objs.size ns:=by
   obtain⟨o,es,ep,t,x,W,S,R,D,M,Z,J,a7,a8,U⟩:=c.ex;exact⟨o,es,ep,t,x,W,S,R,D,M,Z,J,a7,a8.trans (List.reverse_perm _),U⟩
  refine⟨.ref s.heap.objs.size,_,I.laid (t':=tk) (o:=.ext (textΦ X.w s.heap.objs.size ns)) (λb o e=>kp b o (I3 e) e) (ql _) ?_,rfl,q _ I.fresh⟩;refine⟨hS',?_,λh1 h2 F k=>F.keep k⟩;obtain⟨o,_,_,_,_,O,_⟩:=hS'.ex;exact⟨o,O⟩
def G7{E:Value->Shared->Prop}{Q:List Value->Shared->Prop}(hh:A.handled=none)(hS:ST.Mf w s.heap S ns)
  (h:∀(g:Heap)(tk:Nat) i (a:List (Str × Tok)),(a.map (·.1)).Perm ns->(∀ b u,s.heap.get? b=some u->g.get? b=some u)->Q (a.map λp=>.str p.1 p.2) { s with heap:=g,toks:=tk,drawn:=i }):wpAny (model prog w) A (collect (.ref S)) Q E s:=by
 obtain⟨o,es,ep,t,a,x,l,hd,c,C,_,e,B,n,m⟩:=hS.ex;have r:t.fits es.size=true:=by
  unfold SetTable.fits SetTable.fill;rw[c.d,c.sz];have:=c.room;simp;exact this
 refine SI.nD hh x l.1 hd r c.sz c.up (λz=>e.resolve_left λy=>absurd (y.symm.trans z) (by decide)) (by have:=c.room;rw[sizeLine_eq];lia) λg tk i v k q=>?_
 have j:v.Perm (a.map λp=>Value.str p.1 p.2):=by
  refine k.trans ?_;rw[m,map_map];exact List.Perm.refl _
 obtain⟨f,k1,k2⟩:=ST.dg j.symm rfl;rw[k2];exact h g tk i f ((k1.map (·.1)).trans n) q
def BK(ns:List Str):Hom (ns.map D.str):=by
 refine⟨λd hd e he=>?_,.inr (.inl λd hd=>?_)⟩
 .obtain⟨a,_,rfl⟩:=mem_map.mp hd;obtain⟨b,_,rfl⟩:=mem_map.mp he;exact trivial
 .obtain⟨a,_,rfl⟩:=mem_map.mp hd;exact⟨_,rfl⟩
theorem J5:∀ a:List (Str × Tok),Vals ((a.map (·.1)).map V.str) (a.map λp=>Value.str p.1 p.2)
 | []=>.nil
 | p::r=>.cons ⟨_,rfl⟩ (J5 r)
theorem uV:∀ {p:List Str}{a:List V},bW H a (p.map D.str)->a=p.map V.str
 | [],[],_=>rfl
 | i::p,v::a,h=>by
  obtain⟨c,b⟩:=h;rw[show v=V.str i from c,uV b]
  rfl
 | [],_::_,h=>h.elim
 | _::_,[],h=>h.elim
def Dw(w:World):List V->Hp->VK->Prop:=λxs H Q=>∃(p:Addr)(ms:List Str),xs=[.ref p]/\H p=some (.ext (textΦ w p ms))/\ms.length<64 /\
 ∀(l:Addr)(ns:List Str),H l=none->ns.Perm ms->UpD (ns.map D.str)->Q (.ref l) (upd H l (.lst (ns.map V.str)))
def rz(hw:X.w=w)(hc:X.calm=true)(hu:X.A.units+64<cLine):d7 X (.builtin "sorted") (Dw w):=by
 subst hw;intro W s σ H xs us Q I r h;obtain⟨p,N,rfl,hp,hz,q⟩:=h;obtain⟨u,rfl,rx⟩:=vals1 r;cases rx;have hS:ST.Mf X.w s.heap p N:=(I.hok _ _ hp).1;refine SO.oh (O:=Gv) (λy g tk T=>∃ c:List (Str × Tok),(c.map (·.1)).Perm N/\y=c.map (λp=>Value.str p.1 p.2)/\∀ b o,s.heap.get? b=some o->g.get? b=some o)
  (λQ' q'=>G7 (by first | exact I.ok.hd hc | simp[I.ok.hd hc]) hS λg tk T c B kp=>q' _ _ _ T ⟨c,B,rfl,kp⟩) ?_
 rintro y g tk T ⟨c,B,rfl,kp⟩;have I5:Inv X W σ H { s with heap:=g,toks:=tk,drawn:=T }:=(I.kept (t':=tk) kp).draw T;have hn:c.length=N.length:=by
  have:=B.length_eq;rw[XF] at this;exact this
 have hD':bW H ((c.map (·.1)).map V.str) ((c.map (·.1)).map D.str):=by
  generalize c.map (·.1)=l
  induction l with
  | nil=>exact trivial
  | cons a l ih=>exact⟨rfl,ih⟩
 have Y:=J5 c;have L:((c.map (·.1)).map D.str).Perm (N.map D.str):=B.map _;obtain⟨κ,P,J⟩:=Rk hu I5 hD' Y (BK _) (by rw[XF,XF];lia) (λd hd=>by
  obtain⟨a,_,rfl⟩:=mem_map.mp hd;exact⟨(λz=>nomatch z),λ_ z=>nomatch z⟩)
 have f:(c.map λp=>Value.str p.1 p.2).length=c.length:=XF _;have C:((c.map (·.1)).map V.str).length=c.length:=by rw[XF,XF]
 have t:((c.map (·.1)).map D.str).length=c.length:=by rw[XF,XF]
 generalize ((c.map (·.1)).map D.str)=F at hD' L J t;generalize (c.map λp=>Value.str p.1 p.2)=y at Y P J f ⊢;generalize ((c.map (·.1)).map V.str)=vs at hD' Y C;refine⟨λi=>F.getD i .non,κ,by rw[f];lia,λh2 h' v E Q q=>P h2 h' v E Q q,λh' v=>J h' v,λg' x v K hs n=>?_⟩;obtain⟨m,n⟩:=n;have S:∀ i∈x.toList,i<c.length:=λi G=>by rw[← f];exact mem_range.mp (K.mem_iff.mp G)
 have ac:x.toList.length=c.length:=by rw[← f];simpa using K.length_eq
 have hU:=kh Y x.toList λi G=>by rw[C];exact S i G
 have U:=jG hD' x.toList λi G=>by rw[t];exact S i G
 have hPP:(x.toList.map λi=>F.getD i D.non).Perm (N.map D.str):=by
  refine List.Perm.trans ?_ L;have e:(List.range y.length).map (λi=>F.getD i .non)=F:=by
   apply ext_getElem
   .rw[XF,length_range,f,t]
   .intro i h1 h2;simp[qu,h2]
  have:=K.map λi=>F.getD i D.non
  rw[e] at this;exact this
 have M:UpD (x.toList.map λi=>F.getD i D.non):=by
  unfold UpD;rw[pairwise_iff_getElem];intro i j G hj ab;have h:=hs i j (Nat.le_of_lt ab) (by rw[f,← ac];simpa using hj);have e:∀ k (Z:k<x.toList.length),SO.KN (O:=Gv) (λi=>F.getD i .non) x k=(x.toList.map λi=>F.getD i D.non)[k]'(by rw[XF];exact Z):=by
   intro k Z;have af:k<x.size:=by simpa using Z
   unfold SO.KN;rw[getElem_map];congr 1;simp[Array.getD,af]
  rw[e i (by simpa using G),e j (by simpa using hj)] at h;exact h
 obtain⟨ns,R,aa⟩:=ST.dg hPP.symm rfl;rw[aa] at U M;have ag:=uV U;rw[ag] at hU;refine⟨.ref _,_,I5.laid (t':=tk) (o:=.lst (ns.map V.str)) v (ql _) ⟨?_,_,m,hU,n⟩,rfl,q _ ns (I5.hok.fresh (ql _)) R M⟩;rw[XF,R.length_eq,sizeLine_eq];lia
def Gp{C:D->Prop}(hC:KCls C n)(hw:X.w=w)(hc:X.calm=true)(hu:X.A.units+64<cLine):d7 X (.type "set") (λxs H Q=>JH X.K w xs H Q\/NK X.K w xs H Q\/yq X.K w C xs H Q):=by
 intro a s σ H xs b Q I r h;rcases h with h | h | h
 .exact Af hw hc a s σ H xs b Q I r h
 .exact Gs hw hc a s σ H xs b Q I r h
 .exact um hC hw hc hu a s σ H xs b Q I r h
def u5{C:D->Prop}(hC:KCls C n)(hw:X.w=w)(hc:X.calm=true)(hu:X.A.units+64<cLine):d7 X (.builtin "sorted") (λxs H Q=>wQ w xs H Q\/Dw w xs H Q\/CZ w C xs H Q):=by
 intro a s σ H xs b Q I r h;rcases h with h | h | h
 .subst hw;exact jU hc hu a s σ H xs b Q I r h
 .exact rz hw hc hu a s σ H xs b Q I r h
 .exact rH hC hw hc hu a s σ H xs b Q I r h
end L2
namespace L2
open PySem PySem.Spec PyProof.Rows
def Tt:R2:=λx y H Q=>∃(l b:Addr)(xs:List V),x=.ref l/\y=.ref b/\H l=some (.lst xs)/\H b=some (.lst [])/\Q (.bl xs.isEmpty) H
def JW(hu:X.A.units<cLine):OpR X (compareOp .Eq) Tt:=by
 intro d s σ H x y v u Q I p o h;obtain⟨l,b,xs,rfl,rfl,m,r,q⟩:=h;cases p;cases o;obtain⟨k,n,f,_⟩:=I.list (SqL.of (K:=X.K) m);obtain⟨a,g,c,_⟩:=I.list (SqL.of (K:=X.K) r);cases g;cases n with
 | nil=>exact SeqAt.eq_listAt (e:=λ_=>true) f.isList c.isList rfl hu (λj i _=>absurd i (Nat.not_lt_zero j)) ⟨.bl true,H,I,rfl,q⟩
 | cons _ _=>exact SeqAt.eq_list_lengthsAt f.isList c.isList (by simp) hu ⟨.bl false,H,I,rfl,q⟩
def notStar:Expr->Bool
 | .Starred ..=>false
 | _=>true
def FW(h:notStar e=true):starEach (e::es) env=(false,eval e env)::starEach es env:=by
 cases e <;> first | rfl | cases h
def Td(ha:PE X e te)(hr:PA X es t)(h:notStar e=true:=by rfl):PA X (e::es) (Bt te t):=aj ha hr (FW h)
structure QSs(X:Cx)(st:List Stmt)(t:TS):Prop where
 h:PSs X st t
structure QS(X:Cx)(st:Stmt)(t:TS):Prop where
 h:PS X st t
structure QE(X:Cx)(e:Expr)(t:TE):Prop where
 h:PE X e t
structure QA(X:Cx)(es:List Expr)(t:TA):Prop where
 h:PA X es t
def gH{X:Cx}{st:Stmt}{rest:List Stmt}{t u:TS}(h1:QS X st t)(h2:QSs X rest u):QSs X (st::rest) (QF t u):=⟨au h1.h h2.h⟩
def JC(hN:X.N.Nodup)(hi:X.N[i]?=some x)(hx:Loc X.env.scope x)(he:QE X e te)(hs:swapsWith e (some (.Name x pos')) pos.line X.env=pure false:=by rfl)
  (hf:X.fn x=true\/X.env.scope.names.lookup x=some .local:=by first | exact .inl rfl | exact .inr rfl):QS X (.Assign [.Name x pos'] e pos) (Oc te (tY i)):=⟨aL hN hi hx he.h hs hf⟩
def Nq(h:QA X es t):QE X (.List es pos) (R6 t):=⟨bI h.h⟩
def QC:QA X [] RL:=⟨aq⟩
def Ez(ha:QE X e te)(hr:QA X es t)(h:notStar e=true:=by rfl):QA X (e::es) (Bt te t):=⟨Td ha.h hr.h h⟩
structure QPs(X:Cx)(pos:Pos)(keys:List (Option Expr))(values:List Expr)(trs:List (TE × TE)):Prop where
 h:PPs X pos keys values trs
def Kw:QPs X pos [] [] []:=⟨vN⟩
def yc(hk:QE X k tk)(hv:QE X v tv)(hr:QPs X pos ks vs trs):QPs X pos (some k::ks) (v::vs) ((tk,tv)::trs):=⟨eV hk.h hv.h hr.h⟩
def Mp(h:QPs X pos keys values trs)(hall:keys.all (·.isSome)=true)(hl:keys.length=values.length)(h0:keys≠[])(h15:keys.length<=15):QE X (.Dict keys values pos) (Ou trs):=⟨xu h.h hall hl h0 h15⟩
def JM:QE X (.Constant (.str x) k pos) (tC (.str x)):=⟨aF⟩
def TrM(T:Addr)(h:Heap):Prop:=∃ a b v,h.get? T=some a/\a.data=.fields b/\b[3]?=some v
def TrM.at_(x:TrM T h)(k:∀ o,h.get? T=some o->h'.get? T=some o):TrM T h':=let ⟨oT,ts,v,a,b⟩:=x;⟨oT,ts,v,k _ a,b⟩
def qW.at_(x:qW T h)(k:∀ o,h.get? T=some o->h'.get? T=some o):qW T h':=let ⟨oT,ts,a,b⟩:=x;⟨oT,ts,k _ a,b⟩
def ExcAt.at_(x:ExcAt cls T e h)(k:∀ o,h.get? e=some o->h'.get? e=some o):ExcAt cls T e h':=let ⟨oe,vs,a0,a,b⟩:=x;⟨oe,vs,a0,k _ a,b⟩
structure Jg(fs:List Addr)(e:Addr)(cls:Value)(T T':Addr)(h h':Heap):Prop where
 keep:∀ b o,h.get? b=some o->b ∉ fs->b≠e->b≠T->h'.get? b=some o
 slot:∀ b o,h.get? b=some o->b∈fs->∃ sl,h'.get? b=some { o with slots:=sl }
 old:qW T h'
 new:h.get? T'=none
 ne:T'≠e
 exc:ExcAt cls T' e h'
 tr:TrM T' h'
section
variable {M:Model}{A:Around}{E:Value->Shared->Prop}{s:Shared}{base:Heap}{env:Env}{outer:List Env}{L e:Addr}
def xP{T:Addr}{h:Heap}{oT:Obj}{ts:Array Value}{v w:Value}(hT:h.get? T=some oT)(hd:oT.data=.fields ts)(h3:ts[3]?=some w) :
  (∀ b,b≠T->(h.update T (Obj.mapFields (·.setIfInBounds 3 v))).get? b=h.get? b)/\∃ c,(h.update T (Obj.mapFields (·.setIfInBounds 3 v))).get? T=some c/\∃ a,c.data=.fields a/\a[3]?=some v :=
 ⟨λb d=>Heap.get?_update_other _ _ (Ne.symm d),_,Heap.get?_update_self _ hT (Obj.isFreed_of_fields (Obj.data_mapFields hd _)),_,Obj.data_mapFields hd _,by simp[(Array.getElem?_eq_some_iff.mp h3).1]⟩
def nJ{T:Addr}{h h1:Heap}{ts:Array Value}{oT:Obj}{l:List Env}(hl:h.FunFrames base l)(hT:h.get? T=some oT)(hd:oT.data=.fields ts)(k:∀ b,b≠T->h1.get? b=h.get? b):h1.FunFrames base l :=
 hl.of_keeps λb o c a=>⟨o,(k b λq=>by rw[q,hT] at c;cases c;exact a ts hd).trans c,rfl⟩
def Iu{cls:Value}{T:Addr}{Q:Unit->Shared->Prop}(hfr:A.frames=some (env::outer))(hl:s.heap.FunFrames base (env::outer))(hf:env.frame=some L)
  (hx:ExcAt cls T e s.heap)(l:qW T s.heap)(hTe:T≠e)(h:∀ h' R,Jg (frs (env::outer)) e cls T R s.heap h'->Q () { s with heap:=h' }):wpAny M A (noteFrame (.ref e) env) Q E s:=by
 obtain⟨U,W,P,he,n,hd,I,B⟩:=hx;obtain⟨S,V,l,hdT,x⟩:=l;unfold noteFrame;simp only[hf];refine ni (wpAny_field he hd B ?_);rw[if_pos (show(Value.ref T != Value.none)=true from by simp)];refine ni (wpAny_field l hdT x ?_);rw[if_neg (show ¬ ((Value.none == rawInt L)=true) from by simp[rawInt])];refine ni (wpAny_setField l hdT (Array.getElem?_eq_some_iff.mp x).1 ?_);obtain⟨m,C,w,F,D,G⟩:=xP l hdT x;have k:=nJ hl l hdT m;generalize s.heap.update T (Obj.mapFields (·.setIfInBounds 3 Value.none))=H at m w k;have a:∀ {b:Addr}{o:Obj}{xs:Array Value},H.get? b=some o->o.data=.fields xs->b ∉ frs (env::outer):=fun {b o xs} q d z=>by
  obtain⟨_,J,g,v⟩:=k.mem z
  grind
 have t:=(m e (Ne.symm hTe)).trans he;refine ni (wpAny_frameOf_fun hfr k hf λj u=>?_);refine ni (wpAny_entryPlaceOf λpl y=>?_);unfold EntryCells.newEntry newFields;refine ni (XQ ?_ (y.sizeOk5 _ _ _ _ _));have f:=(u.2.1 e (a t hd)).trans t;have p:=(u.2.1 T (a w D)).trans w;have hsz:=(Array.getElem?_eq_some_iff.mp B).1;generalize hN:({ cls:=Value.type "traceback",dict:=none,data:=.fields ([Value.ref T,.ref L,.none,rawInt L,.none]++(if pl.isEmpty then List.replicate 6 Value.none else pl)).toArray }:Obj)=oN;have K:oN.data=.fields ([Value.ref T,.ref L,.none,rawInt L,.none]++(if pl.isEmpty then List.replicate 6 Value.none else pl)).toArray:=by rw[← hN]
 have neN:=Nat.ne_of_gt (I3 f);have neT:=Nat.ne_of_gt (I3 p);refine wpAny_setField (n7 _ f) hd hsz (h _ j.objs.size ?_);have i:∀ b o,b≠e->j.get? b=some o->((j.push oN).update e (Obj.mapFields (·.setIfInBounds 1 (Value.ref j.objs.size)))).get? b=some o:=λb o r q=>by
  rw[Heap.get?_update_other _ _ (Ne.symm r)];exact n7 _ q
 have N:(j.push oN).get? j.objs.size=some oN:=Q0 _ (by rw[← hN];rfl);refine⟨λb o q r c hbT=>i b o c ((u.2.1 b r).trans ((m b hbT).trans q)),λb o q r=>?_,⟨C,F,i T C hTe p,D,G⟩,?_,neN,?_,?_⟩
 .obtain⟨_,J,g,v⟩:=hl.mem r;rw[q] at g;cases g;have hbT:b≠T:=λz=>by grind
  have c:b≠e:=λz=>by grind
  obtain⟨sl,z⟩:=u.2.2 b o ((m b hbT).trans q);exact⟨sl,i b _ c z⟩
 .cases q:s.heap.get? j.objs.size with
  | none=>rfl
  | some o =>
   have O:=(m _ neT).trans q;have:=I3 O;rw[← u.1] at this
   grind
 .exact⟨_,_,P,Heap.get?_update_self _ (n7 _ f) (Obj.isFreed_of_fields (Obj.data_mapFields hd _)),(Obj.cls_mapFields _ _).trans n,Obj.data_mapFields hd _,by rw[Array.getElem?_setIfInBounds_ne (by decide)];exact I,by simp[hsz]⟩
 .refine⟨oN,_,rawInt L,?_,K,by simp⟩;rw[Heap.get?_update_other _ _ (Ne.symm neN)];exact N
def Ax{cls:Value}{T:Addr}{Q:Unit->Shared->Prop}(hfr:A.frames=some (env::outer))(hl:s.heap.FunFrames base (env::outer))(hf:env.frame=some L)
  (hx:ExcAt cls T e s.heap)(c:TrM T s.heap)(hTe:T≠e)
  (h:∀ a h',(∀ b,b≠T->a.get? b=s.heap.get? b)->qW T a->(h'=a\/∃ k,Left (frs (env::outer)) e cls k a h')->Q () { s with heap:=h' }):wpAny M A (leaving env (.ref e)) Q E s:=by
 obtain⟨u,z,B,he,d,hd,r,a⟩:=hx;obtain⟨t,w,v,c,hdT,g⟩:=c;subst d;obtain⟨i,m,p,q,n,l⟩:=xP c hdT g;have f:=nJ hl c hdT i;unfold leaving noteFrame;simp only[hf];refine ni (ni (wpAny_field he hd a ?_));rw[if_pos (show(Value.ref T != Value.none)=true from by simp)];refine ni (wpAny_field c hdT g ?_);by_cases hv:(v == rawInt L)=true
 .rw[if_pos hv];refine nF ?_;refine wpAny_setFlight_none he hd a c hdT (Array.getElem?_eq_some_iff.mp g).1 ?_;exact h _ _ i ⟨m,q,p,n,l⟩ (.inl rfl)
 .rw[if_neg hv];refine ni (wpAny_setField c hdT (Array.getElem?_eq_some_iff.mp g).1 ?_);refine wpAny_newEntryW hfr (iV f λb j=>W.hideAll_none _ (Xm _ j)) hf ((i e (Ne.symm hTe)).trans he)
   (λb o j=>W.of_hideAll _ j) (W.hideAll_none _ Xl) hd (Array.getElem?_eq_some_iff.mp a).1 r λh' x=>?_
  obtain⟨k,y⟩:=wF f x;exact h _ h' i ⟨m,q,p,n,l⟩ (.inr ⟨k,y⟩)
end
def Jg.left(x:Jg fs e cls T T1 h h2)(hTf:T ∉ fs)(hTe:T≠e)(i:∃ o,h.get? T=some o)(r:T1 ∉ fs)(k1:∀ b,b≠T1->h1.get? b=h2.get? b)(k2:qW T1 h1)(y:h'=h1\/∃ f,Left fs e cls f h1 h') :
  ∃ j w,(∀ b,b≠T->j.get? b=h.get? b)/\qW T j/\Left fs e cls w j h':=by
 obtain⟨d,u,B,l,s⟩:=x.old;obtain⟨C,i⟩:=i;have k:T≠T1:=λz=>by have:=x.new;rw[← z,i] at this;cases this
 have v:(h.update T (λ_=>d)).get? T=some d:=Heap.get?_update_self _ i (Obj.isFreed_of_fields l);have g:∀ b,b≠T->(h.update T (λ_=>d)).get? b=h.get? b:=λb a=>Heap.get?_update_other _ _ (Ne.symm a)
 have t:∀ b o,h.get? b=some o->b≠T1:=λb o q z=>by have:=x.new;rw[← z,q] at this;cases this
 have n:∀ b o,(h.update T (λ_=>d)).get? b=some o->b ∉ fs->b≠e->h1.get? b=some o:=λb o q a c=>by
  by_cases hbT:b=T
  .grind
  .rw[g b hbT] at q;rw[k1 b (t b o q)];exact x.keep b o q a c hbT
 have ks:∀ b o,(h.update T (λ_=>d)).get? b=some o->b∈fs->∃ sl,h1.get? b=some { o with slots:=sl }:=λb o q a=>by
  have hbT:b≠T:=λz=>hTf (z ▸ a)
  rw[g b hbT] at q;rw[k1 b (t b o q)];exact x.slot b o q a
 rcases y with rfl | ⟨f,y⟩
 .refine⟨_,T1,g,⟨d,u,v,l,s⟩,⟨n,ks,?_,x.ne,x.exc.at_ λo q=>by rw[k1 e (Ne.symm x.ne)];exact q,k2⟩⟩;rw[g T1 (Ne.symm k)];exact x.new
 .refine⟨_,f,g,⟨d,u,v,l,s⟩,⟨λb o q a c=>y.keep b o (n b o q a c) a c,λb o q a=>?_,?_,y.ne,y.exc,y.tr⟩⟩
  .obtain⟨sl,z⟩:=ks b o q a;obtain⟨m,A⟩:=y.slot b _ z a;exact⟨m,A⟩
  .cases q:(h.update T (λ_=>d)).get? f with
   | none=>rfl
   | some o =>
    exfalso;have p:=y.new;by_cases a:f∈fs
    .grind
    .rw[n f o q a y.ne] at p;cases p
def outV(E:XK):XK:=λcls o a=>∀ e,o=some e->∀(T':Addr)(H2:Hp),(∀ b u,a b=some u->b≠e->H2 b=some u)->H2 e=some (mZ cls T' e)->E cls o H2
def cP.outV(h:cP C H E):cP C H (outV E):=λe T f s he i g z d c k a=>by
 cases z;exact h e d c (λb u q=>k b u (s b u q) λz=>by subst z;rw[he] at q;cases q) he a
def Kg(X:Cx)(E:XK):Prop:=∀(pins:List (Addr × Obj))(σ:St)(H:Hp)(s:Shared)(ea T:Addr)(cls:Value)(T1:Addr)(h2:Heap),Inv X pins σ H s->T≠ea->H ea=some (mZ cls T ea)->H T=some (TrO T)->Jg (frs X.stack) ea cls T T1 s.heap h2 ->
 outV E cls (some ea) H->X.xe (.ref ea) { s with heap:=h2 }
def Inv.notFr(I:Inv X pins σ H s)(h:H b=some u):b ∉ frs X.stack:=λz=>by
 rw[I.stkFree b z] at h;cases h
def JK{P:Program}{w:World}{K:W.Frag}{mg:Str->Option Value}{base:Heap}{N:List Str}{qual:Str}{scope:Scope}{f:Addr}{cd:Value}{A:Around}{outer:List Env}{s0:Shared}{H0:Hp}{E:XK} :
  Kg (zH (CX1 P w) P w K mg base N qual scope f cd A outer s0 H0 E) E:=by
 intro r σ H s g T cls F U J hTe he j c q;have I:=(J.hok g _ he).1;have C:=(J.hok T _ j).1;obtain⟨l,B,n,D,S⟩:=C;obtain⟨Q,M,V,O,_,v,_⟩:=I;have h:=J.stack.of_keeps λb o a e=>by
  by_cases hz:b∈frs (envOfC qual scope s0.heap.objs.size f cd::outer)
  .obtain⟨sl,z⟩:=c.slot b o a hz;exact⟨_,z,rfl⟩
  .exact⟨o,c.keep b o a hz (λz=>by subst z;rw[O] at a;cases a;exact e M v) (λz=>by subst z;rw[n] at a;cases a;exact e B D),rfl⟩
 have k:F ∉ frs (envOfC qual scope s0.heap.objs.size f cd::outer):=λz=>by
  obtain⟨_,o,t,_⟩:=J.stack.mem z;rw[c.new] at t;cases t
 refine Ax J.ok.frames h rfl c.exc c.tr c.ne λR h' k1 k2 y=>?_
 obtain⟨G,d,m,p,x⟩:=c.left (J.notFr j) hTe ⟨l,n⟩ k k1 k2 y;have kn:∀ b,G.get? b=none->s.heap.get? b=none:=λb q=>by
  by_cases a:b=T
  .subst a;obtain⟨l,_,z,_⟩:=p;rw[z] at q;cases q
  .rw[← m b a];exact q
 obtain⟨u,i⟩:=x.un J.hok J.stkFree (λb o q a=>by rw[m b a];exact q) kn (λo _=>⟨T,he⟩) (.inr ⟨j,p⟩);have L:=J.hok.new (kn d x.new);exact⟨g,d,cls,_,rfl,x.ne,J.os,J.bare,J.out rfl u,i,ak,QM x.ne,q g rfl d _ (λb u q a=>by
  show upd (upd H d (TrO d)) g (mZ cls d g) b=some u;rw[aG a,aG (aD q L)];exact q) ak⟩
def Mw(h g:Heap)(h0:h.get? C=some o0):∃ k:Heap,(∀ b,b≠C->k.get? b=h.get? b)/\k.get? C=g.get? C:=by
 cases q:g.get? C with
 | some o=>exact⟨h.update C λ_=>o,λb c=>Heap.get?_update_other _ _ (Ne.symm c),Heap.get?_update_self _ h0 (Heap.get?_some_iff.mp q).2⟩
 | none =>
  refine⟨h.update C λo=>{ o with data:=.freed },λb c=>Heap.get?_update_other _ _ (Ne.symm c),?_⟩;cases z:(h.update C λo=>{ o with data:=.freed }).get? C with
  | none=>rfl
  | some o =>
   exfalso;obtain⟨a,e⟩:=Heap.get?_some_iff.mp z;obtain⟨d,_⟩:=Heap.get?_some_iff.mp h0;have:o={ o0 with data:=.freed }:=by
    cases h;simp only[Heap.update,Array.getElem?_modify,if_true] at a;simp only at d;rw[d] at a;exact(Xn a).symm
   subst this;cases e
def GX{X:Cx}{elt tg iter:Expr}{ifs:List Expr}{scope:Scope}{pos:Pos}{wi:TI}{g:TG}{tc:TT}{te:TE}{E0:XK}(hF:Kg X E0)(hst:X.stack=X.env::X.outer)(hfl:X.env.frame=some X.env.locals)(N:List Str)(lift:St->St)(hc:X.calm=true)(hi:PI X tg iter wi)
  (hkind:scope.kind=.function)(hcell:∀ y∈scope.names,y.2≠.cell)(hfree:∀ y∈scope.names,y.2=.free->X.env.kindOf y.1=some .cell\/X.env.kindOf y.1=some .free)
  (hnames:∀ y∈scope.names,y.2=.local->scope.names.lookup y.1=some .local)
  (hlen:∀ σ:St,σ.length=X.N.length->(lift σ).length=N.length)
  (hσ:∀(σ:St)(i:Nat)(x:Str)(v:V),σ.length=X.N.length->N[i]?=some x->(lift σ)[i]?=some (some v)->scope.names.lookup x=some .free/\∃ j:Nat,X.N[j]?=some x/\σ[j]?=some (some v))
  (hg:∀ cl C s H ex pn E,PG (bM X scope N cl C s H ex pn E) tg g)(ht:∀ cl C s H ex pn E,Jw (bM X scope N cl C s H ex pn E) ifs tc)(he:∀ cl C s H ex pn E,gB (CX1 X.prog X.w) (bM X scope N cl C s H ex pn E) (λ_=>outV E0)->PE (bM X scope N cl C s H ex pn E) elt te)
  (hs:∀ x,foldedSetIterable iter X.env x=pure x:=by intro _;rfl) :
  PE X (.ListComp elt [⟨tg,iter,ifs,0⟩] scope pos) (Ac wi g tc te lift):=by
 intro k s σ H Q I h;rw[eval_ListComp];obtain⟨cl,ae,a6,S⟩:=lB λy hy hf=>I.ok.has y.1 (hfree y hy hf)
 refine wpAny_comprehension_free rfl hs ae hkind hnames (thn (hi k s σ H _ I h) λv s1 h1=>thn h1 λdv G h2=>?_);obtain⟨it,K,tn,J,H2,e,I2,T,ac,f2,q⟩:=h2;subst e;refine XQ (wpAny_newFunctionEnv hcell (by intro y hy;simp at hy) (λh₁ ay a5=>?_) hkind);have B:=I2.lnew (t':=G.toks) .nil (Nat.zero_le _);have fr:=I2.fresh;have hold:=λb o e=>a5.extBut b o (J6 (I3 e)) (n7 _ e)
 have t:∀ b∈K,Aq X k (upd H2 G.heap.objs.size (.lst [])) b:=λb a=>by
  obtain⟨o,eo,_⟩:=T.obj 0 _ ac b a;exact⟨by rw[aG (J6 (I3 eo))];exact(f2 b a).1,(f2 b a).2⟩
 have fo:∀ b∈K,∃ o,(G.heap.push { cls:=.type "list",data:=.seq ([]:List Value).toArray }).get? b=some o:=λb a=>by
  obtain⟨o,eo,_⟩:=T.obj 0 _ ac b a;exact⟨o,n7 _ eo⟩
 generalize hP:G.heap.push { cls:=.type "list",data:=.seq ([]:List Value).toArray }=P at *;obtain⟨W,⟨m0,w0⟩,aw⟩:=q G.heap.objs.size fr;generalize hL:G.heap.objs.size=L at *
 let R:Result->Shared->Prop:=compPost (model X.prog X.w) X.A X.xe none (EP X k σ Q) (.ref L) P.objs.size
 let Y:Cx:=bM X scope N cl P.objs.size { G with heap:=P } (upd H2 L (.lst [])) K (X.pn++k) (notedBy (model X.prog X.w) X.A (compEnvC scope cl P.objs.size X.env) λe s'=>R (.error e) s')
 have IY:Inv Y [] (lift σ) (upd H2 L (.lst [])) { G with heap:=h₁,toks:=G.toks+([]:List (Str × Value)).length } :=
  tM B hkind hcell hfree a6 S t fo (hlen σ I.len) (λi x v=>hσ σ i x v I.len) ay hold
 have aE:=T.keep _ _ _ ac λb a o e=>hold b o (by rw[← hP];exact n7 _ e)
 have fC:∀ b∈K,b≠P.objs.size/\(b∈K):=λb a=>by
  obtain⟨o,eo⟩:=fo b a;exact⟨J6 (I3 eo),a⟩
 have aa:∀ {l:Hp},(∀ b∈K,l b=none)->∀ b∈K,Aq Y [] l b:=fun {l} hn b a=>by
  refine⟨hn b a,(fC b a).1,λz=>?_,.inl a,λx c ex=>(t b a).2.2.2.2.1 x c (S _ _ ex),λp hp=>?_⟩
  .rcases mem_cons.mp (B.stkSub b z) with y | y
   .exact(t b a).2.1 y
   .exact(t b a).2.2.1 y
  .have aI:=hp;rw[append_nil] at aI;exact(t b a).2.2.2.2.2 p aI
 have ps:gB (CX1 X.prog X.w) Y (λ_=>outV E0):=by
  intro more σ' H1 s1 e s' I1 hx;obtain⟨Z,T,cls,l,rfl,hTe,os,bare,un,ok,av,hT,qx⟩:=hx;have J:=I1.call' os un ok bare λb z=>absurd z (by simp)
  have a1:=(J.hok Z _ av).1;have a2:=(J.hok T _ hT).1;have IX:=B.call' J.os J.base J.hok J.bare λb a=>⟨(t b a).2.2.2.1,(t b a).2.1,(t b a).2.2.2.2.1,(t b a).2.2.2.2.2⟩
  obtain⟨mC,bX,_⟩:=id J.loc;obtain⟨oC,bi,bj,gC,dC,rC⟩:=id bX;have frX:=IX.ok.frames;have flX:=IX.stack;have cF:P.objs.size ∉ frs (X.env::X.outer):=λz=>by
   rw[← hst] at z;obtain⟨_,o,ho,_⟩:=B.stack.mem z;exact absurd (I3 ho) (Nat.lt_irrefl _)
  rw[hst] at frX flX;have cE:P.objs.size≠Z:=λz=>by
   obtain⟨oe,vs,a0,q,_,d,_⟩:=a1;rw[← z] at q;have:=gC.symm.trans q;cases this;rw[dC] at d;cases d
  have cT:P.objs.size≠T:=λz=>by
   obtain⟨oe,vs,q,d,_⟩:=a2;rw[← z] at q;have:=gC.symm.trans q;cases this;rw[dC] at d;cases d
  show wpAny (model X.prog X.w) X.A (noteFrame (.ref Z) X.env) (λ_ bz=>R (.error (.ref Z)) bz) _ s';refine Iu frX flX hfl a1 a2 hTe λhN M F=>?_
  have ad:P.objs.size≠M:=λz=>by have:=F.new;rw[← z] at this;rw[show s'.heap.get? P.objs.size=some oC from gC] at this;cases this
  have gN:=F.keep _ oC gC cF cE cT;refine⟨mC,⟨oC,bi,bj,gN,dC,rC⟩,λh' sb as _=>?_⟩;have hk:∀ b o,b≠P.objs.size->hN.get? b=some o->h'.get? b=some o:=λb o a q=>(sb.2 b a).trans q
  have x1:=F.exc.at_ λo q=>hk Z o (Ne.symm cE) q
  have x2:=F.tr.at_ λo q=>hk M o (Ne.symm ad) q
  have x3:=F.old.at_ λo q=>hk T o (Ne.symm cT) q
  obtain⟨oe,vs,a0,e1,e2,e3,e4,e5⟩:=id x1;obtain⟨oT,ts,v,t1,t2,t3⟩:=x2;obtain⟨m1,oM,m2,us,m3,m4⟩:=xP t1 t2 t3;unfold PySem.passOn;refine ni (wpAny_field e1 e3 e5 ?_);rw[if_neg (show ¬ ((Value.ref M == Value.none)=true) from by simp)];unfold setFlight;refine ni (ni (wpAny_field e1 e3 e5 ?_));rw[if_pos (show(Value.ref M != Value.none)=true from by simp)];refine wpAny_setField t1 t2 (Array.getElem?_eq_some_iff.mp t3).1 (wpAny_throw ?_);generalize h'.update M (Obj.mapFields (·.setIfInBounds 3 (as.frame.elim .none λf=>rawInt f)))=hZ at m1 m2;have ab:∀ b o,s'.heap.get? b=some o->b≠M:=λb o q z=>by have:=F.new;rw[← z,q] at this;cases this
  obtain⟨hC,c1,c2⟩:=Mw s'.heap h' gC;have IC:=IX.turned (t':=s'.toks) (λb o a q=>(c1 b a).trans q) J.free (Nat.ne_of_gt B.lt) (.inr B.sz) (λx c ec z=>by
   obtain⟨v0,qv⟩:=B.cell x c ec;exact absurd qv.lt (by rw[z];exact Nat.lt_irrefl _)) (λp hp z=>by
   have z0:=I3 (B.pin p hp).1;exact absurd z0 (by rw[z];exact Nat.lt_irrefl _))
  refine hF k σ l { s' with heap:=hC } Z T cls M hZ IC hTe av hT ?_ qx;rw[hst];have go:=λb o q q2 a=>(m1 b (ab b o q)).trans (hk b o a q2)
  refine⟨λb o q a b2 hbT=>?_,λb o q a=>?_,?_,?_,F.ne,?_,⟨oM,us,_,m2,m3,m4⟩⟩
  .by_cases hbC:b=P.objs.size
   .subst hbC;have q':=q;rw[m1 _ ad];exact(show hC.get? P.objs.size=h'.get? P.objs.size from c2).symm.trans q'
   .have q':=(c1 b hbC).symm.trans q;exact go b o q' (F.keep b o q' a b2 hbT) hbC
  .have hbC:b≠P.objs.size:=λz=>cF (z ▸ a)
   have q':=(c1 b hbC).symm.trans q;obtain⟨sl,z⟩:=F.slot b o q' a;exact⟨sl,(m1 b (ab b o q')).trans (hk b _ hbC z)⟩
  .exact x3.at_ λo q=>(m1 T (λz=>by obtain⟨b9,_,w,_⟩:=a2;exact ab T b9 w z)).trans q
  .show hC.get? M=none;rw[c1 M (Ne.symm ad)];exact F.new
  .exact x1.at_ λo q=>(m1 Z (Ne.symm F.ne)).trans q
 have U:∀ s4:Shared,s4={ G with heap:=h₁,toks:=G.toks+([]:List (Str × Value)).length } ->
   codeAny (model X.prog X.w) X.A (.compLoop (.ListComp elt [⟨tg,iter,ifs,0⟩] scope pos) 0 (.ref it) (.ref L) (compEnvC scope cl P.objs.size X.env)) R s4:=by
  rintro s4 rfl;refine cV (λn s'=>∃ i σ' l,Inv Y [] σ' l s'/\tn i s'.heap/\(∀ b∈K,l b=none)/\W i n σ' l) ?_ m0 ⟨0,_,_,IY,aE,λb a=>(t b a).1,w0⟩;rintro n s5 ⟨i,σ5,H5,I5,ar,ap,w5⟩;rcases aw i n σ5 H5 w5 with⟨stop,qn⟩ | ⟨go,Nx,bl,step⟩
  .refine thn (T.done Y rfl rfl rfl hc i [] s5 σ5 H5 Y.xe I5 (aa ap) ar stop) λr s6 ⟨hr,I6⟩=>?_
   subst hr;obtain⟨m6,be,_⟩:=id I6.loc;have IX:=B.call' I6.os I6.base I6.hok I6.bare λb a=>⟨(t b a).2.2.2.1,(t b a).2.1,(t b a).2.2.2.2.1,(t b a).2.2.2.2.2⟩
   refine⟨m6,be,λh' sb=>⟨.ref L,H5,IX.turned (λb o a e=>(sb.2 b a).trans e) I6.free (Nat.ne_of_gt B.lt) (.inr B.sz) (λx c ec z=>?_) λp hp z=>?_,rfl,qn⟩⟩
   .obtain⟨v0,qv⟩:=B.cell x c ec;exact absurd qv.lt (by rw[z];exact Nat.lt_irrefl _)
   .have z0:=I3 (B.pin p hp).1;exact absurd z0 (by rw[z];exact Nat.lt_irrefl _)
  .refine thn (T.item Y rfl rfl rfl hc i [] s5 σ5 H5 Y.xe I5 (aa ap) ar go) λr s6 ⟨u,hr,h6⟩=>?_
   subst hr;refine thn h6 λ_ s7 ⟨x,H7,I7,r7,y7,af,b1⟩=>?_
   have b4:=I7.pinned (aa b1) (T.obj _ _ af);refine thn (hg _ _ _ _ _ _ _ _ s7 σ5 H7 x u _ b4 r7 (step x H7 y7)) λ_ s8 ⟨O,H8,I8,q8⟩=>?_
   refine thn (ht _ _ _ _ _ _ _ _ s8 O H8 _ I8 q8) λok s9 ⟨H9,I9,q9⟩=>?_
   have D:∀ {sx:Shared}{Hx:Hp},Inv Y ([]++nW K s7.heap) O Hx sx->Nx O Hx->∃ m,m<n/\∃ i σ' l,Inv Y [] σ' l sx/\tn i sx.heap/\(∀ b∈K,l b=none)/\W i m σ' l:=fun {sx Hx} Ix nx=>by
    obtain⟨m',hm,wx⟩:=bl O Hx nx;refine⟨m',hm,i+1,O,Hx,Ix.unpinned,T.keep _ _ _ af λb a o e=>(Ix.pin (b,o) (Xw _ (Xw _ (dH a e)))).1,λb a=>?_,wx⟩;obtain⟨o,e,d⟩:=T.obj _ _ af b a;exact(Ix.pin (b,o) (Xw _ (Xw _ (dH a e)))).2.1
   cases ok with
   | false =>
    rw[if_neg TF] at q9 ⊢;exact D I9 q9
   | true =>
    rw[if_pos rfl] at q9 ⊢;refine thn (he _ _ _ _ _ _ _ ps _ s9 O H9 _ I9 q9) λy bn ⟨aS,bS,ca,bm,ys,br,hz,bo⟩=>?_
    refine thn (bJ _ bn O bS (.ref L) [aS] (.ref L) [y] (λ_ l=>Nx O l) ca rfl (.cons bm .nil) ⟨L,ys,aS,rfl,rfl,br,hz,bo⟩) λ_ dc ⟨_,df,bv,_,bP⟩=>?_
    exact D bv bP
 exact codeAny_compStart_list (U _ rfl) (T.self X.A 0 _ _ _ aE (U _ rfl))
def any_range(bs:List Bool):(List.range bs.length).any (λi=>bs.getD i true)=bs.any id:=by
 rw[Bool.eq_iff_iff,any_eq_true,any_eq_true];constructor
 .rintro⟨i,c,h⟩;have a:=mem_range.mp c;rw[qu,n6 a] at h;exact⟨_,getElem_mem a,h⟩
 .rintro⟨b,d,h⟩;obtain⟨i,c,e⟩:=getElem_of_mem d;refine⟨i,mem_range.mpr c,?_⟩;rw[qu,n6 c,e];exact h
def uh(hc:X.calm=true):d7 X (.builtin "any") (λxs H Q=>∃(l:Addr)(bs:List Bool),xs=[.ref l]/\SqL X.K H l (bs.map V.bl)/\Q (.bl (bs.any id)) H):=by
 intro c s σ H xs G Q I r h;obtain⟨l,bs,rfl,E,q⟩:=h;obtain⟨u,rfl,j⟩:=vals1 r;cases j;obtain⟨a,f,p,hz⟩:=I.list E;have hd:X.A.in1.handled=none:=I.ok.hd hc;have z:=f.length;refine call_any_walk (wpAny_pyIter_list p.isList ?_);obtain⟨o,n,x,_⟩:=id p;have d:l≠s.heap.objs.size:=J6 (I3 x);refine⟨s.heap.objs.size,_,_,_,_,_,λi=>bs.getD i true,rfl,Walks.list hd s.heap.objs.size l d a.toArray,⟨⟨_,Q0 _ rfl,rfl,rfl⟩,p.isList.push _⟩,λi v s' J L y hQ'=>?_,λh' tk g=>?_⟩
 .rw[Jq f y];exact wpAny_truthy_bool hQ'
 .have e:a.toArray.size=bs.length:=by rw[XM,← z,XF]
  rw[e,any_range];have B:Inv X c σ H { s with heap:=s.heap.push { cls:=.type "list_iterator",data:=.fields #[.ref l,.int 0 0] } }:=I.kept (t':=s.toks) λb o q=>n7 _ q
  obtain⟨t,w,F,C,m,D⟩:=I.fpOk (b:=s.heap.objs.size) (ql _) I.fresh;exact⟨.bl _,H,B.turned (it:=s.heap.objs.size) (λb o k e=>g b o (by simpa using k) e) t w C m D,rfl,q⟩
def RG:R2:=λx y H Q=>(x=.non/\y=.non/\Q (.bl false) H)\/(x=.non/\(∃ es,Den H y (.tup es))/\Q (.bl true) H)\/(y=.non/\(∃ es,Den H x (.tup es))/\Q (.bl true) H)\/N8 x y H Q
theorem Ph{X:Cx}(hu:X.A.units+64<cLine):OpR X (compareOp .NotEq) RG:=by
 intro b s σ H x y v u Q I d c h;rcases h with⟨rfl,rfl,q⟩ | ⟨rfl,⟨es,f⟩,q⟩ | ⟨rfl,⟨es,f⟩,q⟩ | h
 .exact Fp b s σ H _ _ v u Q I d c ⟨rfl,q⟩
 .obtain⟨a,k,rfl,i,g⟩:=aO f;cases d;cases c;obtain⟨e,l,j,_⟩:=I.tuple (SqT.of (K:=X.K) i);exact SeqAt.RcNeAt.none_tuple j (by lia) X.prog X.w _ _ ⟨.bl true,H,I,rfl,q⟩
 .obtain⟨a,k,rfl,i,g⟩:=aO f;cases d;cases c;obtain⟨e,l,j,_⟩:=I.tuple (SqT.of (K:=X.K) i);exact SeqAt.RcNeAt.tuple_none j (by lia) X.prog X.w _ _ ⟨.bl true,H,I,rfl,q⟩
 .exact Lg hu b s σ H x y v u Q I d c h
def uo{X:Cx}{elt tg iter:Expr}{ifs:List Expr}{scope:Scope}{pos:Pos}{wi:TI}{g:TG}{tc:TT}{te:TE}{E0:XK}(hF:Kg X E0)(hst:X.stack=X.env::X.outer)(hfl:X.env.frame=some X.env.locals)(XN:List Str)(sc:Scope)(N:List Str)(js:List (Option Nat))(a:X.N=XN)(hsc:X.env.scope=sc)(hc:X.calm=true)(hi:PI X tg iter wi)
  (hkind:scope.kind=.function)(hchk:jE N js XN scope.names=true)(hcell:∀ y∈scope.names,y.2≠.cell)(hfree:∀ y∈scope.names,y.2=.free->sc.names.lookup y.1=some .cell\/sc.names.lookup y.1=some .free)
  (hnames:∀ y∈scope.names,y.2=.local->scope.names.lookup y.1=some .local)
  (hg:∀ cl C s H ex pn E,PG (bM X scope N cl C s H ex pn E) tg g)(ht:∀ cl C s H ex pn E,Jw (bM X scope N cl C s H ex pn E) ifs tc)(he:∀ cl C s H ex pn E,gB (CX1 X.prog X.w) (bM X scope N cl C s H ex pn E) (λ_=>outV E0)->PE (bM X scope N cl C s H ex pn E) elt te)
  (hs:∀ x,foldedSetIterable iter X.env x=pure x:=by intro _;rfl) :
  PE X (.ListComp elt [⟨tg,iter,ifs,0⟩] scope pos) (Ac wi g tc te (ju js)):=by
 subst a;subst hsc;exact GX hF hst hfl N (ju js) hc hi hkind hcell hfree hnames (λσ _=>wK hchk σ) (λσ i x v _ b c=>Dq hchk σ i x v b c) hg ht he hs
def Oq(hu:X.A.units+64<cLine):OpR X (compareOp .NotEq) (λx y H Q=>rNe x y H Q\/RG x y H Q):=by
 intro a s σ H x y v u Q I c b h;rcases h with h | h
 .exact Fp a s σ H x y v u Q I c b h
 .exact Ph hu a s σ H x y v u Q I c b h
theorem oV{α:Type}{f:α->D}(h:∀ a,Pl (f a)):∀ xs:List α,PlL (xs.map f)
 | []=>trivial
 | x::xs=>⟨h x,oV h xs⟩
end L2
namespace L2
open PySem PySem.W PySem.Calls PyProof.Rows
section
variable {prog:Program}{w:World}{A:Around}{E:Value->Shared->Prop}{s:Shared}
def vX{a n:Nat}(ha:a<=n):sliceBounds (some (a:Int)) none none n=((a:Int),(n:Int),1):=by
 simp only[sliceBounds,Option.getD_none]
 grind
def u6{n n2:Nat}{a:Nat}{Q:Unit->Shared->Prop}
    (e:s.heap.get? l=some { cls:=.type "list",data:=.seq items n })(e2:s.heap.get? b=some { cls:=.type "list",data:=.seq new n2 })(hne:l≠b)
    (hs:s.heap.IsSliceOf sl vl vu .none)(pl:IsPart vl (some (a:Int)))(pu:IsPart vu none)(hac:a<=items.size)
    (hsz:items.size+new.size<=sizeLine)(h:Q () { s with heap:=s.heap.update l (Obj.mapSeq λxs=>xs.extract 0 a++new++xs.extract items.size xs.size) }) :
    wpAny (model prog w) A (setItem (.ref l) (.ref sl) (.ref b)) Q E s:=by
  have j:=PySem.IsL.isList e;have o:=PySem.IsL.isList e2;obtain⟨os,d,k,f⟩:=id hs;have hTs:s.TypeIs (.ref sl) "slice":=⟨os,d,k⟩
  have g:¬ ((rawPart none == rawInt 0)=true):=TF;have c:Builtin.List.listSameRef (.ref l) (.ref b)=false:=by
    unfold Builtin.List.listSameRef
    grind
  have i:(max (a:Int) (items.size:Int)).toNat=items.size:=by lia
  have m:((λxs:Array Value=>xs.extract 0 a++new++xs.extract items.size xs.size) items).size<=sizeLine+1:=by
    grind
  unfold setItem
  try with_reducible refine Xo ?_
  first | refine ni (nF ?_) | skip
  refine ni (wpAny_sequenceKey j.typeIs (by decide) ?_);refine ni (wpAny_callSpecial?_slot j.typeIs slot_list_setitem
    (Xy slot_list_setitem j.typeIs entry_list_setitem ?_ (args_list_setitem _ _ _)))
  show wpAny _ _ (Builtin.List.listSubscript? (.ref sl) >>= _) _ _ s;refine ni ?_;unfold Builtin.List.listSubscript?;refine ni (wpAny_specialOf hTs slice_no_index ?_);simp only[Option.isNone_none,if_true];refine nF ?_;refine ni (wpAny_typeOf hTs ?_)
  first
    | rw[if_neg (by decide)]
    | refine W.KFB.if_not (by decide) ?_
  rw[listSliceParts_eq];refine ni (ni (wpAny_field d f rfl (ni (wpAny_listPart .none ?_))));rw[if_neg g];refine ni (wpAny_field d f rfl (ni (wpAny_listPart pl ?_)));refine ni (wpAny_field d f rfl (ni (wpAny_listPart pu (nF ?_))))
  first
    | simp only[c,Bool.false_eq_true,if_false]
    | refine W.KFB.if_not c ?_
    | (dsimp only
       rw[if_neg (by rw[c];exact TF)])
  refine ni ?_;unfold Builtin.List.listAllItems;refine ni (wpAny_typeOf o.typeIs ?_)
  first
    | refine W.KFB.if_so (by decide) ?_
    | rw[if_pos (by decide)]
    | simp only[beq_self_eq_true,Bool.true_or,if_true]
  unfold Builtin.List.listItems;refine ni (wpAny_seqItems e2 rfl (nF ?_));refine ni (ni (wpAny_seqItems e rfl (nF ?_)));refine ni (wpAny_of_eq ((sliceIndices_raw (some (a:Int)) none none items.size (by simp)).trans (congrArg (pure:Int × Int × Int->Sem (Int × Int × Int)) (vX hac))) ?_);show wpAny _ _ (if ((1:Int) == 1)=true then _ else _) _ _ s;rw[if_pos (by decide)];refine ni (wpAny_rule ?_)
  first
    | simp only[nj hsz,Bool.false_eq_true,if_false]
    | refine W.KFB.if_not (nj hsz) ?_
  first | refine ni (nF ?_) | skip
  rw[i,Int.toNat_natCast];refine ni (wpAny_updateSeq e rfl ?_);refine ni (wpAny_letGo ?_)
  first
    | exact ni (nF (nF ⟨.none,rfl,nF h⟩))
    | exact nF ⟨.none,rfl,nF h⟩
variable {X:Cx}
def Io{a:Nat}{Q:Unit->Shared->Prop}(I:Inv X pins σ H s)
  (hH:H l=some (.lst xs))(hB:H b=some (.lst ys))(hne:l≠b)(hs:s.heap.IsSliceOf sl vl vu .none)(ra:IsPart vl (some (a:Int)))(rc:IsPart vu none)(hac:a<=xs.length)
  (hz:xs.length+ys.length<=sizeLine)(h:∀ s',Inv X pins σ (upd H l (.lst (xs.take a++ys))) s'->Q () s') :
  wpAny (model X.prog X.w) X.A (setItem (.ref l) (.ref sl) (.ref b)) Q X.xe s:=by
 obtain⟨z,f,n,r,j,e⟩:=I.lstM hH;obtain⟨m,c,k,d,g,i⟩:=I.lstM hB;refine u6 e i hne hs ra rc (by rw[XM];lia) (by rw[XM,XM];lia) (h _ ?_);refine I.lset hH e ?_ (Vals.append (r.take _) d) ?_
 .grind
 .grind
def Rh(to:TE)(tl:TO):TG:=λv σ H Q=>to σ H λo c=>tl σ c λl b=>∃(p q:Addr)(xs ys:List V)(a:Nat),o=.ref p/\v=.ref q/\l=some (a:Int)/\b p=some (.lst xs)/\b q=some (.lst ys)/\p≠q/\a<=xs.length/\xs.length+ys.length<=sizeLine/\Q σ (upd b p (.lst (xs.take a++ys)))
def K7{o lo:Expr}{p2 pos:Pos}{to:TE}{tl:TO}(ho:PE X o to)(hl:PO X (some lo) tl)
  (ha:∀ v,assign (.Subscript o (.Slice (some lo) none none p2) pos) X.env v=(do
   let d ← holding [v] (eval o X.env)
   let iv ← holding [v,d] (eval (.Slice (some lo) none none p2) X.env)
   standAt pos
   holding [v,d,iv] (setItem d iv v)
   release [iv,v,d] []):=by intro _;rfl):PG X (.Subscript o (.Slice (some lo) none none p2) pos) (Rh to tl):=by
 intro c s σ H v u Q I r h;rw[ha];refine ni (Xo (thn (ho c s σ H _ I h) λd D ⟨x,w,A,B,m⟩=>?_));refine ni (Xo (wpAny_Slice (thn (hl c D σ w _ A m) λj g ⟨l,i,t,pl,C⟩=>?_)));rw[evalPart_none];refine nF (nF ?_);obtain⟨p,q,xs,ys,a,rfl,rfl,rfl,z,E,f,e,hz,k⟩:=C;cases r;cases B;have n:Inv X c σ i { g with heap:=g.heap.push { cls:=.type "slice",data:=.fields #[j,.none,.none] } }:=t.kept λb ob q=>n7 _ q
 refine ni (wpAny_standAt (ni (Xo (Io n z E f (Heap.IsSliceOf.new ..) pl .none e hz λF y=>?_))));exact wpAny_release ⟨σ,_,y,k⟩
end
end L2
namespace L2
open PySem PySem.Spec PyProof.Rows
def vK:List V->List V->Bool
 | [],[]=>true
 | x::xs,y::ys=>eqV x y && vK xs ys
 | _,_=>false
def Hq(h:eX x=true):eqV x x=true:=by
 cases x <;> first | (cases h;done) | simp[eqV]
theorem vG:∀ {xs:List V},(∀ v∈xs,eX v=true)->vK xs xs=true
 | [],_=>rfl
 | x::xs,h=>by
  show(eqV x x && vK xs xs)=true;rw[Hq (h x (.head _)),vG λv a=>h v (.tail _ a)]
  rfl
theorem zm:∀ {xs ys:List V},xs.length≠ys.length->vK xs ys=false
 | [],[],h=>absurd rfl h
 | [],_::_,_=>rfl
 | _::_,[],_=>rfl
 | x::xs,y::ys,h=>by
  show(eqV x y && vK xs ys)=false;rw[zm λe=>h (congrArg (· + 1) e),Bool.and_false]
def range_all{f:Nat->Bool}:(List.range (n+1)).all f=(f 0 && (List.range n).all λi=>f (i+1)):=by
 rw[List.range_succ_eq_map,all_cons,all_map]
 rfl
theorem xY:∀ {xs ys:List V},xs.length=ys.length->(List.range xs.length).all (λj=>eqV (xs.getD j .non) (ys.getD j .non))=vK xs ys
 | [],[],_=>rfl
 | [],_::_,h=>nomatch h
 | _::_,[],h=>nomatch h
 | x::xs,y::ys,h=>by
  rw[length_cons,range_all];show(eqV x y && _)=(eqV x y && vK xs ys);rw[← xY (Nat.succ.inj h)]
  rfl
theorem zA:∀(es:List Bool),(List.range es.length).all (λj=>es.getD j true)=es.all id
 | []=>rfl
 | e::es=>by
  rw[length_cons,range_all,all_cons,← zA es]
  rfl
def ItE(H:Hp)(x y:V)(e:Bool):Prop:=(eX x=true/\eX y=true/\e=eqV x y)\/∃(a b:Addr)(xs ys:List V),x=.ref a/\y=.ref b/\H a=some (.lst xs)/\H b=some (.lst ys)/\(∀ v∈xs,eX v=true)/\(∀ v∈ys,eX v=true)/\e=vK xs ys
section
variable {X:Cx}{pins:List (Addr × Obj)}{σ:St}{H:Hp}{s:Shared}
theorem Pg(I:Inv X pins σ H s)(hu:A.units<cLine)(rx:RelV x u)(ry:RelV y v)(h:ItE H x y e):SeqAt.EqAt A s u v e:=by
 rcases h with⟨w,G,rfl⟩ | ⟨a,b,xs,ys,rfl,rfl,r,k,n,D,rfl⟩
 .exact Gr rx ry w G
 cases rx;cases ry;by_cases hab:a=b
 .subst hab;rw[r] at k;cases k;rw[vG n];exact SeqAt.EqAt.same _
 obtain⟨g,p,t,_⟩:=I.list (SqL.of r);obtain⟨f,m,o,_⟩:=I.list (SqL.of k);have M:=p.length;have F:=m.length;refine SeqAt.EqAt.of_refs hab ?_;by_cases hl:xs.length=ys.length
 .have key:=SeqAt.RcAt.lists (e:=λj=>eqV (xs.getD j .non) (ys.getD j .non)) t.isList o.isList (by simp;lia) hu λj L z=>?_
  .have q:=xY hl
   grind
  .have c:j<xs.length:=by simpa [M] using L
   have d:j<ys.length:=by simpa [F] using z
   obtain⟨N,K,l⟩:=p.get (n6 c);obtain⟨J,C,i⟩:=m.get (n6 d);have B:g.toArray[j]=N:=by
    grind
   have E:f.toArray[j]=J:=by
    grind
   rw[B,E,qu,qu,n6 c,n6 d];exact Gr l i (n _ (getElem_mem c)) (D _ (getElem_mem d))
 .rw[zm hl];exact SeqAt.RcAt.lists_lengths t.isList o.isList (by simp;lia) hu
end
def QZ:R2:=λx y H Q=>∃(l b:Addr)(xs ys:List V)(es:List Bool),x=.ref l/\y=.ref b/\H l=some (.lst xs)/\H b=some (.lst ys) /\
 (xs.length=ys.length->es.length=xs.length/\∀(j:Nat)(u v:V),xs[j]?=some u->ys[j]?=some v->ItE H u v (es.getD j true))/\Q (.bl (!(decide (xs.length=ys.length) && es.all id))) H
def DK(hu:X.A.units+64<cLine):OpR X (compareOp .NotEq) QZ:=by
 intro p s σ H x y v u Q I E B h;obtain⟨l,b,xs,ys,es,rfl,rfl,L,G,i,q⟩:=h;cases E;cases B;obtain⟨f,r,m,_⟩:=I.list (SqL.of L);obtain⟨d,n,o,_⟩:=I.list (SqL.of G);have P:=r.length;have O:=n.length;by_cases hz:xs.length=ys.length
 .obtain⟨C,i⟩:=i hz;have key:=SeqAt.RcNeAt.lists (A:=X.A) (e:=λj=>es.getD j true) m.isList o.isList (by simp;lia) (by lia) λj z M=>?_
  .have e:=zA es;rw[show es.length=f.toArray.size by simp;lia] at e;rw[e] at key;rw[XD hz,Bool.true_and] at q;exact key X.prog X.w _ _ ⟨.bl _,H,I,rfl,q⟩
  .have a:j<xs.length:=by simpa [P] using z
   have c:j<ys.length:=by simpa [O] using M
   obtain⟨J,F,k⟩:=r.get (n6 a);obtain⟨D,K,g⟩:=n.get (n6 c);have t:f.toArray[j]=J:=by
    grind
   have N:d.toArray[j]=D:=by
    grind
   rw[t,N];exact Pg I (by first | (simp only[Around.in1];lia) | lia) k g (i j _ _ (n6 a) (n6 c))
 .have key:=SeqAt.RcNeAt.lists_lengths (A:=X.A) m.isList o.isList (by simp;lia) (by lia);rw[Xp hz,Bool.false_and] at q;exact key X.prog X.w _ _ ⟨.bl _,H,I,rfl,q⟩
def Kr{X:Cx}{st:Stmt}{t:TS}(h1:QS X st t):QSs X [st] t:=⟨aB h1.h⟩
end L2
namespace Mine
open PySem L2 PyProof.Rows
variable {P:Program}{w:World}{K:W.Frag}{mg:Str->Option Value}{base:Heap}
def top(i:Nat):Stmt:=PySem.Challenge.pw_twainkeep_k23_how_parts_stand.main.body.getD i (.Pass ⟨0,0,0,0⟩)
abbrev sZ:Stmt:=top 11
abbrev sW:Stmt:=top 13
abbrev qT:Stmt:=top 16
abbrev jd:Stmt:=top 17
abbrev j7:Stmt:=top 22
abbrev jY:Stmt:=top 23
abbrev m7:Stmt:=top 24
abbrev jQ:Stmt:=top 28
abbrev gA:Stmt:=top 31
abbrev bU:Stmt:=top 44
abbrev jP:Stmt:=top 45
abbrev je:Stmt:=top 46
abbrev jX:Stmt:=top 47
abbrev jf:Stmt:=top 48
abbrev jK:Stmt:=top 49
abbrev Ij:Stmt:=top 51
abbrev QH:Stmt:=top 53
abbrev Ie:Stmt:=top 54
abbrev yC:Stmt:=top 55
abbrev nY:Stmt:=top 56
abbrev yV:Stmt:=top 57
abbrev HD:Stmt:=top 58
abbrev mJ:Stmt:=top 59
abbrev yK:Stmt:=top 60
abbrev FP:Stmt:=top 61
abbrev qD:Stmt:=top 62
abbrev Ho:Stmt:=top 63
abbrev qC:Stmt:=top 64
abbrev tG:Stmt:=top 65
abbrev Iv:Stmt:=top 66
abbrev Jd:Stmt:=top 67
abbrev oY:Stmt:=top 68
abbrev tV:Stmt:=top 69
abbrev sDo:Stmt:=top 70
abbrev HW:Stmt:=top 71
abbrev jL:Stmt:=top 72
abbrev fD:Stmt:=top 73
abbrev Ip:Stmt:=top 74
abbrev yt:Stmt:=top 75
abbrev uZ:Stmt:=top 76
abbrev pI:Stmt:=top 77
abbrev IK:Stmt:=top 78
def bO{H H':Hp}{l:Addr}{o:HO}(s:Same H H')(h:H l=none):Same H (upd H' l o):=λc u z=>by
 rw[aG (aD z h)];exact s c u z
def bK{α:Type}{xs:List α}{i:Nat}(h:i<xs.length):xs[i]?=some xs[i]:=n6 h
def take_one{α:Type}{xs:List α}{i:Nat}{x:α}(h:xs[i]?=some x):xs.take (i+1)=xs.take i++[x]:=by rw[take_add_one,h];rfl
def at_of{H:Hp}{vs:List V}{ds:List D}(d:bW H vs ds){i:Nat}{v:V}(h:vs[i]?=some v){e:D}(he:ds[i]?=some e):Den H v e:=by
 obtain⟨f,a,k⟩:=d.at_ h;rw[a] at he;cases he;exact k
def j4{H:Hp}{l:Addr}{us ws:List V}(e:H l=some (.lst us)):∀(b:Addr)(a:List V),H b=some (.tup a)->(upd H l (.lst ws)) b=some (.tup a):=λb a z=>by
 rw[aG]
 .exact z
 .intro q;rw[q,e] at z;cases z
def rO{t u:TS}{D:Ends}{σ:L2.St}{H:Hp}(P:L2.St->Hp->Prop)(h1:∀ N:L2.St->Hp->Prop,(∀ b a,P b a->N b a)->t { D with nx:=N } σ H)(h2:∀ b a,P b a->u D b a):QF t u D σ H:=h1 (u D) h2
def nxP{t u:TS}{D:Ends}{r:VK}{b c:L2.St->Hp->Prop}{σ:L2.St}{H:Hp}(P:L2.St->Hp->Prop)(h1:∀ N:L2.St->Hp->Prop,(∀ d a,P d a->N d a)->t { D with nx:=N } σ H)(h2:∀ d a,P d a->u D d a):Ends.nx ⟨QF t u D,r,b,c⟩ σ H:=h1 (u D) h2
def pU(c:Nat):Prop:=(32<=c/\c<=126)\/c=10
abbrev Nms:=List (List Nat)
abbrev Prt:=List Nat × List Nat × List Int
abbrev Lnk:=Nms × Nms × Int × List Int × List Int
def FZ(ms:List Int):D:=.tup (ms.map D.int)
def fM(ns:Nms):D:=.tup (ns.map sD)
def bN(q:Prt):D:=.tup [sD q.1,sD q.2.1,FZ q.2.2]
def aX(k:Lnk):D:=.tup [fM k.1,fM k.2.1,.int k.2.2.1,.tup [FZ k.2.2.2.1,FZ k.2.2.2.2]]
def GQ(ms:List Int):Prop:=(∀ n∈ms,0<=n/\n<=1000000000000)/\ms.Pairwise (· < ·)/\ms.length<=20
def HF(ns:Nms):Prop:=(∀ x∈ns,isNm ⟨x.toArray⟩=true)/\ns.Pairwise (λa b=>dlt (sD a) (sD b)=true)/\ns.length<=1000
def wU(q:Prt):Prop:=isNm ⟨q.1.toArray⟩=true/\q.2.1.length<=1000/\(∀ c∈q.2.1,pU c)/\GQ q.2.2/\q.2.2≠[]
def rM(k:Lnk):Prop:=HF k.1/\HF k.2.1/\k.1≠[]/\k.2.1≠[]/\0<=k.2.2.1/\k.2.2.1<=1000000000000/\GQ k.2.2.2.1/\GQ k.2.2.2.2
theorem QV{H:Hp}:∀ {a:List Int}{b:List V},bW H b (a.map D.int)->b=a.map V.int
 | [],[],_=>rfl
 | _::a,v::b,h=>by
  have e:v=.int _:=h.1;rw[e,QV h.2]
  rfl
 | [],_::_,h=>h.elim
 | _::_,[],h=>h.elim
theorem jz(H:Hp):∀ a:List Int,bW H (a.map V.int) (a.map D.int)
 | []=>trivial
 | _::a=>⟨rfl,jz H a⟩
theorem dU{H:Hp}:∀ {ds es:List D}{vs us:List V},bW H vs ds->bW H us es->bW H (vs++us) (ds++es)
 | [],_,[],_,_,h=>h
 | _::_,_,_::_,_,h,g=>⟨h.1,dU h.2 g⟩
 | [],_,_::_,_,h,_=>h.elim
 | _::_,_,[],_,h,_=>h.elim
theorem cZ{n:Nat}{d:D}(h:dz n d):∀ k,dz (n+k) d
 | 0=>h
 | k+1=>(cZ h k).up
def cY{n:Nat}{ds:List D}(hl:ds.length<=100000)(h:∀ d∈ds,dz n d):dz (n+1) (.tup ds) :=
 ⟨(λz=>nomatch z),λes e=>by injection e with e;subst e;exact⟨hl,h⟩⟩
def j9{ms:List Int}(h:ms.length<=1000):dz 1 (FZ ms):=cY (by rw[XF];lia) λd hd=>by
 obtain⟨i,_,rfl⟩:=mem_map.mp hd;exact rJ i
def gq{ns:Nms}(h:ns.length<=1000):dz 1 (fM ns):=cY (by rw[XF];lia) λd hd=>by
 obtain⟨i,_,rfl⟩:=mem_map.mp hd;exact eN _
theorem rD{α β:Type}{f:α->D}{g:β->D}(h:∀ a b,Sim (f a) (g b)):∀(xs:List α)(ys:List β),vL (xs.map f) (ys.map g)
 | [],_=>zy _
 | _::_,[]=>Qj _
 | x::xs,y::ys=>jm (h x y) (rD h xs ys)
def Fl(a b:Int):Sim (.int a) (.int b):=trivial
def pF(a b:Str):Sim (.str a) (.str b):=trivial
def xO(a b:List Int):Sim (FZ a) (FZ b):=Ae (rD (λa b=>Fl a b) a b)
def tQ(a b:Nms):Sim (fM a) (fM b):=Ae (rD (λa b=>pF _ _) a b)
def m8(a b:Lnk):Sim (aX a) (aX b):=by
 unfold aX;exact Ae (jm (tQ _ _) (jm (tQ _ _) (jm (Fl _ _) (jm (Ae (jm (xO _ _) (jm (xO _ _) (zy _)))) (zy _)))))
def Dh{q:Lnk}(g:rM q):dz 3 (aX q):=by
 obtain⟨e,a,f,h,j,i,c,b⟩:=g;refine cY (by simp) λd hd=>?_
 simp only[mem_cons,not_mem_nil,or_false] at hd;rcases hd with rfl | rfl | rfl | rfl
 .exact(gq e.2.2).up
 .exact(gq a.2.2).up
 .exact(rJ _).up.up
 .refine cY (by simp) λd hd=>?_
  simp only[mem_cons,not_mem_nil,or_false] at hd;rcases hd with rfl | rfl
  .exact j9 (Xz c.2.2 (by decide))
  .exact j9 (Xz b.2.2 (by decide))
def rB{H:Hp}{v:V}{q:Lnk}(h:Den H v (aX q)):∃(p f o i g l:Addr)(a b:List V),v=.ref p/\H p=some (.tup [.ref f,.ref o,.int q.2.2.1,.ref i])/\H f=some (.tup a)/\bW H a (q.1.map sD)/\H o=some (.tup b)/\bW H b (q.2.1.map sD) /\
  H i=some (.tup [.ref g,.ref l])/\H g=some (.tup (q.2.2.2.1.map V.int))/\H l=some (.tup (q.2.2.2.2.map V.int)):=by
 obtain⟨p,z,rfl,B,hd⟩:=aO h;obtain⟨n,r,e,k,rfl⟩:∃ n r e k,z=[n,r,e,k]:=by
  match z,hd with
  | [n,r,e,k],_=>exact⟨n,r,e,k,rfl⟩
  | [],h=>exact h.elim
  | [_],h=>exact h.2.elim
  | [_,_],h=>exact h.2.2.elim
  | [_,_,_],h=>exact h.2.2.2.elim
  | _::_::_::_::_::_,h=>exact h.2.2.2.2.elim
 obtain⟨f,a,rfl,C,s⟩:=aO hd.1;obtain⟨o,b,rfl,A,u⟩:=aO hd.2.1;have D:e=.int q.2.2.1:=hd.2.2.1;subst D;obtain⟨i,d,rfl,F,c⟩:=aO hd.2.2.2.1;obtain⟨m,j,rfl⟩:∃ m j,d=[m,j]:=by
  match d,c with
  | [m,j],_=>exact⟨m,j,rfl⟩
  | [],h=>exact h.elim
  | [_],h=>exact h.2.elim
  | _::_::_::_,h=>exact h.2.2.elim
 obtain⟨g,G,rfl,y,t⟩:=aO c.1;obtain⟨l,E,rfl,x,w⟩:=aO c.2.1;rw[QV t] at y;rw[QV w] at x;exact⟨p,f,o,i,g,l,a,b,rfl,B,C,s,A,u,F,y,x⟩
def fG(L R:List Prt)(ks:List Lnk)(al:Nms):D:=.tup [.tup (L.map bN),.tup (R.map bN),.tup (ks.map aX),fM al]
def cg(L:List Prt):List V:=L.map λq=>mkT q.1
def dR(n:Nat)(k:Lnk):Nms:=if n=0 then k.1 else k.2.1
def aY(n:Nat)(ks:List Lnk):Nms:=ks.flatMap (dR n)
def jk(K:W.Frag)(H:Hp)(v:V)(L R:List Prt)(ks:List Lnk)(al:Nms):Prop:=∃(p pl pr pk pa:Addr)(ls rs us:List V),v=.ref p/\SqT K H p [.ref pl,.ref pr,.ref pk,.ref pa]/\SqT K H pl ls/\bW H ls (L.map bN)/\SqT K H pr rs/\bW H rs (R.map bN)/\SqT K H pk us/\bW H us (ks.map aX)/\SqT K H pa (al.map mkT)
def jk.same{K:W.Frag}{H H':Hp}{v:V}{L R:List Prt}{ks:List Lnk}{al:Nms}(s:Same H H')(h:jk K H v L R ks al):jk K H' v L R ks al:=by
 obtain⟨p,pl,m,l,n,d,j,f,rfl,a,i,b,c,e,k,a7,g⟩:=h;exact⟨p,pl,m,l,n,d,j,f,rfl,stT s a,stT s i,b.same s,stT s c,e.same s,stT s k,a7.same s,stT s g⟩
theorem Cd{H:Hp}:∀ {a:Nms}{b:List V},bW H b (a.map sD)->b=a.map mkT
 | [],[],_=>rfl
 | _::a,v::b,h=>by
  have e:v=mkT _:=h.1;rw[e,Cd h.2]
  rfl
 | [],_::_,h=>h.elim
 | _::_,[],h=>h.elim
theorem dB(H:Hp):∀ a:Nms,bW H (a.map mkT) (a.map sD)
 | []=>trivial
 | _::a=>⟨rfl,dB H a⟩
structure Jh(L R:List Prt)(ks:List Lnk)(al:Nms):Prop where
 parts:∀ q∈L++R,wU q
 nd:((L++R).map (·.1)).Nodup
 lL:L.length<=1000
 lR:R.length<=1000
 links:∀ k∈ks,rM k
 up:ks.Pairwise λa b=>dlt (aX a) (aX b)=true
 lk:ks.length<=1000
 alone:HF al
 on:∀ x∈aY 0 ks,x∈L.map (·.1)
 off:∀ x∈aY 1 ks,x∈R.map (·.1)
 nd2:(aY 0 ks++aY 1 ks++al).Nodup
 len:(aY 0 ks++aY 1 ks++al).length<=4000
 al_in:∀ x∈al,x∈(L++R).map (·.1)
def jR{H:Hp}{v:V}{L R:List Prt}{ks:List Lnk}{al:Nms}(h:Den H v (fG L R ks al)):∃(p pl g j k:Addr)(c e a:List V),v=.ref p/\H p=some (.tup [.ref pl,.ref g,.ref j,.ref k])/\H pl=some (.tup c)/\bW H c (L.map bN)/\H g=some (.tup e)/\bW H e (R.map bN)/\H j=some (.tup a)/\bW H a (ks.map aX)/\H k=some (.tup (al.map mkT)):=by
 obtain⟨p,a,rfl,u,hd⟩:=aO h;obtain⟨i,l,f,d,rfl⟩:∃ i l f d,a=[i,l,f,d]:=by
  match a,hd with
  | [i,l,f,d],_=>exact⟨i,l,f,d,rfl⟩
  | [],h=>exact h.elim
  | [_],h=>exact h.2.elim
  | [_,_],h=>exact h.2.2.elim
  | [_,_,_],h=>exact h.2.2.2.elim
  | _::_::_::_::_::_,h=>exact h.2.2.2.2.elim
 obtain⟨pl,c,rfl,t,r⟩:=aO hd.1;obtain⟨g,e,rfl,m,o⟩:=aO hd.2.1;obtain⟨j,w,rfl,s,n⟩:=aO hd.2.2.1;obtain⟨k,as,rfl,b,q⟩:=aO hd.2.2.2.1;rw[Cd q] at b;exact⟨p,pl,g,j,k,c,e,w,rfl,u,t,r,m,o,s,n,b⟩
def jk.of{K:W.Frag}{H:Hp}{v:V}{L R:List Prt}{ks:List Lnk}{al:Nms}(h:Den H v (fG L R ks al)):jk K H v L R ks al:=by
 obtain⟨p,pl,m,l,n,d,j,f,rfl,a,i,b,c,e,k,a7,g⟩:=jR h;exact⟨p,pl,m,l,n,d,j,f,rfl,SqT.of a,SqT.of i,b,SqT.of c,e,SqT.of k,a7,SqT.of g⟩
theorem lJ{α:Type}{p:α->Bool}:∀ {xs:List α}{i:Nat} (b:i<xs.length),(∀ x∈xs.take i,p x=false)->p xs[i]=true->xs.find? p=some xs[i]
 | x::xs,0,_,_,h=>by
  rw[find?_cons,show p x=true from h]
  rfl
 | x::xs,i+1,b,a,h=>by
  rw[find?_cons,a x (by rw[take_succ_cons];exact .head _)];exact lJ (by simpa using b) (λy c=>a y (by rw[take_succ_cons];exact .tail _ c)) h
def rY{H:Hp}{v:V}{q:Prt}(h:Den H v (bN q)):∃(b c:Addr),v=.ref b/\H b=some (.tup [mkT q.1,mkT q.2.1,.ref c])/\H c=some (.tup (q.2.2.map V.int)):=by
 obtain⟨b,bs,rfl,f,a⟩:=aO h
 match bs,a with
 | [c0,c1,c2],a =>
  have i:c0=mkT q.1:=a.1;have e:c1=mkT q.2.1:=a.2.1;obtain⟨c,j,rfl,d,g⟩:=aO a.2.2.1;rw[QV g] at d;exact⟨b,c,rfl,by rw[f,i,e],d⟩
 | [],h=>exact h.elim
 | [_],h=>exact h.2.elim
 | [_,_],h=>exact h.2.2.elim
 | _::_::_::_::_,h=>exact h.2.2.2.elim
def cL(ps:List Prt)(x:List Nat):Option Prt:=ps.find? λp=>decide (p.1=x)
def tK(K:W.Frag)(C:Addr):Sp:=λa H Q E=>∃(v:V)(L R:List Prt)(ks:List Lnk)(al:Nms)(x:List Nat),a=[v,mkT x]/\jk K H v L R ks al/\L.length<=60/\R.length<=60/\x.length<=1000 /\
 (∀ p,cL (L++R) x=some p->∀(u:V)(H':Hp),Same H H'->Den H' u (bN p)->Q u H')/\(cL (L++R) x=none->cP C H E)
section
variable {Us:Addr}
def yx:aU ["book","name","part"] ["book","name"] (aC sZ):=⟨rfl,rfl,rfl,by decide +kernel,rfl,by decide +kernel,by decide +kernel⟩
def Bv(h:Has K mg "part_of" sZ ["book","name"])(Vm:mg "NoPart" = some (.ref Us))(x_NoPart:W.excIn K Us vBm "ValueError.__new__" = true):jj P w K mg base "part_of" 1 ["book","name"] (tK K Us):=by
 refine h.mk1 yx (λvs H Q E hs=>?_) (λf a3 A outer s H vs Q E hr hs=>?_)
 .obtain⟨v,L,R,ks,al,x,rfl,_⟩:=hs
  rfl
 obtain⟨v,L,R,ks,al,x,rfl,hv,hlL,aI,o,k1,k2⟩:=hs;refine⟨_,(au (dJ PassesOwn.leaving rfl (Ey (bB Jj (bA lM (pv 0) aA (λ_ _=>rfl)) (bA lM (pv 0) aA (λ_ _=>rfl)))) (aK (i:=2) yx.nd rfl (Or.inl rfl))
   (aB (cB (aQ gJ (bA lM (pv 2) aA (λ_ _=>rfl)) (pv 1) (bC _))
   (aB (aW (pv 2)))
   bf)))
  (aB (jg rfl lE rfl Vm x_NoPart (aj (rZ (iU aF (iU (yj (pv 1)) xZ))) aq)))),?_⟩
 obtain⟨p,pl,F,pk,S,O,M,ws,rfl,hp,ab,u,Y,t,aE,aw,ar⟩:=hv;have Z:atI [V.ref pl,V.ref F,V.ref pk,V.ref S] 0=some (.ref pl):=bF _ _;have ac:atI [V.ref pl,V.ref F,V.ref pk,V.ref S] 1=some (.ref F):=aZ (xs:=[V.ref pl,V.ref F,V.ref pk,V.ref S]) (j:=1) rfl;have G:=u.len;have B:=t.len;rw[XF] at G B;refine⟨_,rfl,p,_,_,_,rfl,rfl,hp,Z,_,rfl,p,_,_,_,rfl,rfl,hp,ac,pl,F,_,_,rfl,rfl,ab,Y,small (by lia),λq3 H3 s3 e3=>?_⟩;have dA:bW H (O++M) ((L++R).map bN):=by
  rw[map_append];exact dU u t
 refine⟨q3,rfl,⟨_,e3⟩,?_⟩;refine iQ (K:=K) (a:=q3) (xs:=O++M) (λj σ r=>∃ v2:Option V,σ=[some (.ref p),some (mkT x),v2]/\Same H r/\SqT K r q3 (O++M)/\∀ q∈(L++R).take j,decide (q.1=x)=false) ⟨_,rfl,s3,e3,λq N=>by rw[take_zero] at N;cases N⟩ ?_ ?_ ?_
 .rintro j σ r _ ⟨_,_,_,J,_⟩;exact J
 .rintro j y σ r hj ⟨v2,rfl,m,J,d⟩;obtain⟨dd,k,l⟩:=dA.at_ hj;have g:j<(L++R).length:=by
   have:=(pN.mp k).1
   rwa [XF] at this
  rw[XC,n6 g] at k;have U:bN (L++R)[j]=dd:=Xn k;subst U;have D:(L++R).take (j+1)=(L++R).take j++[(L++R)[j]]:=by
   rw[take_add_one,n6 g]
   rfl
  have c:decide ((L++R)[j].1=x)=true->cL (L++R) x=some (L++R)[j]:=λh=>lJ g d h
  generalize (L++R)[j]=q at l D c;obtain⟨bq,pm,rfl,aa,a5⟩:=rY (l.same m);refine gN ⟨_,rfl,bq,_,_,_,rfl,rfl,SqT.of aa,bF _ _,_,rfl,rfl,_,rfl,?_⟩;have ez:∀ a b:List Nat,decide (mkT a=mkT b)=decide (a=b):=λa b=>by
   by_cases h:a=b
   .subst h;simp
   .rw[Xp h];exact Xp λz=>h (by injection z with z;injection z with z;exact(Array.mk.inj z))
  tm_at"d"
  .have z':decide (q.1=x)=true:=by rw[← ez];exact z
   exact⟨_,rfl,k1 q (c z') _ _ m (l.same m)⟩
  .have z':decide (q.1=x)=false:=by rw[← ez];exact Bool.eq_false_iff.mpr z
   refine⟨_,rfl,m,J,λq' C=>?_⟩;rw[D] at C;rcases mem_append.mp C with h | h
   .exact d q' h
   .rw[mem_singleton.mp h];exact z'
 .rintro σ r ⟨v2,rfl,m,J,d⟩;have hn:cL (L++R) x=none:=find?_eq_none.mpr λq N=>by
   have n:(O++M).length=(L++R).length:=by rw[Xr,Xr,G,B]
   have:=d q (by rw[n,take_length];exact N);rw[this];decide
  have th:=(k2 hn).up m;have X:(⟨x.toArray⟩:Str).length<=sizeLine:=by
   show x.toArray.size<=sizeLine;rw[XM];exact Nat.le_of_lt (aH o)
  have I:((Str.empty++Str.ofString "there is no part ")++(⟨x.toArray⟩:Str)).length<=sizeLine:=by
   rw[strLen_append];have e1:(Str.empty++Str.ofString "there is no part ").length=17:=by decide +kernel
   rw[e1];show 17+x.toArray.size<=sizeLine;rw[XM];exact Xz (Nat.add_le_add_left o 17) (by decide)
  refine⟨_,rfl,by decide +kernel,_,rfl,.inl ⟨_,rfl,X,_,rfl,I,I,?_⟩⟩;exact⟨smn 1,λe T he hT=>th.made he hT⟩
end
def Jk(a b:Prt):Sim (bN a) (bN b):=by
 unfold bN;exact Ae (jm (pF _ _) (jm (pF _ _) (jm (xO _ _) (zy _))))
def j8{q:Prt}(h:q.2.2.length<=1000):dz 2 (bN q):=by
 refine cY (by simp) λd hd=>?_
 simp only[mem_cons,not_mem_nil,or_false] at hd;rcases hd with rfl | rfl | rfl
 .exact(eN _).up
 .exact(eN _).up
 .exact j9 h
def Il{a b:Prt}(h:bN a=bN b):a.1=b.1:=by
 unfold bN at h;injection h with h;injection h with h _;injection h with h;injection h with h;exact Array.mk.inj h
def Ls{L R:List Prt}{x:List Nat}{p:Prt}(h:cL (L++R) x=some p):(L.map bN).any (λe=>eqD e (bN p))=(cL L x).isSome:=by
 unfold cL at h ⊢;rw[List.find?_append] at h;cases q:L.find? (λp=>decide (p.1=x)) with
 | some r =>
  rw[q] at h;cases h;rw[Option.isSome_some,any_eq_true];exact⟨_,mem_map_of_mem (List.mem_of_find?_eq_some q),fj.mpr rfl⟩
 | none =>
  rw[q] at h;have h':R.find? (λp=>decide (p.1=x))=some p:=h;have b:p.1=x:=Xv (find?_some (p:=λp:Prt=>decide (p.1=x)) h');rw[Option.isSome_none,any_eq_false];intro e he z;obtain⟨r,a,rfl⟩:=mem_map.mp he;have:=Il (fj.mp z);exact find?_eq_none.mp q r a (XD (this.trans b))
def qZ(K:W.Frag)(C:Addr):Sp:=λa H Q E=>∃(v:V)(L R:List Prt)(ks:List Lnk)(al:Nms)(x:List Nat),a=[v,mkT x]/\jk K H v L R ks al/\L.length<=60/\R.length<=60/\x.length<=1000/\(∀ p∈L++R,p.2.2.length<=1000) /\
 (∀ p,cL (L++R) x=some p->∀(H':Hp),Same H H'->Q (.int (if (cL L x).isSome then 0 else 1)) H')/\(cL (L++R) x=none->cP C H E)
section
variable {Us:Addr}
def Im:aU ["book","name"] ["book","name"] (aC sW):=⟨rfl,rfl,rfl,by decide +kernel,rfl,by decide +kernel,by decide +kernel⟩
def Br(h:Has K mg "side_of" sW ["book","name"])(J:jj P w K mg base "part_of" 1 ["book","name"] (tK K Us)):jj P w K mg base "side_of" 2 ["book","name"] (qZ K Us):=by
 refine h.mk1 Im (λS H Q E k=>?_) (λf T A outer s H S Q E b k=>?_)
 .obtain⟨v,L,R,ks,al,x,rfl,_⟩:=k
  rfl
 obtain⟨v,L,R,ks,al,x,rfl,t,hlL,g,i,a,k1,k2⟩:=k;refine⟨_,(aB (aW (HN (aQ (Pa b.units) (dZ J b (by decide) rfl fY (aj (pv 0) (aj (pv 1) aq))) (bA lM (pv 0) aA (λ_ _=>rfl)) (by with_unfolding_all rfl)) aA aA))),?_⟩;refine⟨_,rfl,_,rfl,v,L,R,ks,al,x,rfl,t,hlL,g,i,λp j u I s' d=>?_,λz=>(k2 z).out⟩;obtain⟨y,pl,D,U,F,M,X,W,rfl,n,o,m,G,O,B,N,C⟩:=t;have l:atI [V.ref pl,V.ref D,V.ref U,V.ref F] 0=some (.ref pl):=bF _ _;have q:p∈L++R:=List.mem_of_find?_eq_some j;refine⟨_,rfl,y,_,_,_,rfl,rfl,(stT s' n),l,pl,M,bN p,L.map bN,2,rfl,.inr (stT s' o),d,m.same s',(λe he=>?_),⟨_,rfl⟩,j8 (a p q),(λe he=>?_),by decide,?_⟩
 .obtain⟨r,_,rfl⟩:=mem_map.mp he;exact⟨_,rfl⟩
 .obtain⟨r,b,rfl⟩:=mem_map.mp he;exact⟨j8 (a r (Xx _ b)),Jk _ _⟩
 rw[Ls j];have c:=k1 p j I s';refine⟨_,rfl,?_⟩;cases hq:(cL L x).isSome with
 | true =>
  rw[hq] at c;exact c
 | false =>
  rw[hq] at c;exact c
end
def GP{a b:List Nat}(h:mkT a=mkT b):a=b:=by
 injection h with h;injection h with h;exact Array.mk.inj h
def T5(a b:List Nat):decide (mkT a=mkT b)=decide (a=b):=by
 by_cases h:a=b
 .subst h;simp
 .rw[Xp h];exact Xp λz=>h (GP z)
def Sh{xs:List V}{r:Nat}(h:r<=xs.length):vZ xs none (some (r:Int))=xs.take r:=by
 unfold vZ;rw[HT.wO,HT.sJ,Nat.min_eq_left h];simp
def Tz{xs:List V}{r:Nat}(h:r<=xs.length):vZ xs (some (r:Int)) none=xs.drop r:=by
 unfold vZ;rw[HT.wO,HT.sJ,Nat.min_eq_left h];exact take_of_length_le (by rw[length_drop];lia)
def KH(xs:List V)(n:Nat)(t:V)(h:n<xs.length):xs.take n++[t]++xs.drop (n+1)=xs.set n t:=by
 rw[List.set_eq_take_append_cons_drop,if_pos h,append_assoc]
 rfl
def gn:Sp:=λa H Q _=>∃(p:Addr)(us:List V)(n:Nat)(t:V),a=[.ref p,.int (n:Nat),t]/\H p=some (.tup us)/\n<us.length/\us.length<=900/\∀(q:Addr)(H':Hp),Same H H'->H' q=some (.tup (us.set n t))->Q (.ref q) H'
def cI(L:List Prt)(x:List Nat):Nat:=if (cL L x).isSome then 0 else 1
def gM(x:List Nat)(xs:Nms):inV (mkT x) (xs.map mkT)=decide (x∈xs):=by
 have e:xs.map mkT=(xs.map λx=>(⟨x.toArray⟩:Str)).map V.str:=by rw[map_map];rfl
 rw[e,Dv,Bool.eq_iff_iff,decide_eq_true_eq,decide_eq_true_eq];constructor
 .intro h;obtain⟨y,a,e⟩:=mem_map.mp h;have:y=x:=by injection e with e;exact Array.mk.inj e
  rw[← this];exact a
 .exact λh=>mem_map.mpr ⟨x,h,rfl⟩
def cR(xs:Nms):(xs.map mkT).all eX=true:=by
 rw[all_eq_true];intro v a;obtain⟨x,_,rfl⟩:=mem_map.mp a
 rfl
def mj(L:List Prt):cg L=(L.map (·.1)).map mkT:=by
 unfold cg;rw[map_map]
 rfl
def dI{L:List Prt}{x:List Nat}:(cL L x).isSome=decide (x∈L.map (·.1)):=by
 unfold cL;rw[Bool.eq_iff_iff,List.find?_isSome,decide_eq_true_eq,mem_map];exact⟨λ⟨p,b,a⟩=>⟨p,b,Xv a⟩,λ⟨p,b,a⟩=>⟨p,b,XD a⟩⟩
theorem Pn(x:List Nat):(⟨x.toArray⟩:Str).length=x.length:=by
 show x.toArray.size=_;rw[XM]
def lu{n:Nat}(h:n<=10000):n<=sizeLine:=Xz (show n<=1000000 by lia) iM
def Sv:Str.empty.length=0:=rfl
def Gi{c:String}{x:List Nat}(hx:x.length<=1000)(hc:(Str.ofString c).length<=100):((Str.empty++(⟨x.toArray⟩:Str))++Str.ofString c).length<=sizeLine:=by
 rw[strLen_append,strLen_append];have b:=Pn x;have a:=Sv;exact lu (by lia)
section
variable {Us Ur Uv:Addr}
def Aw:aU ["row","place","thing"] ["row","place","thing"] (aC j7):=⟨rfl,rfl,rfl,by decide +kernel,rfl,by decide +kernel,by decide +kernel⟩
def Ba(h:Has K mg "replaced" j7 ["row","place","thing"])  : Cal P w K mg base "replaced" 1 ["row","place","thing"] gn:=by
 refine h.mk' Aw (λJ H Q E d=>?_) (λf N A outer s H J Q E S d=>?_)
 .obtain⟨p,a,n,t,rfl,_⟩:=d
  rfl
 obtain⟨p,a,n,t,rfl,q,z,T,k⟩:=d;refine⟨_,(aB (aW (bB gF (bB gF (gD xJ (pv 0) jy (iu (pv 1))) (bQ (aj (pv 2) aq))) (gD xJ (pv 0) (iu (bB gk (pv 1) aA)) jy)))),?_⟩;refine⟨_,rfl,_,rfl,_,rfl,p,a,rfl,q,λF o O m=>?_⟩;rw[Sh (by lia)] at m;refine⟨_,rfl,smn 1,λc j=>?_⟩;have i:=ao j (.tup [t]);have x:(upd o c (.tup [t])) c=some (.tup [t]):=ak;generalize upd o c (.tup [t])=R at i x ⊢;refine⟨F,c,_,_,rfl,rfl,i _ _ m,x,small (by rw[length_take];show _+1<=1000;lia),λy U M L=>?_⟩;have b:=(O.trans i).trans M;refine⟨_,rfl,_,rfl,_,_,rfl,rfl,_,rfl,p,a,rfl,b _ _ q,λv I u D=>?_⟩;have g:I v=some (.tup (a.drop (n+1))):=by
  have e:vZ a (some (((n:Nat):Int)+1)) none=a.drop (n+1):=Tz (r:=n+1) (by lia);rw[← e];exact D
 refine⟨y,v,_,_,rfl,rfl,u _ _ L,g,small (by rw[Xr,length_take,length_drop];show _+1+_<=1000;lia),λC G B l=>?_⟩;rw[KH _ _ _ z] at l;exact k C G ((b.trans u).trans B) l
end
def iy(L:List Prt)(x:List Nat):Nat:=if (cL L x).isSome then 0 else 1
def eE(L:List Prt)(ks:List Lnk)(x:List Nat):Option Lnk:=ks.find? λk=>decide (x∈dR (iy L x) k)
def rA(K:W.Frag)(C:Addr):Sp:=λa H Q E=>∃(v:V)(L R:List Prt)(ks:List Lnk)(al:Nms)(x:List Nat),a=[v,mkT x]/\jk K H v L R ks al/\L.length<=60/\R.length<=60/\x.length<=1000/\(∀ p∈L++R,p.2.2.length<=1000) /\
 (∀ p,cL (L++R) x=some p->(∀ k,eE L ks x=some k->∀(u:V)(H':Hp),Same H H'->Den H' u (aX k)->Q u H')/\(eE L ks x=none->∀(H':Hp),Same H H'->Q .non H'))/\(cL (L++R) x=none->cP C H E)
section
variable {Us:Addr}
def sV:aU ["book","name","side","link"] ["book","name"] (aC qT):=⟨rfl,rfl,rfl,by decide +kernel,rfl,by decide +kernel,by decide +kernel⟩
def FQ(h:Has K mg "link_of" qT ["book","name"])(U8:jj P w K mg base "side_of" 2 ["book","name"] (qZ K Us)):jj P w K mg base "link_of" 3 ["book","name"] (rA K Us):=by
 refine h.mk1 sV (λvs H Q E hs=>?_) (λf a6 A outer s H vs Q E hr hs=>?_)
 .obtain⟨v,L,R,ks,al,x,rfl,_⟩:=hs
  rfl
 obtain⟨v,L,R,ks,al,x,rfl,hv,hlL,Z,N,J,k1,k2⟩:=hs;refine⟨_,(au (aL (i:=2) sV.nd rfl (Or.inl rfl) (dZ U8 hr (by decide) rfl fY (aj (pv 0) (aj (pv 1) aq))))
  (au (dJ PassesOwn.leaving rfl (Ey (bA lM (pv 0) aA (λ_ _=>rfl))) (aK (i:=3) sV.nd rfl (Or.inl rfl))
   (aB (cB (aQ vg (pv 1) (bA lM (pv 3) (pv 2) (λ_ _=>rfl)) (by with_unfolding_all rfl))
   (aB (aW (pv 3)))
   bf)))
  (aB (aW dF)))),?_⟩
 refine⟨_,rfl,_,rfl,v,L,R,ks,al,x,rfl,hv,hlL,Z,N,J,λp hp H' s'=>?_,λz=>(k2 z).out⟩;obtain⟨ae,W⟩:=k1 p hp;obtain⟨pb,pl,pr,D,pa,ls,rs,ws,rfl,af,aS,aI,ay,az,t,o,aw⟩:=hv;have S:atI [V.ref pl,V.ref pr,V.ref D,V.ref pa] 2=some (.ref D):=aZ (xs:=[V.ref pl,V.ref pr,V.ref D,V.ref pa]) (j:=2) rfl;have ab:(if (cL L x).isSome=true then (0:Int) else 1)=(iy L x:Nat):=by
  unfold iy;cases(cL L x).isSome <;> rfl
 rw[ab];have ad:iy L x<=1:=by
  unfold iy;cases(cL L x).isSome <;> decide
 have r:eE L ks x=ks.find? λk=>decide (x∈dR (iy L x) k):=rfl
 generalize iy L x=n at *;have C:=o.len;rw[XF] at C;refine⟨_,rfl,pb,_,_,_,rfl,rfl,(stT s' af),S,D,rfl,⟨_,stT s' t⟩,?_⟩;refine iQ (K:=K) (a:=D) (xs:=ws) (λi σ l=>∃ U:Option V,σ=[some (.ref pb),some (mkT x),some (.int (n:Nat)),U]/\Same H l/\∀ k∈ks.take i,decide (x∈dR n k)=false) ⟨_,rfl,s',λk F=>by rw[take_zero] at F;cases F⟩ ?_ ?_ ?_
 .rintro i σ l _ ⟨_,_,g,_⟩;exact stT g t
 .rintro i y σ l hi ⟨U,rfl,g,d⟩;have e:i<ks.length:=by
   have:=(pN.mp hi).1;lia
  obtain⟨dd,q,dy⟩:=o.at_ hi;rw[XC,n6 e] at q;have O:aX ks[i]=dd:=Xn q;subst O;have u:ks.take (i+1)=ks.take i++[ks[i]]:=by
   rw[take_add_one,n6 e]
   rfl
  have c:decide (x∈dR n ks[i])=true->eE L ks x=some ks[i]:=λh=>r.trans (lJ e d h)
  generalize ks[i]=k at dy u c;have B:=dy.same g;obtain⟨b,I,p1,p3,p4,p5,a1,a8,rfl,hb,h0,X,h1,T,h3,h4,h5⟩:=rB B;rw[Cd X] at h0;rw[Cd T] at h1;obtain⟨G,Y,M⟩:∃ G,atI [V.ref I,V.ref p1,V.int k.2.2.1,V.ref p3] (n:Nat)=some (.ref G)/\l G=some (.tup ((dR n k).map mkT)):=by
   match n,ad with
   | 0,_=>exact⟨I,bF _ _,h0⟩
   | 1,_=>exact⟨p1,aZ (xs:=[V.ref I,V.ref p1,V.int k.2.2.1,V.ref p3]) (j:=1) rfl,h1⟩
  refine gN ⟨_,rfl,_,rfl,_,rfl,b,_,_,_,rfl,rfl,SqT.of hb,Y,G,_,rfl,.inr (SqT.of M),rfl,cR _,_,rfl,?_⟩;rw[show(if false=true then !inV (mkT x) ((dR n k).map mkT) else inV (mkT x) ((dR n k).map mkT))=inV (mkT x) ((dR n k).map mkT) from rfl,gM];tm_at"d"
  .exact⟨_,rfl,ae k (c z) _ _ g B⟩
  .refine⟨_,rfl,g,λk' m=>?_⟩;rw[u] at m;rcases mem_append.mp m with h | h
   .exact d k' h
   .rw[mem_singleton.mp h];exact Bool.eq_false_iff.mpr z
 .rintro σ l ⟨U,rfl,g,d⟩;have hn:eE L ks x=none:=r.trans (find?_eq_none.mpr λk F=>by
   have:=d k (by rw[C,take_length];exact F);rw[this];decide)
  exact W hn l g
end
noncomputable def neD:Option Lnk->Option Lnk->Bool
 | none,none=>false
 | some a,some b=>!eqD (aX a) (aX b)
 | _,_=>true
def LkV(H:Hp)(u:V):Option Lnk->Prop
 | none=>u=.non
 | some k=>Den H u (aX k)
def LkV.same{H H':Hp}{u:V}{o:Option Lnk}(h:LkV H u o)(s:Same H H'):LkV H' u o:=by
 cases o with
 | none=>exact h
 | some k=>exact Den.same s h
def pR{L:List Prt}{ks:List Lnk}{x:List Nat}{k:Lnk}(h:eE L ks x=some k):k∈ks:=List.mem_of_find?_eq_some h
def Qg{x y:V}{H:Hp}{Q:VK}{a b:Option Lnk}(hx:LkV H x a)(hy:LkV H y b)(sa:∀ k,a=some k->dz 50 (aX k))(sb:∀ k,b=some k->dz 50 (aX k))(q:Q (.bl (neD a b)) H):RG x y H Q:=by
 cases a with
 | none=>cases b with
  | none=>exact .inl ⟨hx,hy,q⟩
  | some k=>exact .inr (.inl ⟨hx,⟨_,hy⟩,q⟩)
 | some j=>cases b with
  | none=>exact .inr (.inr (.inl ⟨hy,⟨_,hx⟩,q⟩))
  | some k=>exact .inr (.inr (.inr ⟨_,_,49,hx,hy,sa j rfl,sb k rfl,by decide,m8 j k,q⟩))
def LkS(k:Lnk):Prop:=k.1.length<=1000/\k.2.1.length<=1000/\k.2.2.2.1.length<=1000/\k.2.2.2.2.length<=1000
def jN{k:Lnk}(h:LkS k):dz 3 (aX k):=by
 obtain⟨e,c,b,a⟩:=h;refine cY (by simp) λd hd=>?_
 simp only[mem_cons,not_mem_nil,or_false] at hd;rcases hd with rfl | rfl | rfl | rfl
 .exact(gq e).up
 .exact(gq c).up
 .exact(rJ _).up.up
 .refine cY (by simp) λd hd=>?_
  simp only[mem_cons,not_mem_nil,or_false] at hd;rcases hd with rfl | rfl
  .exact j9 b
  .exact j9 a
def LkC(d:D):Prop:=∃ k:Lnk,d=aX k/\LkS k
def Mg(k:Lnk):Pl (aX k):=by
 unfold aX fM FZ;exact⟨oV (f:=sD) (λ_=>trivial) _,oV (f:=sD) (λ_=>trivial) _,trivial,⟨oV (f:=D.int) (λ_=>trivial) _,oV (f:=D.int) (λ_=>trivial) _,trivial⟩,trivial⟩
def SQ:KCls LkC 3:=⟨λd ⟨k,e,_⟩=>by rw[e];exact Mg k,λd ⟨k,e,h⟩=>by rw[e];exact jN h,λd e ⟨k,a,_⟩ ⟨j,b,_⟩=>by rw[a,b];exact m8 k j,by decide⟩
def J2(ks:List Lnk):Hom (ks.map aX):=by
 refine⟨λa c b e=>?_,.inr (.inr λd hd=>?_)⟩
 .obtain⟨x,_,rfl⟩:=mem_map.mp c;obtain⟨y,_,rfl⟩:=mem_map.mp e;exact m8 x y
 .obtain⟨x,_,rfl⟩:=mem_map.mp hd;exact⟨_,_,rfl⟩
def S7:Sp:=λa H Q _=>∃(p:Addr)(ms:List Int)(t:Int),a=[.ref p,.int t]/\H p=some (.tup (ms.map V.int))/\ms.Pairwise (· < ·)/\ms.length<=60/\∀(q:Addr)(rs:List Int)(H':Hp),Same H H'->H' q=some (.tup (rs.map V.int))->rs.Pairwise (· < ·)->(∀ k,k∈rs↔k∈ms\/k=t)->Q (.ref q) H'
def Ub:Sp:=λa H Q _=>∃(p:Addr)(xs:Nms)(x:List Nat),a=[.ref p,mkT x]/\H p=some (.tup (xs.map mkT))/\xs.Nodup/\x ∉ xs/\xs.length<=60/\∀(q:Addr)(ys:Nms)(H':Hp),Same H H'->H' q=some (.tup (ys.map mkT))->ys.Perm (x::xs)->UpD (ys.map sD)->Q (.ref q) H'
def Tn:Sp:=λa H Q _=>∃(p:Addr)(as:List Addr)(v:Addr)(ks:List Lnk)(j:Lnk),a=[.ref p,.ref v]/\H p=some (.tup (as.map V.ref))/\bW H (as.map V.ref) (ks.map aX)/\Den H (.ref v) (aX j)/\(∀ k∈ks++[j],LkS k)/\((ks++[j]).map aX).Nodup/\ks.length<=60/\∀(q:Addr)(us:List V)(ms:List Lnk)(H':Hp),Same H H'->H' q=some (.tup us)->bW H' us (ms.map aX)->ms.Perm (ks++[j])->UpD (ms.map aX)->Q (.ref q) H'
def xT(w:World):Sp:=λa H Q E=>S7 a H Q E\/Ub a H Q E\/Tn a H Q E
def Rz:Sp:=λa H Q _=>∃(p:Addr)(xs:Nms)(x:List Nat),a=[.ref p,mkT x]/\H p=some (.tup (xs.map mkT))/\xs.length<=900/\∀(q:Addr)(H':Hp),Same H H'->H' q=some (.tup ((xs.filter λy=>decide (y≠x)).map mkT))->Q (.ref q) H'
noncomputable def woL(ks:List Lnk)(o:Option Lnk):List Lnk:=ks.filter λk=>neD (some k) o
def QX:Sp:=λa H Q _=>∃(p:Addr)(us:List V)(v:V)(ks:List Lnk)(o:Option Lnk),a=[.ref p,v]/\H p=some (.tup us)/\bW H us (ks.map aX)/\LkV H v o/\(∀ k∈ks,LkS k)/\(∀ k,o=some k->LkS k)/\ks.length<=900/\∀(q:Addr)(ws:List V)(H':Hp),Same H H'->H' q=some (.tup ws)->bW H' ws ((woL ks o).map aX)->Q (.ref q) H'
def Fd:Sp:=λa H Q E=>Rz a H Q E\/QX a H Q E
theorem Et{H:Hp}:∀ {us:List V}{ks:List Lnk},bW H us (ks.map aX)->∃ as:List Addr,us=as.map V.ref
 | [],[],_=>⟨[],rfl⟩
 | _::_,_::_,h=>by
  obtain⟨p,b,e,_⟩:=aO h.1;obtain⟨as,a⟩:=Et h.2;exact⟨p::as,by rw[e,a];rfl⟩
 | [],_::_,h=>h.elim
 | _::_,[],h=>h.elim
def mV(xs:Nms):xs.map mkT=(xs.map λx=>(⟨x.toArray⟩:Str)).map V.str:=by rw[map_map];rfl
def Ks(xs:Nms):(xs.map λx=>(⟨x.toArray⟩:Str)).map D.str=xs.map sD:=by rw[map_map];rfl
def str_inj{a b:List Nat}(h:(⟨a.toArray⟩:Str)=⟨b.toArray⟩):a=b:=by
 injection h with h;exact Array.mk.inj h
def DP:aU ["row","thing"] ["row","thing"] (aC m7):=⟨rfl,rfl,rfl,by decide +kernel,rfl,by decide +kernel,by decide +kernel⟩
def zZ(h:Has K mg "with_one" m7 ["row","thing"])(Ux:mg "tuple" = none)(UL:mg "sorted" = none)(VF:mg "set" = none):Cal P w K mg base "with_one" 1 ["row","thing"] (xT w):=by
 refine h.mk' DP (λvs H Q E hs=>?_) (λf az A outer s H vs Q E hr hs=>?_)
 .rcases hs with⟨p,I,t,rfl,_⟩ | ⟨p,I,t,rfl,_⟩ | ⟨p,as,v,ks,j,rfl,_⟩ <;> rfl
 refine⟨_,(aB (aW (aP aM rfl Ux boot_tuple (aj (aR (u5 SQ (w:=w) rfl rfl hr.units) rfl UL boot_sorted (aj (aP (Gp SQ (w:=w) rfl rfl hr.units) rfl VF boot_set (aj (bB gF (pv 0) (bQ (aj (pv 1) aq))) aq)) aq)) aq)))),?_⟩;rcases hs with⟨p,I,t,rfl,S,hu,u,k⟩ | ⟨p,xs,x,rfl,S,F,Z,u,k⟩ | ⟨p,as,v,ks,j,rfl,S,hd,hv,hS,F,u,k⟩
 .refine⟨_,rfl,_,rfl,smn 1,λc n=>?_⟩;have o:=ao n (.tup [.int t]);have z:(upd H c (.tup [.int t])) c=some (.tup [.int t]):=ak;generalize upd H c (.tup [.int t])=H1 at o z ⊢;refine⟨p,c,_,_,rfl,rfl,o _ _ S,z,small (by rw[XF];show _+1<=1000;lia),λB J T O=>?_⟩;have m:J B=some (.tup ((I++[t]).map V.int)):=by rw[O,map_append];rfl
  refine .inl ⟨B,I++[t],rfl,SqT.of m,by rw[Xr];show _+1<=1001;lia,λa ns G hn hi ad=>?_⟩;rw[Xr] at ad;refine .inl ⟨a,ns,rfl,ak,(by have:[t].length=1:=rfl;lia),λl W u i g=>?_⟩;refine⟨l,_,rfl,.inl ⟨SqL.of ak,λq C=>?_⟩⟩;have X:W.Pairwise (· < ·):=by
   have:=List.Pairwise.and g (nodup_iff_pairwise_ne.mp (i.nodup_iff.mpr hn));exact this.imp fun {x y} h=>by lia
  exact k q W _ ((((o.trans T).trans (ao G _)).trans (ao u _)).trans (ao C _)) ak X λk=>(i.mem_iff).trans ((hi k).trans (by rw[mem_append,mem_singleton]))
 .refine⟨_,rfl,_,rfl,smn 1,λc n=>?_⟩;have o:=ao n (.tup [mkT x]);have z:(upd H c (.tup [mkT x])) c=some (.tup [mkT x]):=ak;generalize upd H c (.tup [mkT x])=H1 at o z ⊢;refine⟨p,c,_,_,rfl,rfl,o _ _ S,z,small (by rw[XF];show _+1<=1000;lia),λB J T O=>?_⟩;have m:J B=some (.tup (((xs++[x]).map λx=>(⟨x.toArray⟩:Str)).map V.str)):=by rw[O,← mV,map_append];rfl
  have L:(xs++[x]).Nodup:=by
   rw[nodup_append];exact⟨F,by simp,λa G b hb=>by rw[mem_singleton.mp hb];exact λe=>Z (e ▸ G)⟩
  refine .inr (.inl ⟨B,_,rfl,SqT.of m,?_,by rw[XF,Xr];show _+1<=900;lia,λa G=>?_⟩)
  .rw[nodup_iff_pairwise_ne,pairwise_map];exact(nodup_iff_pairwise_ne.mp L).imp fun {a b} h e=>h (str_inj e)
  refine .inr (.inl ⟨a,_,rfl,ak,by rw[XF,Xr];show _+1<64;lia,λl W u i g=>?_⟩);obtain⟨ys,U,aa⟩:=ST.dg i.symm rfl;subst aa;refine⟨l,_,rfl,.inl ⟨SqL.of ak,λq C=>?_⟩⟩;rw[Ks] at g;refine k q ys _ ((((o.trans T).trans (ao G _)).trans (ao u _)).trans (ao C _)) ?_ (U.trans (by simpa using(List.perm_append_comm (l₁:=xs) (l₂:=[x])))) g;rw[ak,mV]
 .refine⟨_,rfl,_,rfl,smn 1,λc n=>?_⟩;have o:=ao n (.tup [.ref v]);have z:(upd H c (.tup [.ref v])) c=some (.tup [.ref v]):=ak;generalize upd H c (.tup [.ref v])=H1 at o z ⊢;refine⟨p,c,_,_,rfl,rfl,o _ _ S,z,small (by have:=hd.len;rw[XF,XF] at this;rw[XF];show _+1<=1000;lia),λB J T O=>?_⟩;have D:=o.trans T;have m:J B=some (.tup ((as++[v]).map V.ref)):=by rw[O,map_append];rfl
  have M:bW J ((as++[v]).map V.ref) ((ks++[j]).map aX):=by
   rw[map_append,map_append];exact dU (hd.same D) ⟨hv.same D,trivial⟩
  have N:∀ d∈(ks++[j]).map aX,LkC d:=λd hd=>by
   obtain⟨q,C,rfl⟩:=mem_map.mp hd;exact⟨q,rfl,hS q C⟩
  have r:((ks++[j]).map aX).length=ks.length+1:=by rw[XF,Xr];rfl
  refine .inr (.inr ⟨B,as++[v],_,rfl,SqT.of m,M,N,F,by rw[r];lia,λa G=>?_⟩);have s3:=ao G (.ext (nestΦ w a (((ks++[j]).map aX).zip (as++[v]))));refine .inr (.inr ⟨a,as++[v],_,rfl,ak,M.same s3,N,J2 _,by rw[r];lia,λl Y ds u i g R=>?_⟩);obtain⟨I,ab,rfl⟩:=ST.dg i.symm rfl;refine⟨l,_,rfl,.inl ⟨SqL.of ak,λq C=>?_⟩⟩;have s4:=(ao u (.lst Y)).trans (ao C (.tup Y));exact k q Y I _ ((D.trans s3).trans s4) ak (R.same s4) ab g
def Bc:aU ["row","thing"] ["row","thing"] (aC jY):=⟨rfl,rfl,rfl,by decide +kernel,rfl,by decide +kernel,by decide +kernel⟩
def Cu(h:Has K mg "without" jY ["row","thing"])(Ux:mg "tuple" = none):Cal P w K mg base "without" 1 ["row","thing"] Fd:=by
 refine h.mk' Bc (λvs H Q E Y=>?_) (λf ag A outer s H vs Q E hr Y=>?_)
 .rcases Y with⟨p,xs,x,rfl,_⟩ | ⟨p,O,v,ks,o,rfl,_⟩ <;> rfl
 refine⟨_,(aB (aW (aP aM rfl Ux boot_tuple (aj (cH ["row","thing"] (aC jY) ["thing","each"] [some 1,none] rfl rfl rfl (cJ (pv 0)) rfl (by decide +kernel) (by decide +kernel) (by decide +kernel) (by decide +kernel) (hg:=λcl C s H ex pn E=>(aK (i:=1) (by decide +kernel:(["thing","each"]:List Str).Nodup) rfl (Or.inl rfl))) (ht:=λcl C s H ex pn E=>(j5 (aQ (Oq hr.units) (pv 1) (pv 0) (bC _)))) (he:=λcl C s H ex pn E=>(pv 1))) aq)))),?_⟩;rcases Y with⟨p,xs,x,rfl,r,hl,k⟩ | ⟨p,O,v,ks,o,rfl,r,hd,hv,hS,T,hl,k⟩
 .refine⟨_,rfl,p,rfl,⟨_,SqT.of r⟩,λB g=>?_⟩;refine cA (J:=Itt K0 p) (l:=B) xs.length (λi t j=>∃ v:Option V,t=[some (mkT x),v]/\Same H j/\j B=some (.lst (((xs.take i).filter λy=>decide (y≠x)).map mkT))) ⟨none,rfl,ao g _,ak⟩ ?_ ?_
  .rintro t j ⟨v,rfl,c,e⟩;rw[take_length] at e;refine⟨⟨_,SqT.of (c _ _ r),by rw[XF];exact ql _⟩,B,_,rfl,.inl ⟨SqL.of e,λq S=>?_⟩⟩;exact k q _ (c.trans (ao S _)) ak
  .rintro i t j D ⟨v,rfl,c,e⟩;have I:(xs.map mkT)[i]?=some (mkT xs[i]):=by rw[XC,bK D];rfl
   refine⟨⟨_,_,SqT.of (c _ _ r),I⟩,?_⟩;rintro N G y aa ⟨rfl,X⟩;have R:y=mkT xs[i]:=Xn ((X _ (SqT.of (c _ _ r))).symm.trans I);have d:=take_one (bK D);generalize xs[i]=z at R d;subst R;refine gN ⟨_,rfl,_,rfl,.inl ⟨rfl,_,rfl,?_⟩⟩;rw[T5];refine dO (λhz=>?_) (λhz=>?_)
   .have hz:z≠x:=by simpa using hz
    refine⟨_,rfl,_,e,aH ?_,G _ _ ⟨_,rfl,bO c g,?_⟩⟩
    .rw[XF];refine Xz (length_filter_le _ _) ?_;rw[length_take];lia
    .rw[ak,d,filter_append,map_append,filter_cons_of_pos (by simpa using hz)]
     rfl
   .have hz:z=x:=by simpa using hz
    refine G _ _ ⟨_,rfl,c,?_⟩;rw[e,d,filter_append,filter_cons_of_neg (by simpa using hz),filter_nil,append_nil]
 .have F:=hd.len;rw[XF] at F;refine⟨_,rfl,p,rfl,⟨_,SqT.of r⟩,λB g=>?_⟩;refine cA (J:=Itt K0 p) (l:=B) O.length (λi t j=>∃(x:Option V)(m:List V),t=[some v,x]/\Same H j/\j B=some (.lst m)/\m.length<=i/\bW j m ((woL (ks.take i) o).map aX)) ⟨none,[],rfl,ao g _,ak,ql _,trivial⟩ ?_ ?_
  .rintro t j ⟨x,m,rfl,c,e,Z,L⟩;rw[F,take_length] at L;refine⟨⟨_,SqT.of (c _ _ r),ql _⟩,B,_,rfl,.inl ⟨SqL.of e,λq S=>?_⟩⟩;exact k q m _ (c.trans (ao S _)) ak (L.same (ao S _))
  .rintro i t j D ⟨x,m,rfl,c,e,Z,L⟩;have u:i<ks.length:=by lia
   refine⟨⟨_,_,SqT.of (c _ _ r),bK D⟩,?_⟩;rintro N G y aa ⟨rfl,X⟩;have R:y=O[i]:=Xn ((X _ (SqT.of (c _ _ r))).symm.trans (bK D));have W:Den H O[i] (aX ks[i]):=at_of hd (bK D) (by rw[XC,bK u];rfl);have d:=take_one (bK u);have hSi:=hS _ (getElem_mem u);rw[← R] at W;generalize ks[i]=z at W d hSi;have M:=W.same c;refine gN ⟨_,rfl,_,rfl,.inr (Qg (a:=some z) (b:=o) M (hv.same c) (λk U=>by cases U;exact cZ (n:=3) (jN hSi) 47) (λk U=>cZ (n:=3) (jN (T k U)) 47) ⟨_,rfl,?_⟩)⟩;refine dO (λhz=>?_) (λhz=>?_)
   .refine⟨_,rfl,m,e,aH (by lia),G _ _ ⟨_,m++[y],rfl,bO c g,ak,by rw[Xr,length_singleton];lia,?_⟩⟩;rw[d];unfold woL;rw[filter_append,filter_cons_of_pos (by exact hz),filter_nil,map_append];exact dU (L.keepT (j4 e)) ⟨M.keepT (j4 e),trivial⟩
   .refine G _ _ ⟨_,m,rfl,c,e,by lia,?_⟩;rw[d];unfold woL;rw[filter_append,filter_cons_of_neg (by exact hz),filter_nil,append_nil];exact L
def vP{H:Hp}{q pl pr pk pa:Addr}{ls rs us:List V}{L R:List Prt}{ks:List Lnk}{al:Nms}(hq:H q=some (.tup [.ref pl,.ref pr,.ref pk,.ref pa]))(hl:H pl=some (.tup ls))(dl:bW H ls (L.map bN))(hr:H pr=some (.tup rs))(dr:bW H rs (R.map bN))(hk:H pk=some (.tup us))(dk:bW H us (ks.map aX))(ha:H pa=some (.tup (al.map mkT))):Den H (.ref q) (fG L R ks al) :=
 ⟨q,_,rfl,hq,⟨pl,ls,rfl,hl,dl⟩,⟨pr,rs,rfl,hr,dr⟩,⟨pk,us,rfl,hk,dk⟩,⟨pa,_,rfl,ha,dB _ al⟩,trivial⟩
def K5(ks:List Lnk)(o:Option Lnk):(woL ks o).length<=ks.length:=length_filter_le _ _
def wZ{ks:List Lnk}{o:Option Lnk}{k:Lnk}(h:k∈woL ks o):k∈ks:=(mem_filter.mp h).1
def RelK(ks ks':List Lnk)(o:Option Lnk):Option Lnk->Prop
 | none=>ks'=woL ks o
 | some j=>ks'.Perm (woL ks o++[j])/\UpD (ks'.map aX)
def jc:Sp:=λc H Q _=>∃(v a b:V)(L R:List Prt)(ks:List Lnk)(al:Nms)(o n:Option Lnk),c=[v,a,b]/\Den H v (fG L R ks al)/\LkV H a o/\LkV H b n/\(∀ k∈ks,LkS k)/\(∀ k,o=some k->LkS k)/\(∀ k,n=some k->LkS k)/\ks.length<=60/\(∀ j,n=some j->((woL ks o++[j]).map aX).Nodup) /\
 ∀(u:V)(ks':List Lnk)(H':Hp),Same H H'->Den H' u (fG L R ks' al)->RelK ks ks' o n->Q u H'
def lC:aU ["book","old","new","links"] ["book","old","new"] (aC jQ):=⟨rfl,rfl,rfl,by decide +kernel,rfl,by decide +kernel,by decide +kernel⟩
def zX(h:Has K mg "relinked" jQ ["book","old","new"])(Vh:Cal P w K mg base "without" 1 ["row","thing"] Fd)(U9:Cal P w K mg base "with_one" 1 ["row","thing"] (xT w))(U3:Cal P w K mg base "replaced" 1 ["row","place","thing"] gn):Cal P w K mg base "relinked" 2 ["book","old","new"] jc:=by
 refine h.mk' lC (λvs H Q E U=>?_) (λf aI A outer s H vs Q E O U=>?_)
 .obtain⟨v,a,b,L,R,ks,al,o,n,rfl,_⟩:=U
  rfl
 obtain⟨v,a,b,L,R,ks,al,o,n,rfl,hv,ha,N,Y,l,D,hl,J,k⟩:=U;refine⟨_,(au (aL (i:=3) lC.nd rfl (Or.inl rfl) (aN Vh O (by decide) rfl (aj (bA bG (pv 0) aA (λ_ _=>rfl)) (aj (pv 1) aq))))
  (au (cB (aQ qX (pv 2) dF (bC _))
   (aB (aL (i:=3) lC.nd rfl (Or.inl rfl) (aN U9 O (by decide) rfl (aj (pv 3) (aj (pv 2) aq)))))
   bf)
  (aB (aW (aN U3 O (by decide) rfl (aj (pv 0) (aj aA (aj (pv 3) aq)))))))),?_⟩
 obtain⟨p,pl,pr,pk,pa,ls,rs,us,rfl,hp,G,C,t,x,M,u,m⟩:=jR hv;have y:=aZ (xs:=[V.ref pl,V.ref pr,V.ref pk,V.ref pa]) (j:=2) rfl;refine⟨_,rfl,ixT (p:=p) rfl rfl (SqT.of hp) (y) (⟨ _,rfl,.inr ⟨pk,us,a,ks,o,rfl,M,u,ha,Y,l,by lia,λq ws H1 F Z S=>?_⟩⟩)⟩;have rep:∀(r:Addr)(ys:List V)(ks':List Lnk)(e:Hp),Same H e->e r=some (.tup ys)->bW e ys (ks'.map aX)->RelK ks ks' o n->gn [.ref p,.int ((2:Nat):Int),.ref r] e Q E:=λr ys ks' e c B g hR =>
  ⟨p,_,2,.ref r,rfl,c _ _ hp,by show 2<4;lia,by show 4<=900;lia,λq H3 d e3=>k (.ref q) ks' H3 (c.trans d) (vP e3 ((c.trans d) _ _ G) (C.same (c.trans d)) ((c.trans d) _ _ t) (x.same (c.trans d)) (d _ _ B) (g.same d) ((c.trans d) _ _ m)) hR⟩
 cases n with
 | none =>
  have eb:b=.non:=N;subst eb;refine⟨_,rfl,rfl,_,rfl,?_⟩;refine dO (λz=>?_) (λ_=>?_)
  .cases z
  exact⟨_,rfl,_,rfl,rep q ws _ H1 F Z S rfl⟩
 | some j =>
  obtain⟨X,vj,rfl,ar,dj⟩:=aO N;have T:Den H1 (.ref X) (aX j):=Den.same F N;refine⟨_,rfl,rfl,_,rfl,lQ ?_⟩;obtain⟨as,rfl⟩:=Et S;refine⟨_,rfl,_,rfl,.inr (.inr ⟨q,as,X,woL ks o,j,rfl,Z,S,T,λk hk=>?_,J j rfl,Xz (K5 _ _) hl,λr ys ms e c B g W I=>?_⟩)⟩
  .rcases mem_append.mp hk with z | z
   .exact Y k (wZ z)
   .rw[mem_singleton.mp z];exact D j rfl
  .exact⟨_,rfl,_,rfl,rep r ys ms e (F.trans c) B g ⟨W,I⟩⟩
def SmB(L R:List Prt):Prop:=L.length<=60/\R.length<=60/\∀ p∈L++R,p.2.2.length<=1000
def c5(a b c d e:Addr):Nat->Addr
 | 0=>a
 | 1=>b
 | 2=>c
 | 3=>d
 | _=>e
def isP(L R:List Prt)(x:List Nat):Bool:=(cL (L++R) x).isSome
def fX(L:List Prt)(ks:List Lnk)(al:Nms)(x:List Nat):Bool:=(eE L ks x).isNone && !decide (x∈al)
def nU{L R:List Prt}{x:List Nat}{p:Prt}(h:cL (L++R) x=some p):isP L R x=true:=by unfold isP;rw[h];rfl
def zG{L R:List Prt}{x:List Nat}(h:cL (L++R) x=none):isP L R x=false:=by unfold isP;rw[h];rfl
def wk(K:W.Frag)(C:Addr):Sp:=λb H Q E=>∃(v:V)(L R:List Prt)(ks:List Lnk)(al:Nms)(x:List Nat),b=[v,mkT x]/\jk K H v L R ks al/\SmB L R/\x.length<=1000 /\
 (isP L R x=true->∀ a,Same H a->Q (.bl (fX L ks al x)) a)/\(isP L R x=false->cP C H E)
def vR(K:W.Frag)(C C2:Addr):Sp:=λa H Q E=>∃(v:V)(L R:List Prt)(ks:List Lnk)(al:Nms)(x:List Nat),a=[v,mkT x]/\jk K H v L R ks al/\SmB L R/\x.length<=1000 /\
 (isP L R x=true->∀ k,eE L ks x=some k->∀(u:V)(H':Hp),Same H H'->Den H' u (aX k)->Q u H')/\(isP L R x=true->eE L ks x=none->cP C2 H E)/\(isP L R x=false->cP C H E)
def Kz{x:List Nat}(hx:x.length<=1000):(Str.empty++(⟨x.toArray⟩:Str)).length<=sizeLine:=by
 rw[strLen_append];have b:=Pn x;have a:=Sv;exact lu (by lia)
def mz(L R:List Prt)(ks:List Lnk)(al xs ys:Nms):Option Nat:=if (xs++ys).all (isP L R) then (if xs.any (cI L · != 0) || ys.any (cI L · != 1) then some 1 else if (xs++ys).all (fX L ks al) then none else some 3) else some 0
def qK(K:W.Frag)(C:Nat->Addr):Sp:=λb H Q E=>∃(v:V)(p q:Addr)(L R:List Prt)(ks:List Lnk)(al xs ys:Nms),b=[v,.ref p,.ref q]/\H p=some (.tup (xs.map mkT))/\H q=some (.tup (ys.map mkT))/\jk K H v L R ks al/\SmB L R/\(∀ x∈xs++ys,x.length<=400)/\xs.length<=100/\ys.length<=100/\(∀ e,mz L R ks al xs ys=some e->cP (C e) H E)/\(mz L R ks al xs ys=none->∀ a,Same H a->Q .non a)
def sdD(L:List Prt)(n:Int)(x:List Nat):D:=.tup [.int ((cI L x:Nat):Int),.int n]
def prs(xs ys:Nms):List (List Nat × Int):=xs.map (λx=>(x,0))++ys.map (λx=>(x,1))
def Mx(L:List Prt)(xs ys:Nms):(prs xs ys).map (λz=>sdD L z.2 z.1)=xs.map (sdD L 0)++ys.map (sdD L 1):=by
 unfold prs;rw[map_append,map_map,map_map]
 rfl
def MJ(L:List Prt)(z:List Nat × Int):Bool:=decide (((cI L z.1:Nat):Int)≠z.2)
def Ml(L:List Prt)(xs ys:Nms):(prs xs ys).any (MJ L)=(xs.any (cI L · != 0) || ys.any (cI L · != 1)):=by
 unfold prs;rw[List.any_append,any_map,any_map];congr 1
 .congr 1
  funext x
  show decide (((cI L x:Nat):Int)≠0)=(cI L x != 0);rw[Bool.eq_iff_iff,decide_eq_true_eq,bne_iff_ne];lia
 .congr 1
  funext x
  show decide (((cI L x:Nat):Int)≠1)=(cI L x != 1);rw[Bool.eq_iff_iff,decide_eq_true_eq,bne_iff_ne];lia
section
variable {Us Ur Uv Ut Uu:Addr}
def vO:aU ["book","name"] ["book","name"] (aC jd):=⟨rfl,rfl,rfl,by decide +kernel,rfl,by decide +kernel,by decide +kernel⟩
def vf(h:Has K mg "is_lacking" jd ["book","name"])(o:jj P w K mg base "link_of" 3 ["book","name"] (rA K Us)):jj P w K mg base "is_lacking" 4 ["book","name"] (wk K Us):=by
 refine h.mk1 vO (λO H Q E g=>?_) (λf T A outer s H O Q E F g=>?_)
 .obtain⟨v,L,R,ks,al,x,rfl,_⟩:=g
  rfl
 obtain⟨v,L,R,ks,al,x,rfl,n,⟨r,N,b⟩,X,k1,k2⟩:=g;refine⟨_,(aB (aW (Bd (eU qR (dZ o F (by decide) rfl fY (aj (pv 0) (aj (pv 1) aq))) dF (bC _)) (uR (eU gY (pv 1) (bA lM (pv 0) aA (λ_ _=>rfl)) (by with_unfolding_all rfl)))))),?_⟩;refine⟨_,rfl,_,rfl,v,L,R,ks,al,x,rfl,n,r,N,X,b,λp m=>⟨λk t u d a I=>?_,λB d a=>?_⟩,λz=>(k2 (zG z)).out⟩
 .have e:fX L ks al x=false:=by unfold fX;rw[t];rfl
  have k1:=k1 (nU m);rw[e] at k1;obtain⟨q,Z,rfl,_⟩:=aO I;refine⟨rfl,_,rfl,?_⟩;refine dO (λz=>?_) (λ_=>k1 d a);have:=Xv z;cases this
 .have e:fX L ks al x=!decide (x∈al):=by unfold fX;rw[B];rfl
  have k1:=k1 (nU m);rw[e] at k1;obtain⟨y,pl,D,W,l,ls,rs,Y,rfl,i,U,S,G,M,C,J,c⟩:=n;refine⟨rfl,_,rfl,lQ ?_⟩;refine⟨_,rfl,_,rfl,y,_,_,_,rfl,rfl,stT a i,aZ (xs:=[V.ref pl,V.ref D,V.ref W,V.ref l]) (j:=3) rfl,l,_,rfl,.inr (stT a c),rfl,cR _,?_⟩;rw[show(if true=true then !inV (mkT x) (al.map mkT) else inV (mkT x) (al.map mkT))=!inV (mkT x) (al.map mkT) from rfl,gM];exact k1 d a
def lV:aU ["book","name","link"] ["book","name"] (aC gA):=⟨rfl,rfl,rfl,by decide +kernel,rfl,by decide +kernel,by decide +kernel⟩
def qY(h:Has K mg "needed_link" gA ["book","name"])(M:mg "Apart" = some (.ref Uu))(x_Apart:W.excIn K Uu vBm "ValueError.__new__" = true)(o:jj P w K mg base "link_of" 3 ["book","name"] (rA K Us)):jj P w K mg base "needed_link" 4 ["book","name"] (vR K Us Uu):=by
 refine h.mk1 lV (λI H Q E g=>?_) (λf J A outer s H I Q E B g=>?_)
 .obtain⟨v,L,R,ks,al,x,rfl,_⟩:=g
  rfl
 obtain⟨v,L,R,ks,al,x,rfl,F,⟨r,G,c⟩,l,k0,k1,k2⟩:=g;refine⟨_,(au (aL (i:=2) lV.nd rfl (Or.inl rfl) (dZ o B (by decide) rfl fY (aj (pv 0) (aj (pv 1) aq))))
  (au (cB (aQ qR (pv 2) dF (bC _))
   (aB (jg rfl lE rfl M x_Apart (aj (rZ (iU (yj (pv 1)) (iU aF xZ))) aq)))
   bf)
  (aB (aW (pv 2))))),?_⟩
 have d:(⟨x.toArray⟩:Str).length<=sizeLine:=by rw[Pn];exact lu (by lia)
 have b:=Kz l;have a:((Str.empty++(⟨x.toArray⟩:Str))++Str.ofString " is in no link").length<=sizeLine:=Gi l (by decide +kernel);refine⟨_,rfl,_,rfl,v,L,R,ks,al,x,rfl,F,r,G,l,c,λp n=>⟨λk t u C j m=>?_,λy C j=>?_⟩,λz=>(k2 (zG z)).out⟩
 .obtain⟨q,N,rfl,_⟩:=aO m;refine⟨_,rfl,rfl,_,rfl,?_⟩;refine dO (λz=>?_) (λ_=>⟨_,rfl,k0 (nU n) k t _ _ j m⟩);have:=Xv z;cases this
 .refine⟨_,rfl,rfl,_,rfl,lQ ⟨_,rfl,.inl ⟨_,rfl,d,_,rfl,b,_,rfl,a,a,?_⟩⟩⟩;exact⟨smn 1,λe T he D=>((k1 (nU n) y).up j).made he D⟩
def iR:aU ["book","ones","others","sides"] ["book","ones","others"] (aC bU):=⟨rfl,rfl,rfl,by decide +kernel,rfl,by decide +kernel,by decide +kernel⟩
def mD(h:Has K mg "check_linkable" bU ["book","ones","others"])(Vj:mg "NoPlace" = some (.ref Ur))(x_NoPlace:PySem.W.excIn K Ur vBm "ValueError.__new__" = true)(U7:mg "Linked" = some (.ref Ut))(x_Linked:PySem.W.excIn K Ut vBm "ValueError.__new__" = true)(U8:jj P w K mg base "side_of" 2 ["book","name"] (qZ K Us))(U6:jj P w K mg base "is_lacking" 4 ["book","name"] (wk K Us))(V0:mg "any" = none)(VH:mg "all" = none):jj P w K mg base "check_linkable" 5 ["book","ones","others"] (qK K (c5 Us Ur Uv Ut Uu)):=by
 refine h.mk1 iR (λvs H Q E hs=>?_) (λf cs A outer s H vs Q E hr hs=>?_)
 .obtain⟨v,p,q,L,R,ks,al,xs,ys,rfl,_⟩:=hs
  rfl
 obtain⟨v,p,q,L,R,ks,al,xs,ys,rfl,hp,hq,hv,⟨h1,h2,af⟩,aa,ce,cb,am,kq⟩:=hs;refine⟨_,(au (aL (i:=3) iR.nd rfl (Or.inl rfl) (bB jw (uo JK rfl rfl ["book","ones","others","sides"] (aC bU) ["book","name"] [some 0,none] rfl rfl rfl (cJ (pv 1)) rfl (by decide +kernel) (by decide +kernel) (by decide +kernel) (by decide +kernel) (hg:=λcl C s H ex pn E=>(aK (i:=1) (by decide +kernel:(["book","name"]:List Str).Nodup) rfl (Or.inl rfl))) (ht:=λcl C s H ex pn E=>cu) (he:=λcl C s H ex pn E U=>(bQ (aj (dZ U8 hr (by decide) rfl U (aj (pv 0) (aj (pv 1) aq))) (aj aA aq))))) (uo JK rfl rfl ["book","ones","others","sides"] (aC bU) ["book","name"] [some 0,none] rfl rfl rfl (cJ (pv 2)) rfl (by decide +kernel) (by decide +kernel) (by decide +kernel) (by decide +kernel) (hg:=λcl C s H ex pn E=>(aK (i:=1) (by decide +kernel:(["book","name"]:List Str).Nodup) rfl (Or.inl rfl))) (ht:=λcl C s H ex pn E=>cu) (he:=λcl C s H ex pn E U=>(bQ (aj (dZ U8 hr (by decide) rfl U (aj (pv 0) (aj (pv 1) aq))) (aj aA aq)))))))
  (au (cB (jr (aR (uh rfl) rfl V0 boot_any (aj (cH ["book","ones","others","sides"] (aC bU) ["side","due"] [none,none] rfl rfl rfl (eG (pv 3)) rfl (by decide +kernel) (by decide +kernel) (by decide +kernel) (by decide +kernel) (g:=Rm K0 2 (Lb (tY 0) (Lb (tY 1) R7))) (hg:=λcl C s H ex pn E=>lA (n:=2) rfl (bH (aK (i:=0) (by decide +kernel:(["side","due"]:List Str).Nodup) rfl (Or.inl rfl) (Or.inr rfl)) (bH (aK (i:=1) (by decide +kernel:(["side","due"]:List Str).Nodup) rfl (Or.inl rfl) (Or.inr rfl)) jC))) (ht:=λcl C s H ex pn E=>cu) (he:=λcl C s H ex pn E=>(eU Fp (pv 0) (pv 1) (bC _)))) aq)))
   (aB (jg rfl lE rfl Vj x_NoPlace (aj aF aq)))
   bf)
  (aB (cB (uK (jr (aR (vo rfl) rfl VH boot_all (aj (cH ["book","ones","others","sides"] (aC bU) ["book","name"] [some 0,none] rfl rfl rfl (cJ (bB gF (pv 1) (pv 2))) rfl (by decide +kernel) (by decide +kernel) (by decide +kernel) (by decide +kernel) (hg:=λcl C s H ex pn E=>(aK (i:=1) (by decide +kernel:(["book","name"]:List Str).Nodup) rfl (Or.inl rfl))) (ht:=λcl C s H ex pn E=>cu) (he:=λcl C s H ex pn E=>(dZ U6 hr (by decide) rfl LC (aj (pv 0) (aj (pv 1) aq))))) aq))))
   (aB (jg rfl lE rfl U7 x_Linked (aj aF aq)))
   bf)))),?_⟩
 have t0:∀ x∈xs++ys,cL (L++R) x=none->cP Us H E:=λx U z=>am 0 (by
  unfold mz;rw[if_neg];intro B;have:=all_eq_true.mp B x U;rw[zG z] at this;cases this)
 have aT:∀ z:List Nat,((if (cL L z).isSome=true then (0:Int) else 1))=((cI L z:Nat):Int):=λz=>by unfold cI;cases(cL L z).isSome <;> rfl
 refine⟨_,rfl,p,rfl,⟨_,SqT.of hp⟩,λlc a4=>?_⟩;refine cA (J:=Itt K0 p) (l:=lc) xs.length (λi t j=>∃(n:Option V)(o:List V),t=[some v,n]/\Same H j/\j lc=some (.lst o)/\o.length=i/\(∀ x∈xs.take i,isP L R x=true)/\bW j o ((xs.take i).map (sdD L 0))) ⟨none,[],rfl,ao a4 _,ak,rfl,(λx U=>by rw[take_zero] at U;cases U),trivial⟩ ?_ ?_
 rotate_left
 .rintro i t j u ⟨n,o,rfl,X,e1,S,hPi,d1⟩;have k:(xs.map mkT)[i]?=some (mkT xs[i]):=by rw[XC,bK u];rfl
  have d:=X;refine⟨⟨_,_,SqT.of (d _ _ hp),k⟩,?_⟩;rintro N hN y ay ⟨rfl,hy⟩;have Y:y=mkT xs[i]:=Xn ((hy _ (SqT.of (d _ _ hp))).symm.trans k);have M:xs[i]∈xs++ys:=Xx _ (getElem_mem u);have c:=take_one (bK u);generalize xs[i]=x at Y M c;subst Y;refine gN (uH (lQ ?_));refine⟨_,rfl,_,rfl,v,L,R,ks,al,x,rfl,hv.same d,h1,h2,Xz (aa x M) (by decide),af,λp0 ax H2 O=>?_,λz=>((t0 x M z).up d).outV⟩;rw[aT];refine⟨smn 2,λpt ap=>?_⟩;have D:=ao ap (.tup [.int ((cI L x:Nat):Int),.int 0]);have G:(upd H2 pt (.tup [.int ((cI L x:Nat):Int),.int 0])) pt=some (.tup [.int ((cI L x:Nat):Int),.int 0]):=ak;generalize upd H2 pt (.tup [.int ((cI L x:Nat):Int),.int 0])=H3 at D G ⊢;have F:=D _ _ (O _ _ e1);refine⟨o,F,aH (by lia),hN _ _ ⟨_,o++[.ref pt],rfl,bO (X.trans (O.trans D)) a4,ak,by rw[Xr,S];rfl,?_,?_⟩⟩
  .intro x' I;rw[c] at I;rcases mem_append.mp I with z | z
   .exact hPi x' z
   .rw[mem_singleton.mp z];exact nU ax
  rw[c,map_append];exact dU ((d1.same (O.trans D)).keepT (j4 F)) ⟨⟨pt,_,rfl,j4 F _ _ G,rfl,rfl,trivial⟩,trivial⟩
 rintro t H1 ⟨n,o,rfl,X,e1,S,ai,d1⟩;rw[take_length] at d1 ai;refine⟨⟨_,SqT.of (X _ _ hp),by rw[XF];exact ql _⟩,?_⟩;clear n;refine⟨_,rfl,q,rfl,⟨_,SqT.of (X _ _ hq)⟩,λag ad=>?_⟩;refine cA (J:=Itt K0 q) (l:=ag) ys.length (λi t j=>∃(n:Option V)(us:List V),t=[some v,n]/\Same H1 j/\j ag=some (.lst us)/\us.length=i/\(∀ x∈ys.take i,isP L R x=true)/\bW j us ((ys.take i).map (sdD L 1))) ⟨none,[],rfl,ao ad _,ak,rfl,(λx U=>by rw[take_zero] at U;cases U),trivial⟩ ?_ ?_
 rotate_left
 .have bu:=X;clear S d1 e1;rintro i t j u ⟨n,o,rfl,X,e1,S,hPi,d1⟩;have k:(ys.map mkT)[i]?=some (mkT ys[i]):=by rw[XC,bK u];rfl
  have d:=bu.trans X;refine⟨⟨_,_,SqT.of (d _ _ hq),k⟩,?_⟩;rintro N hN y ay ⟨rfl,hy⟩;have Y:y=mkT ys[i]:=Xn ((hy _ (SqT.of (d _ _ hq))).symm.trans k);have M:ys[i]∈xs++ys:=Xw _ (getElem_mem u);have c:=take_one (bK u);generalize ys[i]=x at Y M c;subst Y;refine gN (uH (lQ ?_));refine⟨_,rfl,_,rfl,v,L,R,ks,al,x,rfl,hv.same d,h1,h2,Xz (aa x M) (by decide),af,λp0 ax H2 O=>?_,λz=>((t0 x M z).up d).outV⟩;rw[aT];refine⟨smn 2,λpt ap=>?_⟩;have D:=ao ap (.tup [.int ((cI L x:Nat):Int),.int 1]);have G:(upd H2 pt (.tup [.int ((cI L x:Nat):Int),.int 1])) pt=some (.tup [.int ((cI L x:Nat):Int),.int 1]):=ak;generalize upd H2 pt (.tup [.int ((cI L x:Nat):Int),.int 1])=H3 at D G ⊢;have F:=D _ _ (O _ _ e1);refine⟨o,F,aH (by lia),hN _ _ ⟨_,o++[.ref pt],rfl,bO (X.trans (O.trans D)) ad,ak,by rw[Xr,S];rfl,?_,?_⟩⟩
  .intro x' I;rw[c] at I;rcases mem_append.mp I with z | z
   .exact hPi x' z
   .rw[mem_singleton.mp z];exact nU ax
  rw[c,map_append];exact dU ((d1.same (O.trans D)).keepT (j4 F)) ⟨⟨pt,_,rfl,j4 F _ _ G,rfl,rfl,trivial⟩,trivial⟩
 rintro t H2 ⟨n,us,rfl,O,e2,b8,hP2,d2⟩;rw[take_length] at d2 hP2;have a0:=X.trans O;refine⟨⟨_,SqT.of (a0 _ _ hq),by rw[XF];exact ql _⟩,?_⟩;clear n;refine⟨lc,ag,_,_,rfl,rfl,O _ _ e1,e2,small (by lia),λl3 b1=>?_⟩;have D:=ao b1 (.lst (o++us));have G:(upd H2 l3 (.lst (o++us))) l3=some (.lst (o++us)):=ak;have d3:=(dU (d1.same O) d2).same D;rw[← Mx] at d3;generalize upd H2 l3 (.lst (o++us))=H3 at D G d3 ⊢;have bq:=a0.trans D;have hW:=d3.len;rw[XF] at hW;have hPl:(prs xs ys).length<=200:=by
  unfold prs;rw[Xr,XF,XF];lia
 have B:(xs++ys).all (isP L R)=true:=by
  rw[List.all_append,Bool.and_eq_true];exact⟨all_eq_true.mpr ai,all_eq_true.mpr hP2⟩
 have hE:mz L R ks al xs ys=(if (prs xs ys).any (MJ L) then some 1 else if (xs++ys).all (fX L ks al) then none else some 3):=by
  unfold mz;rw[if_pos B,Ml]
 generalize o++us=W at G d3 hW;generalize prs xs ys=pr at d3 hW hPl hE;clear ai hP2;have cp:∀(bs:List Bool)(i:Nat),(bs.map V.bl)[i]?=none\/True:=λ_ _=>.inr trivial
 refine⟨_,rfl,l3,rfl,⟨_,SqL.of G⟩,λl4 a3=>?_⟩;refine cA (J:=Itl K0 l3) (l:=l4) W.length (λi t j=>∃(n m:Option V),t=[n,m]/\Same H3 j/\j l4=some (.lst (((pr.take i).map (MJ L)).map V.bl))) ⟨none,none,rfl,ao a3 _,ak⟩ ?_ ?_
 rotate_left
 .rintro i t j u ⟨n,m,rfl,s4,F⟩;have a9:i<pr.length:=by lia
  refine⟨⟨_,_,SqL.of (s4 _ _ G),bK u⟩,?_⟩;rintro N hN y ay ⟨rfl,hy⟩;have Y:y=W[i]:=Xn ((hy _ (SqL.of (s4 _ _ G))).symm.trans (bK u));have dy:Den H3 W[i] (sdD L pr[i].2 pr[i].1):=at_of d3 (bK u) (by rw[XC,bK a9];rfl);have c:=take_one (bK a9);rw[← Y] at dy;generalize pr[i]=z at dy c;obtain⟨b,vs,rfl,hb,dv⟩:=aO (dy.same s4);obtain⟨u0,u1,rfl⟩:∃ u0 u1,vs=[u0,u1]:=by
   match vs,dv with
   | [a,b],_=>exact⟨a,b,rfl⟩
   | [],h=>exact h.elim
   | [_],h=>exact h.2.elim
   | _::_::_::_,h=>exact h.2.2.elim
  obtain⟨rfl,rfl,_⟩:u0=.int ((cI L z.1:Nat):Int)/\u1=.int z.2/\True:=⟨dv.1,dv.2.1,trivial⟩
  refine⟨b,_,rfl,SqT.of hb,rfl,_,_,rfl,_,_,rfl,rfl,?_⟩;refine uH (lQ ⟨_,rfl,_,rfl,rfl,_,F,aH (by rw[XF,XF,length_take];lia),hN _ _ ⟨_,_,rfl,bO s4 a3,?_⟩⟩);rw[ak,c,map_append,map_append];have eb:(!decide (V.int ((cI L z.1:Nat):Int)=V.int z.2))=MJ L z:=by
   unfold MJ;rw[Bool.eq_iff_iff,Bool.not_eq_true',decide_eq_false_iff_not,decide_eq_true_eq];exact⟨λh e=>h (by rw[e]),λh e=>h (by injection e)⟩
  rw[eb]
  rfl
 rintro t H4 ⟨n,m,rfl,s4,F⟩;rw[hW,take_length] at F;have Z:=bq.trans s4;refine⟨⟨_,SqL.of (s4 _ _ G),ql _⟩,l4,_,rfl,SqL.of F,_,rfl,?_⟩;have ea:(pr.map (MJ L)).any id=pr.any (MJ L):=by rw[any_map];rfl
 rw[ea];tm_at"d"
 .exact⟨smn 1,λe T he hT=>((am 1 (by rw[hE,if_pos z])).up Z).made he hT⟩
 rw[if_neg z] at hE;clear n m;refine⟨_,rfl,_,rfl,p,q,_,_,rfl,rfl,Z _ _ hp,Z _ _ hq,small (by rw[XF,XF];lia),λr H5 s5 e5=>?_⟩;have ah:=Z.trans s5;rw[← map_append] at e5;refine⟨r,rfl,⟨_,SqT.of e5⟩,λl6 a6=>?_⟩;have bn:(xs++ys).length<=200:=by rw[Xr];lia
 have a5:∀ x∈xs++ys,isP L R x=true:=all_eq_true.mp B;generalize xs++ys=zs at e5 bn aa hE a5;refine cA (J:=Itt K0 r) (l:=l6) zs.length (λi t j=>∃(n:Option V),t=[some v,n]/\Same H5 j/\j l6=some (.lst (((zs.take i).map (fX L ks al)).map V.bl))) ⟨none,rfl,ao a6 _,ak⟩ ?_ ?_
 rotate_left
 .rintro i t j u ⟨n,rfl,s6,e6⟩;have k:(zs.map mkT)[i]?=some (mkT zs[i]):=by rw[XC,bK u];rfl
  refine⟨⟨_,_,SqT.of (s6 _ _ e5),k⟩,?_⟩;rintro N hN y ay ⟨rfl,hy⟩;have Y:y=mkT zs[i]:=Xn ((hy _ (SqT.of (s6 _ _ e5))).symm.trans k);have M:zs[i]∈zs:=getElem_mem u;have c:=take_one (bK u);generalize zs[i]=x at Y M c;subst Y;have bj:=ah.trans s6;refine gN (uH (lQ ⟨_,rfl,_,rfl,v,L,R,ks,al,x,rfl,hv.same bj,⟨h1,h2,af⟩,Xz (aa x M) (by decide),λ_ H7 s7=>?_,λz=>by rw[a5 x M] at z;cases z⟩));refine⟨_,s7 _ _ e6,aH (by rw[XF,XF,length_take];lia),hN _ _ ⟨_,rfl,bO (s6.trans s7) a6,?_⟩⟩;rw[ak,c,map_append,map_append]
  rfl
 rintro t H6 ⟨n,rfl,s6,e6⟩;rw[take_length] at e6;refine⟨⟨_,SqT.of (s6 _ _ e5),by rw[XF];exact ql _⟩,l6,_,rfl,SqL.of e6,_,rfl,?_⟩;have ea:(zs.map (fX L ks al)).all id=zs.all (fX L ks al):=by rw[all_map];rfl
 rw[ea];tm_at"d"
 .rw[Bool.not_eq_true'] at z;exact⟨smn 1,λe T he hT=>((am 3 (by rw[hE,if_neg (by rw[z];decide)])).up (ah.trans s6)).made he hT⟩
 .have z':zs.all (fX L ks al)=true:=by simpa using z
  exact kq (by rw[hE,if_pos z']) H6 (ah.trans s6)
end
inductive Dd
 | link (xs ys:Nms)
 | loose (x:List Nat)
 | step (x:List Nat)
 | alone (x:List Nat)
 | lack (x:List Nat)
def Dd.ix:Dd->Nat
 | .link ..=>7
 | .loose ..=>8
 | .step ..=>9
 | .alone ..=>10
 | .lack ..=>11
def lO(H:Hp)(pd:Addr)(t:Int):Dd->Prop
 | .link xs ys=>∃ p q,H pd=some (.tup [.str (Str.ofString "link"),.int t,.ref p,.ref q])/\H p=some (.tup (xs.map mkT))/\H q=some (.tup (ys.map mkT))
 | .loose x=>H pd=some (.tup [.str (Str.ofString "loose"),.int t,mkT x])
 | .step x=>H pd=some (.tup [.str (Str.ofString "step"),.int t,mkT x])
 | .alone x=>H pd=some (.tup [.str (Str.ofString "alone"),.int t,mkT x])
 | .lack x=>H pd=some (.tup [.str (Str.ofString "lack"),.int t,mkT x])
def dE(L R:List Prt)(ks:List Lnk)(al:Nms):Dd->Option Nat
 | .link xs ys=>mz L R ks al xs ys
 | .loose x=>if isP L R x then (if (eE L ks x).isSome then none else some 4) else some 0
 | .step x=>if isP L R x then (if (eE L ks x).isSome then none else some 4) else some 0
 | .alone x=>if isP L R x then (if fX L ks al x then none else some 3) else some 0
 | .lack x=>if isP L R x then (if x∈al then none else some 4) else some 0
def Dd.sm:Dd->Prop
 | .link xs ys=>(∀ x∈xs++ys,x.length<=400)/\xs.length<=60/\ys.length<=60/\xs≠[]
 | .loose x=>x.length<=400
 | .step x=>x.length<=400
 | .alone x=>x.length<=400
 | .lack x=>x.length<=400
structure Fit(L R:List Prt)(ks:List Lnk)(al:Nms):Prop where
 sm:SmB L R
 lk:∀ k∈ks,LkS k
 ne:∀ k∈ks,k.1≠[]
 pw:ks.Pairwise λa b=>∀ x∈a.1,x ∉ b.1
 kl:ks.length<=60
 an:al.Nodup
 sl:al.length<=60
def Aft(L:List Prt)(ks:List Lnk)(al:Nms)(t:Int)(ks':List Lnk)(a:Nms):Dd->Prop
 | .link xs ys=>a=al/\∃ c b:Nms,c.Perm xs/\UpD (c.map sD)/\b.Perm ys/\UpD (b.map sD)/\RelK ks ks' none (some (c,b,t,[],[]))
 | .loose x=>a=al/\∀ l,eE L ks x=some l->RelK ks ks' (some l) none
 | .step x=>a=al/\∀ l,eE L ks x=some l->RelK ks ks' (some l) (some (l.1,l.2.1,t,[],[]))
 | .alone x=>ks'=ks/\a.Perm (x::al)/\UpD (a.map sD)
 | .lack x=>ks'=ks/\a=al.filter λy=>decide (y≠x)
def yu(C:Nat->Addr)(n:Nat):Sp:=λb H Q E=>∃(v:V)(pd:Addr)(t:Int)(d:Dd)(L R:List Prt)(ks:List Lnk)(al:Nms),b=[v,.ref pd]/\Den H v (fG L R ks al)/\lO H pd t d/\d.ix=n/\Fit L R ks al/\d.sm /\
 (dE L R ks al d=none->∀(u:V)(ks':List Lnk)(a:Nms)(H':Hp),Same H H'->Den H' u (fG L R ks' a)->Aft L ks al t ks' a d->Q u H')/\(∀ e,dE L R ks al d=some e->cP (C e) H E)
def qg{a b:Lnk}(h:aX a=aX b):a.1=b.1:=by
 unfold aX fM at h;injection h with h;injection h with h _;injection h with h;have:∀ {xs ys:Nms},xs.map sD=ys.map sD->xs=ys:=by
  intro xs
  induction xs with
  | nil=>intro ys h;cases ys with | nil=>rfl | cons y ys=>cases h
  | cons x xs c =>
   intro ys h;cases ys with
   | nil=>cases h
   | cons y ys =>
    rw[map_cons,map_cons] at h;injection h with h1 h2;rw[c h2];have:x=y:=by
     unfold sD at h1;injection h1 with h1;injection h1 with h1;exact Array.mk.inj h1
    rw[this]
 exact this h
def uq{ks:List Lnk}{j:Lnk}(hne:∀ k∈ks,k.1≠[])(d:ks.Pairwise λa b=>∀ x∈a.1,x ∉ b.1)(hj:∀ k∈ks,k.1≠j.1):((ks++[j]).map aX).Nodup:=by
 rw[nodup_iff_pairwise_ne,pairwise_map,pairwise_append];refine⟨?_,List.pairwise_singleton _ _,λa c b g e=>?_⟩
 .refine d.imp_of_mem fun {a b} c _ h e=>?_
  have f:=qg e;cases hx:a.1 with
  | nil=>exact hne a c hx
  | cons x xs=>exact h x (by rw[hx];exact .head _) (by rw[← f,hx];exact .head _)
 .rw[mem_singleton.mp g] at e;exact hj a c (qg e)
def qP{L:List Prt}{ks:List Lnk}{x:List Nat}(h:eE L ks x=none){k:Lnk}(hk:k∈ks):x ∉ dR (iy L x) k:=λa=>by
 have:=find?_eq_none.mp h k hk;exact this (XD a)
theorem xX{α:Type}{R:α->α->Prop}:∀ {xs:List α},xs.Pairwise R->∀ {a b:α},a∈xs->b∈xs->a≠b->R a b\/R b a
 | [],_,_,_,h,_,_=>nomatch h
 | x::xs,j,a,b,e,c,d=>by
  obtain⟨i,k⟩:=List.pairwise_cons.mp j;rcases mem_cons.mp e with g | e
  .rcases mem_cons.mp c with f | c
   .exact absurd (g.trans f.symm) d
   .exact .inl (g ▸ i b c)
  .rcases mem_cons.mp c with f | c
   .exact .inr (f ▸ i a e)
   .exact xX k e c d
def Fit.apart{L R:List Prt}{ks:List Lnk}{al:Nms}(hf:Fit L R ks al){k l:Lnk}(hk:k∈woL ks (some l))(hl:l∈ks):k.1≠l.1:=λe=>by
 have a:=wZ hk;have c:k≠l:=λd=>by
  have h:(!eqD (aX k) (aX l))=true:=(mem_filter.mp hk).2;rw[d,mK] at h;cases h
 cases hx:k.1 with
 | nil=>exact hf.ne k a hx
 | cons x xs =>
  have b:x∈k.1:=by rw[hx];exact .head _
  rcases xX hf.pw a hl c with h | h
  .exact h x b (e ▸ b)
  .exact h x (e ▸ b) b
def yN{H:Hp}{p1 p2 p3 p4 a0 a1:Addr}{t:Int}{xs ys:Nms}{a b:List V}(h1:H p1=none)(h2:(upd H p1 (.tup [])) p2=none)(h3:(upd (upd H p1 (.tup [])) p2 (.tup [])) p3=none)(h4:(upd (upd (upd H p1 (.tup [])) p2 (.tup [])) p3 (.tup [.ref p1,.ref p2])) p4=none)(e0:H a0=some (.tup a))(d0:bW H a (xs.map sD))(e1:H a1=some (.tup b))(d1:bW H b (ys.map sD)) :
  Same H (upd (upd (upd (upd H p1 (.tup [])) p2 (.tup [])) p3 (.tup [.ref p1,.ref p2])) p4 (.tup [.ref a0,.ref a1,.int t,.ref p3]))/\Den (upd (upd (upd (upd H p1 (.tup [])) p2 (.tup [])) p3 (.tup [.ref p1,.ref p2])) p4 (.tup [.ref a0,.ref a1,.int t,.ref p3])) (.ref p4) (aX (xs,ys,t,[],[])):=by
 have h:=ao h1 (.tup []);have g:=ao h2 (.tup []);have d:=ao h3 (.tup [.ref p1,.ref p2]);have c:=ao h4 (.tup [.ref a0,.ref a1,.int t,.ref p3]);have s:=((h.trans g).trans d).trans c;have e:=(g.trans d).trans c;have f:=d.trans c;exact⟨s,p4,_,rfl,ak,⟨a0,a,rfl,s _ _ e0,d0.same s⟩,⟨a1,b,rfl,s _ _ e1,d1.same s⟩,rfl,⟨p3,_,rfl,c _ _ ak,⟨p1,[],rfl,e _ _ ak,trivial⟩,⟨p2,[],rfl,f _ _ ak,trivial⟩,trivial⟩,trivial⟩
def Di(ts:Nms):Hom (ts.map sD):=by
 refine⟨λa c b e=>?_,.inr (.inl λd hd=>?_)⟩
 .obtain⟨x,_,rfl⟩:=mem_map.mp c;obtain⟨y,_,rfl⟩:=mem_map.mp e;exact pF _ _
 .obtain⟨x,_,rfl⟩:=mem_map.mp hd;exact⟨_,rfl⟩
def yh(ns:Nms):∀ d∈ns.map sD,dz 50 d:=λd hd=>by
 obtain⟨x,_,rfl⟩:=mem_map.mp hd;exact cZ (n:=0) (eN _) 50
def zO{L R:List Prt}{ks:List Lnk}{al xs ys:Nms}(h:mz L R ks al xs ys=none):∀ x∈xs,cI L x=0/\eE L ks x=none:=λx b=>by
 unfold mz at h;split at h
 .split at h
  .cases h
  .rename_i d a;split at h
   .rename_i c;rw[Bool.or_eq_true,not_or] at a;refine⟨?_,?_⟩
    .have:=a.1;rw[Bool.not_eq_true,any_eq_false] at this
     simpa using this x b
    .have:=all_eq_true.mp c x (Xx _ b);unfold fX at this;rw[Bool.and_eq_true] at this
     simpa using this.1
   .cases h
 .cases h
section
variable {Us Ur Uv Ut Uu:Addr}
def wB:aU ["book","deed"] ["book","deed"] (aC je):=⟨rfl,rfl,rfl,by decide +kernel,rfl,by decide +kernel,by decide +kernel⟩
def uT(h:Has K mg "loose_done" je ["book","deed"])(G:Cal P w K mg base "relinked" 2 ["book","old","new"] jc)(J:jj P w K mg base "needed_link" 4 ["book","name"] (vR K Us Uu)):jj P w K mg base "loose_done" 5 ["book","deed"] (yu (c5 Us Ur Uv Ut Uu) 8):=by
 refine h.mk1 wB (λO H Q E m=>?_) (λf T A outer s H O Q E o m=>?_)
 .obtain⟨v,r,t,d,L,R,ks,al,rfl,_⟩:=m
  rfl
 obtain⟨v,r,t,d,L,R,ks,al,rfl,q,hd,D,c,n,k,b⟩:=m;obtain⟨x,rfl⟩:∃ x,d=.loose x:=by cases d <;> first | exact⟨_,rfl⟩ | cases D
 refine⟨_,(aB (aW (aN G o (by decide) rfl (aj (pv 0) (aj (dZ J o (by decide) rfl fY (aj (pv 0) (aj (bA bG (pv 1) aA (λ_ _=>rfl)) aq))) (aj dF aq)))))),?_⟩;have at_:∀ {j:Nat}{yy:V},[V.str (Str.ofString "loose"),.int t,mkT x][j]?=some yy->atI [V.str (Str.ofString "loose"),.int t,mkT x] (j:Nat)=some yy:=λh=>aZ h
 refine⟨_,rfl,_,rfl,_,rfl,ixT (p:=r) rfl rfl (SqT.of hd) (at_ (j:=2) rfl) (⟨ v,L,R,ks,al,x,rfl,jk.of q,c.sm,Xz n (by decide),λi l g u X y N=>?_,λi F=>(b 4 (by simp only[dE,i,F];rfl)).out,λz=>(b 0 (by simp only[dE,z];rfl)).out⟩)⟩;have M:dE L R ks al (.loose x)=none:=by simp only[dE,i,g];rfl
 refine⟨v,u,.non,L,R,ks,al,some l,none,rfl,q.same y,N,rfl,c.lk,(λk e=>by cases e;exact c.lk _ (pR g)),(λk e=>by cases e),c.kl,(λj U=>by cases U),λI ks' B S C hR=>?_⟩;exact k M I ks' al B (y.trans S) C ⟨rfl,λW a=>by rw[g] at a;cases a;exact hR⟩
def qz:aU ["book","deed","link"] ["book","deed"] (aC jX):=⟨rfl,rfl,rfl,by decide +kernel,rfl,by decide +kernel,by decide +kernel⟩
def wM(h:Has K mg "step_done" jX ["book","deed"])(U5:jj P w K mg base "needed_link" 4 ["book","name"] (vR K Us Uu))(U4:Cal P w K mg base "relinked" 2 ["book","old","new"] jc):jj P w K mg base "step_done" 5 ["book","deed"] (yu (c5 Us Ur Uv Ut Uu) 9):=by
 refine h.mk1 qz (λvs H Q E G=>?_) (λf aI A outer s H vs Q E W G=>?_)
 .obtain⟨v,I,t,d,L,R,ks,al,rfl,_⟩:=G
  rfl
 obtain⟨v,I,t,d,L,R,ks,al,rfl,Y,hd,hw,c,J,k,g⟩:=G;obtain⟨x,rfl⟩:∃ x,d=.step x:=by cases d <;> first | exact⟨_,rfl⟩ | cases hw
 refine⟨_,(au (aL (i:=2) qz.nd rfl (Or.inl rfl) (dZ U5 W (by decide) rfl fY (aj (pv 0) (aj (bA bG (pv 1) aA (λ_ _=>rfl)) aq))))
  (aB (aW (aN U4 W (by decide) rfl (aj (pv 0) (aj (pv 2) (aj (bQ (aj (bA bG (pv 2) aA (λ_ _=>rfl)) (aj (bA bG (pv 2) aA (λ_ _=>rfl)) (aj (bA bG (pv 1) aA (λ_ _=>rfl)) (aj (bQ (aj (bQ aq) (aj (bQ aq) aq))) aq))))) aq))))))),?_⟩
 have at_:∀ {j:Nat}{yy:V},[V.str (Str.ofString "step"),.int t,mkT x][j]?=some yy->atI [V.str (Str.ofString "step"),.int t,mkT x] (j:Nat)=some yy:=λh=>aZ h
 refine⟨_,rfl,_,rfl,ixT (p:=I) rfl rfl (SqT.of hd) (at_ (j:=2) rfl) (⟨ v,L,R,ks,al,x,rfl,jk.of Y,c.sm,Xz J (by decide),λF l r u H1 C X=>?_,λF hn=>(g 4 (by simp only[dE,F,hn];rfl)).out,λz=>(g 0 (by simp only[dE,z];rfl)).out⟩)⟩;have hE:dE L R ks al (.step x)=none:=by simp only[dE,F,r];rfl
 have b:=pR r;obtain⟨a,B,q,O,a4,a5,am,aT,rfl,ha,M,o,y,D,ar,ac,ap⟩:=rB X;have ix:∀ {j:Nat}{yy:V},[V.ref B,.ref q,.int l.2.2.1,.ref O][j]?=some yy->atI [V.ref B,.ref q,.int l.2.2.1,.ref O] (j:Nat)=some yy:=λh=>aZ h
 refine⟨_,rfl,_,rfl,_,rfl,ixT (p:=a) rfl rfl (SqT.of ha) (ix (j:=0) rfl) (⟨ _,rfl,ixT (p:=a) rfl rfl (SqT.of ha) (ix (j:=1) rfl) (⟨ _,rfl,ixT (p:=I) rfl rfl (SqT.of (C _ _ hd)) (at_ (j:=1) rfl) (?_)⟩)⟩)⟩;refine⟨smn 0,λU h1=>⟨smn 0,λZ h2=>⟨smn 2,λS h3=>⟨smn 4,λT h4=>?_⟩⟩⟩⟩;obtain⟨n,N⟩:=yN (t:=t) h1 h2 h3 h4 M o y D;generalize upd (upd (upd (upd H1 U (.tup [])) Z (.tup [])) S (.tup [.ref U,.ref Z])) T (.tup [.ref B,.ref q,.int t,.ref S])=H2 at n N ⊢;refine⟨v,.ref a,.ref T,L,R,ks,al,some l,some (l.1,l.2.1,t,[],[]),rfl,Y.same (C.trans n),X.same n,N,c.lk,(λk e=>by cases e;exact c.lk _ b),(λk e=>by cases e;exact⟨(c.lk _ b).1,(c.lk _ b).2.1,Nat.zero_le _,Nat.zero_le _⟩),c.kl,(λj hj=>?_),λu' ks' H3 s3 d3 hR=>?_⟩
 .cases hj;exact uq (λk e=>c.ne k (wZ e)) (c.pw.sublist filter_sublist) (λk e=>c.apart (l:=l) e b)
 exact k hE u' ks' al H3 ((C.trans n).trans s3) d3 ⟨rfl,λl' m=>by rw[r] at m;cases m;exact hR⟩
def pQ:aU ["book","deed","name"] ["book","deed"] (aC jf):=⟨rfl,rfl,rfl,by decide +kernel,rfl,by decide +kernel,by decide +kernel⟩
def uJ(h:Has K mg "alone_done" jf ["book","deed"])(U7:mg "Linked" = some (.ref Ut))(x_Linked:W.excIn K Ut vBm "ValueError.__new__" = true)(U6:jj P w K mg base "is_lacking" 4 ["book","name"] (wk K Us))(U3:Cal P w K mg base "replaced" 1 ["row","place","thing"] gn)(U9:Cal P w K mg base "with_one" 1 ["row","thing"] (xT w)):jj P w K mg base "alone_done" 5 ["book","deed"] (yu (c5 Us Ur Uv Ut Uu) 10):=by
 refine h.mk1 pQ (λvs H Q E N=>?_) (λf ax A outer s H vs Q E o N=>?_)
 .obtain⟨v,pd,t,d,L,R,ks,al,rfl,_⟩:=N
  rfl
 obtain⟨v,pd,t,d,L,R,ks,al,rfl,U,hd,hw,M,u,k,b⟩:=N;obtain⟨x,rfl⟩:∃ x,d=.alone x:=by cases d <;> first | exact⟨_,rfl⟩ | cases hw
 refine⟨_,(au (aL (i:=2) pQ.nd rfl (Or.inl rfl) (bA bG (pv 1) aA (λ_ _=>rfl)))
  (au (cB (uK (jr (dZ U6 o (by decide) rfl fY (aj (pv 0) (aj (pv 2) aq)))))
   (aB (jg rfl lE rfl U7 x_Linked (aj (rZ (iU (yj (pv 2)) (iU aF xZ))) aq)))
   bf)
  (aB (aW (aN U3 o (by decide) rfl (aj (pv 0) (aj aA (aj (aN U9 o (by decide) rfl (aj (bA bG (pv 0) aA (λ_ _=>rfl)) (aj (pv 2) aq))) aq)))))))),?_⟩
 have at_:∀ {j:Nat}{yy:V},[V.str (Str.ofString "alone"),.int t,mkT x][j]?=some yy->atI [V.str (Str.ofString "alone"),.int t,mkT x] (j:Nat)=some yy:=λh=>aZ h
 have y:x.length<=1000:=Xz u (by decide);have J:(⟨x.toArray⟩:Str).length<=sizeLine:=by rw[Pn];exact lu (by lia)
 have c:((Str.empty++(⟨x.toArray⟩:Str))++Str.ofString " isn't lacking").length<=sizeLine:=Gi y (by decide +kernel);refine⟨_,rfl,ixT (p:=pd) rfl rfl (SqT.of hd) (at_ (j:=2) rfl) (?_)⟩;refine⟨_,rfl,_,rfl,v,L,R,ks,al,x,rfl,jk.of U,M.sm,y,λZ H1 D=>?_,λz=>(b 0 (by simp only[dE,z];rfl)).out⟩;refine⟨_,rfl,?_⟩;tm_at"d"
 .have z:fX L ks al x=false:=by simpa using z
  refine⟨_,rfl,.inl ⟨_,rfl,J,_,rfl,Kz y,_,rfl,c,c,?_⟩⟩;exact⟨smn 1,λe T he hT=>((b 3 (by simp only[dE,Z,z];rfl)).up D).made he hT⟩
 have z:fX L ks al x=true:=by simpa using z
 have hE:dE L R ks al (.alone x)=none:=by simp only[dE,Z,z];rfl
 have I:x ∉ al:=by
  unfold fX at z;rw[Bool.and_eq_true] at z
  simpa using z.2
 obtain⟨p,pl,pr,pk,Y,ls,rs,us,rfl,X,F,m,l,C,G,B,g⟩:=jR (U.same D);have at3:=aZ (xs:=[V.ref pl,V.ref pr,V.ref pk,V.ref Y]) (j:=3) rfl;refine⟨_,rfl,_,rfl,ixT (p:=p) rfl rfl (SqT.of X) (at3) (⟨ _,rfl,.inr (.inl ⟨Y,al,x,rfl,g,M.an,I,M.sl,λq ys H2 s2 e2 O n=>?_⟩)⟩)⟩;refine⟨p,_,3,.ref q,rfl,s2 _ _ X,by show 3<4;lia,by show 4<=900;lia,λr H3 S e3=>?_⟩;have a:=s2.trans S;exact k hE (.ref r) ks ys H3 (D.trans a) (vP e3 (a _ _ F) (m.same a) (a _ _ l) (C.same a) (a _ _ G) (B.same a) (S _ _ e2)) ⟨rfl,O,n⟩
def qH:aU ["book","deed","name"] ["book","deed"] (aC jK):=⟨rfl,rfl,rfl,by decide +kernel,rfl,by decide +kernel,by decide +kernel⟩
def wC(h:Has K mg "lack_done" jK ["book","deed"])(Ve:mg "Apart" = some (.ref Uu))(x_Apart:W.excIn K Uu vBm "ValueError.__new__" = true)(Vg:jj P w K mg base "part_of" 1 ["book","name"] (tK K Us))(U3:Cal P w K mg base "replaced" 1 ["row","place","thing"] gn)(Vh:Cal P w K mg base "without" 1 ["row","thing"] Fd):jj P w K mg base "lack_done" 2 ["book","deed"] (yu (c5 Us Ur Uv Ut Uu) 11):=by
 refine h.mk1 qH (λvs H Q E S=>?_) (λf av A outer s H vs Q E n S=>?_)
 .obtain⟨v,Z,t,d,L,R,ks,al,rfl,_⟩:=S
  rfl
 obtain⟨v,Z,t,d,L,R,ks,al,rfl,X,hd,hw,O,y,k,c⟩:=S;obtain⟨x,rfl⟩:∃ x,d=.lack x:=by cases d <;> first | exact⟨_,rfl⟩ | cases hw
 refine⟨_,(au (aL (i:=2) qH.nd rfl (Or.inl rfl) (bA bG (pv 1) aA (λ_ _=>rfl)))
  (au (cN (dZ Vg n (by decide) rfl fY (aj (pv 0) (aj (pv 2) aq))))
  (au (cB (aQ gY (pv 2) (bA bG (pv 0) aA (λ_ _=>rfl)) (by with_unfolding_all rfl))
   (aB (jg rfl lE rfl Ve x_Apart (aj (rZ (iU (yj (pv 2)) (iU aF xZ))) aq)))
   bf)
  (aB (aW (aN U3 n (by decide) rfl (aj (pv 0) (aj aA (aj (aN Vh n (by decide) rfl (aj (bA bG (pv 0) aA (λ_ _=>rfl)) (aj (pv 2) aq))) aq))))))))),?_⟩
 have at_:∀ {j:Nat}{yy:V},[V.str (Str.ofString "lack"),.int t,mkT x][j]?=some yy->atI [V.str (Str.ofString "lack"),.int t,mkT x] (j:Nat)=some yy:=λh=>aZ h
 have C:x.length<=1000:=Xz y (by decide);have N:(⟨x.toArray⟩:Str).length<=sizeLine:=by rw[Pn];exact lu (by lia)
 have g:((Str.empty++(⟨x.toArray⟩:Str))++Str.ofString " isn't alone").length<=sizeLine:=Gi C (by decide +kernel);refine⟨_,rfl,ixT (p:=Z) rfl rfl (SqT.of hd) (at_ (j:=2) rfl) (?_)⟩;refine⟨_,rfl,_,rfl,v,L,R,ks,al,x,rfl,jk.of X,O.sm.1,O.sm.2.1,C,λp0 B u H1 I d1=>?_,λz=>(c 0 (by simp only[dE,zG z];rfl)).out⟩;have Y:=nU B;obtain⟨p,pl,pr,pk,D,ls,rs,us,rfl,o,J,m,l,G,M,F,b⟩:=jR (X.same I);have at3:=aZ (xs:=[V.ref pl,V.ref pr,V.ref pk,V.ref D]) (j:=3) rfl;refine⟨_,rfl,_,rfl,ixT (p:=p) rfl rfl (SqT.of o) (at3) (⟨ D,_,rfl,.inr (SqT.of b),rfl,cR _,_,rfl,?_⟩)⟩;rw[show(if true=true then !inV (mkT x) (al.map mkT) else inV (mkT x) (al.map mkT))=!inV (mkT x) (al.map mkT) from rfl,gM];tm_at"d"
 .have z:¬ x∈al:=by simpa using z
  refine⟨_,rfl,.inl ⟨_,rfl,N,_,rfl,Kz C,_,rfl,g,g,?_⟩⟩;exact⟨smn 1,λe T he hT=>((c 4 (by simp only[dE,Y,if_neg z];rfl)).up I).made he hT⟩
 have z:x∈al:=by simpa using z
 have hE:dE L R ks al (.lack x)=none:=by simp only[dE,Y,if_pos z];rfl
 refine⟨_,rfl,_,rfl,ixT (p:=p) rfl rfl (SqT.of o) (at3) (⟨ _,rfl,.inl ⟨D,al,x,rfl,b,Xz O.sl (by decide),λq H2 s2 e2=>?_⟩⟩)⟩;refine⟨p,_,3,.ref q,rfl,s2 _ _ o,by show 3<4;lia,by show 4<=900;lia,λr H3 U e3=>?_⟩;have a:=s2.trans U;exact k hE (.ref r) ks _ H3 (I.trans a) (vP e3 (a _ _ J) (m.same a) (a _ _ l) (G.same a) (a _ _ M) (F.same a) (U _ _ e2)) ⟨rfl,rfl⟩
def iY:aU ["book","deed","ones","others","link"] ["book","deed"] (aC jP):=⟨rfl,rfl,rfl,by decide +kernel,rfl,by decide +kernel,by decide +kernel⟩
def xg(h:Has K mg "link_done" jP ["book","deed"])(Va:jj P w K mg base "check_linkable" 5 ["book","ones","others"] (qK K (c5 Us Ur Uv Ut Uu)))(U4:Cal P w K mg base "relinked" 2 ["book","old","new"] jc)(Ux:mg "tuple" = none)(UL:mg "sorted" = none):jj P w K mg base "link_done" 6 ["book","deed"] (yu (c5 Us Ur Uv Ut Uu) 7):=by
 refine h.mk1 iY (λvs H Q E hs=>?_) (λf bp A outer s H vs Q E C hs=>?_)
 .obtain⟨v,D,t,d,L,R,ks,al,rfl,_⟩:=hs
  rfl
 obtain⟨v,D,t,d,L,R,ks,al,rfl,hv,hd,hw,z,ac,k,N⟩:=hs;obtain⟨xs,ys,rfl⟩:∃ xs ys,d=.link xs ys:=by cases d <;> first | exact⟨_,_,rfl⟩ | cases hw
 refine⟨_,(au (aL (i:=2) iY.nd rfl (Or.inl rfl) (bA bG (pv 1) aA (λ_ _=>rfl)))
  (au (aL (i:=3) iY.nd rfl (Or.inl rfl) (bA bG (pv 1) aA (λ_ _=>rfl)))
  (au (cN (dZ Va C (by decide) rfl fY (aj (pv 0) (aj (pv 2) (aj (pv 3) aq)))))
  (au (aL (i:=4) iY.nd rfl (Or.inl rfl) (bQ (aj (aP aM rfl Ux boot_tuple (aj (aR (bT (cj C.units)) rfl UL boot_sorted (aj (pv 2) aq)) aq)) (aj (aP aM rfl Ux boot_tuple (aj (aR (bT (cj C.units)) rfl UL boot_sorted (aj (pv 3) aq)) aq)) (aj (bA bG (pv 1) aA (λ_ _=>rfl)) (aj (bQ (aj (bQ aq) (aj (bQ aq) aq))) aq))))))
  (aB (aW (aN U4 C (by decide) rfl (aj (pv 0) (aj dF (aj (pv 4) aq)))))))))),?_⟩
 obtain⟨p,q,hd,hp,hq⟩:=hd;obtain⟨O,a9,a5,Z⟩:=ac;have at_:∀ {j:Nat}{yy:V},[V.str (Str.ofString "link"),.int t,.ref p,.ref q][j]?=some yy->atI [V.str (Str.ofString "link"),.int t,.ref p,.ref q] (j:Nat)=some yy:=λh=>aZ h
 refine⟨_,rfl,ixT (p:=D) rfl rfl (SqT.of hd) (at_ (j:=2) rfl) (?_)⟩;refine⟨_,rfl,ixT (p:=D) rfl rfl (SqT.of hd) (at_ (j:=3) rfl) (?_)⟩;refine⟨_,rfl,_,rfl,_,rfl,v,p,q,L,R,ks,al,xs,ys,rfl,hp,hq,jk.of hv,z.sm,O,by lia,by lia,λe he=>(N e he).out,λhE H1 s1=>?_⟩;refine⟨_,rfl,p,_,xs.map sD,rfl,.inr (SqT.of (s1 _ _ hp)),dB _ xs,Di xs,by rw[XF];lia,yh xs,λT b bc af M Y U=>?_⟩;refine⟨T,_,rfl,.inl ⟨SqL.of ak,λB ae=>?_⟩⟩;have s2:=(ao af (.lst b)).trans (ao ae (.tup b));have e2:(upd (upd H1 T (.lst b)) B (.tup b)) B=some (.tup b):=ak;have d2:=U.same s2;generalize upd (upd H1 T (.lst b)) B (.tup b)=H2 at s2 e2 d2 ⊢;obtain⟨c,g,rfl⟩:=ST.dg M.symm rfl;have o:=s1.trans s2;refine⟨_,rfl,q,_,ys.map sD,rfl,.inr (SqT.of (o _ _ hq)),dB _ ys,Di ys,by rw[XF];lia,yh ys,λI a bb S W X G=>?_⟩;refine⟨I,_,rfl,.inl ⟨SqL.of ak,λF J=>?_⟩⟩;have y:=(ao S (.lst a)).trans (ao J (.tup a));have e3:(upd (upd H2 I (.lst a)) F (.tup a)) F=some (.tup a):=ak;have d3:=G.same y;generalize upd (upd H2 I (.lst a)) F (.tup a)=H3 at y e3 d3 ⊢;obtain⟨l,r,rfl⟩:=ST.dg W.symm rfl;have m:=o.trans y;refine⟨_,rfl,ixT (p:=D) rfl rfl (SqT.of (m _ _ hd)) (at_ (j:=1) rfl) (?_)⟩;refine⟨smn 0,λp1 h1=>⟨smn 0,λp2 h2=>⟨smn 2,λp3 h3=>⟨smn 4,λp4 h4=>?_⟩⟩⟩⟩;obtain⟨s4,d4⟩:=yN (t:=t) h1 h2 h3 h4 (y _ _ e2) (d2.same y) e3 d3;generalize upd (upd (upd (upd H3 p1 (.tup [])) p2 (.tup [])) p3 (.tup [.ref p1,.ref p2])) p4 (.tup [.ref B,.ref F,.int t,.ref p3])=H4 at s4 d4 ⊢;have ai:woL ks none=ks:=filter_eq_self.mpr λk _=>rfl
 refine⟨_,rfl,_,rfl,v,.non,.ref p4,L,R,ks,al,none,some (c,l,t,[],[]),rfl,hv.same (m.trans s4),rfl,d4,z.lk,(λk n=>by cases n),(λk n=>?_),z.kl,(λj hj=>?_),λu' ks' H5 s5 d5 hR=>?_⟩
 .cases n;exact⟨by show c.length<=1000;rw[g.length_eq];lia,by show l.length<=1000;rw[r.length_eq];lia,Nat.zero_le _,Nat.zero_le _⟩
 .cases hj;rw[ai];refine uq z.ne z.pw λk n e=>?_
  have e:k.1=c:=e;cases hx:xs with
  | nil=>exact Z hx
  | cons x xr =>
   have u:x∈xs:=by rw[hx];exact .head _
   obtain⟨ag,ad⟩:=zO hE x u;have:=qP ad n;rw[show iy L x=0 from ag] at this;exact this (show x∈k.1 by rw[e];exact g.mem_iff.mpr u)
 exact k hE u' ks' al H5 ((m.trans s4).trans s5) d5 ⟨rfl,c,l,g,Y,r,X,hR⟩
end
def iK:List (Str × Str):=[(Str.ofString "put",Str.ofString "put_done"),(Str.ofString "take",Str.ofString "take_done"),(Str.ofString "part",Str.ofString "part_done"),(Str.ofString "join",Str.ofString "join_done"),(Str.ofString "move",Str.ofString "move_done"),(Str.ofString "change",Str.ofString "change_done"),(Str.ofString "word",Str.ofString "word_done"),(Str.ofString "link",Str.ofString "link_done"),(Str.ofString "loose",Str.ofString "loose_done"),(Str.ofString "step",Str.ofString "step_done"),(Str.ofString "alone",Str.ofString "alone_done"),(Str.ofString "lack",Str.ofString "lack_done")]
def nmD:Nat->Str
 | 7=>Str.ofString "link_done"
 | 8=>Str.ofString "loose_done"
 | 9=>Str.ofString "step_done"
 | 10=>Str.ofString "alone_done"
 | _=>Str.ofString "lack_done"
def uE(C:Nat->Addr):Sp:=λa H Q E=>∃ n,yu C n a H Q E
def uP{C:Nat->Addr}{n:Nat}{vs:List V}{H:Hp}{Q:VK}{E:XK}(h:yu C n vs H Q E):yu C n vs H Q (QT E):=by
 obtain⟨v,g,t,d,L,R,ks,al,e,c,hd,f,b,i,k,a⟩:=h;exact⟨v,g,t,d,L,R,ks,al,e,c,hd,f,b,i,k,λe z=>(a e z).out⟩
def Kl{H:Hp}{pd:Addr}{t:Int}{d:Dd}(h:lO H pd t d):∃(k:Str)(ys:List V),H pd=some (.tup (.str k::ys))/\KTD.datumAt k iK=some (nmD d.ix):=by
 cases d with
 | link xs ys=>obtain⟨p,q,h,_⟩:=h;exact⟨_,_,h,by show _=some (Str.ofString "link_done");decide +kernel⟩
 | loose=>exact⟨_,_,h,by show _=some (Str.ofString "loose_done");decide +kernel⟩
 | step=>exact⟨_,_,h,by show _=some (Str.ofString "step_done");decide +kernel⟩
 | alone=>exact⟨_,_,h,by show _=some (Str.ofString "alone_done");decide +kernel⟩
 | lack=>exact⟨_,_,h,by show _=some (Str.ofString "lack_done");decide +kernel⟩
def Fy{C:Nat->Addr}{vs:List V}{H:Hp}{Q:VK}{E:XK}(h:uE C vs H Q E):∃(v:V)(a:Addr)(k nm:Str)(ys:List V),vs=[v,.ref a]/\H a=some (.tup (.str k::ys))/\KTD.datumAt k iK=some nm/\∃ d:Dd,nm=nmD d.ix/\yu C d.ix vs H Q E:=by
 obtain⟨n,h⟩:=h;have f:=h;obtain⟨v,a,t,d,L,R,ks,al,e,i,hd,c,_⟩:=h;obtain⟨k,ys,b,g⟩:=Kl hd;exact⟨v,a,k,_,ys,e,b,g,d,rfl,by rw[c];exact f⟩
section
variable {Us Ur Uv Ut Uu:Addr}
def JG:aU ["book","deed","doer"] ["book","deed"] (aC Ij):=⟨rfl,rfl,rfl,by decide +kernel,rfl,by decide +kernel,by decide +kernel⟩
def Qe(h:Has K mg "done" Ij ["book","deed"]){j:Addr}(r:mg "DOERS" = some (.ref j))(Vu:KFT K j iK)(n:MgK K mg)(q:jj P w K mg base "link_done" 6 ["book","deed"] (yu (c5 Us Ur Uv Ut Uu) 7))(D:jj P w K mg base "loose_done" 5 ["book","deed"] (yu (c5 Us Ur Uv Ut Uu) 8))(G:jj P w K mg base "step_done" 5 ["book","deed"] (yu (c5 Us Ur Uv Ut Uu) 9))(C:jj P w K mg base "alone_done" 5 ["book","deed"] (yu (c5 Us Ur Uv Ut Uu) 10))(u:jj P w K mg base "lack_done" 2 ["book","deed"] (yu (c5 Us Ur Uv Ut Uu) 11)):jj P w K mg base "done" 7 ["book","deed"] (uE (c5 Us Ur Uv Ut Uu)):=by
 refine h.mk1 JG (λB H Q E m=>?_) (λf F A outer s H B Q E y m=>?_)
 .obtain⟨v,o,k,nm,ys,rfl,_⟩:=Fy m
  rfl
 obtain⟨v,o,x,nm,ys,rfl,hd,t,d,rfl,c⟩:=Fy m;refine⟨_,(au (aL (i:=2) JG.nd rfl (Or.inl rfl) (Lh (iW (v:=.ref j) rfl r rfl) (bA bG (pv 1) aA (λ_ _=>rfl)) (λ_ _=>rfl)))
  (aB (aW (Kc y (pv 2) fY (aj (pv 0) (aj (pv 1) aq)))))),?_⟩
 refine⟨_,rfl,ixT (p:=o) rfl rfl (SqT.of hd) (bF _ _) (⟨ j,iK,x,nmD d.ix,rfl,rfl,Vu,t,λe z=>?_⟩)⟩;have g:=n _ _ z;cases d with
 | link =>
  obtain⟨l,a,b⟩:=q.fn;rw[show mg (Str.ofString "link_done")=_ from g] at a;cases a;exact⟨e,_,_,_,rfl,b,by decide,_,rfl,_,rfl,uP c⟩
 | loose =>
  obtain⟨l,a,b⟩:=D.fn;rw[show mg (Str.ofString "loose_done")=_ from g] at a;cases a;exact⟨e,_,_,_,rfl,b,by decide,_,rfl,_,rfl,uP c⟩
 | step =>
  obtain⟨l,a,b⟩:=G.fn;rw[show mg (Str.ofString "step_done")=_ from g] at a;cases a;exact⟨e,_,_,_,rfl,b,by decide,_,rfl,_,rfl,uP c⟩
 | alone =>
  obtain⟨l,a,b⟩:=C.fn;rw[show mg (Str.ofString "alone_done")=_ from g] at a;cases a;exact⟨e,_,_,_,rfl,b,by decide,_,rfl,_,rfl,uP c⟩
 | lack =>
  obtain⟨l,a,b⟩:=u.fn;rw[show mg (Str.ofString "lack_done")=_ from g] at a;cases a;exact⟨e,_,_,_,rfl,b,by decide,_,rfl,_,rfl,uP c⟩
end
def gw(lo:Addr)(l s m:Int):List (Key × V):=[(Sum.inr "own",.ref lo),(Sum.inr "left",.int l),(Sum.inr "seed",.int s),(Sum.inr "many",.int m)]
def kn1:¬ ((Sum.inr (Str.ofString "own"):Key)=Sum.inr (Str.ofString "left")):=by decide +kernel
def kn2:¬ ((Sum.inr (Str.ofString "own"):Key)=Sum.inr (Str.ofString "seed")):=by decide +kernel
def kn3:¬ ((Sum.inr (Str.ofString "own"):Key)=Sum.inr (Str.ofString "many")):=by decide +kernel
def kn4:¬ ((Sum.inr (Str.ofString "left"):Key)=Sum.inr (Str.ofString "seed")):=by decide +kernel
def kn5:¬ ((Sum.inr (Str.ofString "left"):Key)=Sum.inr (Str.ofString "many")):=by decide +kernel
def kn6:¬ ((Sum.inr (Str.ofString "seed"):Key)=Sum.inr (Str.ofString "many")):=by decide +kernel
def sn1:¬ (Str.ofString "own" = Str.ofString "left"):=by decide +kernel
def sm1:¬ (Str.ofString "left" = Str.ofString "own"):=by decide +kernel
def sn2:¬ (Str.ofString "own" = Str.ofString "seed"):=by decide +kernel
def sm2:¬ (Str.ofString "seed" = Str.ofString "own"):=by decide +kernel
def sn3:¬ (Str.ofString "own" = Str.ofString "many"):=by decide +kernel
def sm3:¬ (Str.ofString "many" = Str.ofString "own"):=by decide +kernel
def sn4:¬ (Str.ofString "left" = Str.ofString "seed"):=by decide +kernel
def sm4:¬ (Str.ofString "seed" = Str.ofString "left"):=by decide +kernel
def sn5:¬ (Str.ofString "left" = Str.ofString "many"):=by decide +kernel
def sm5:¬ (Str.ofString "many" = Str.ofString "left"):=by decide +kernel
def sn6:¬ (Str.ofString "seed" = Str.ofString "many"):=by decide +kernel
def sm6:¬ (Str.ofString "many" = Str.ofString "seed"):=by decide +kernel
def RV(lo:Addr)(l s m:Int):gQ (gw lo l s m) (Sum.inr "own" : Key)=some (.ref lo):=bD rfl
def v_left(lo:Addr)(l s m:Int):gQ (gw lo l s m) (Sum.inr "left" : Key)=some (.int l):=(aV kn1).trans (bD rfl)
def Qs(lo:Addr)(l s m:Int):gQ (gw lo l s m) (Sum.inr "seed" : Key)=some (.int s):=(aV kn2).trans ((aV kn4).trans (bD rfl))
def Qy(lo:Addr)(l s m:Int):gQ (gw lo l s m) (Sum.inr "many" : Key)=some (.int m):=(aV kn3).trans ((aV kn5).trans ((aV kn6).trans (bD rfl)))
def Qp(lo:Addr)(l s m i:Int):putK (gw lo l s m) (Sum.inr "left" : Key) (.int i)=gw lo i s m:=by
 unfold putK gw;simp[sn1,sm1,sn2,sm2,sn3,sm3,sn4,sm4,sn5,sm5,sn6,sm6]
def Ob(lo:Addr)(l s m i:Int):putK (gw lo l s m) (Sum.inr "seed" : Key) (.int i)=gw lo l i m:=by
 unfold putK gw;simp[sn1,sm1,sn2,sm2,sn3,sm3,sn4,sm4,sn5,sm5,sn6,sm6]
def O4(lo:Addr)(l s m i:Int):putK (gw lo l s m) (Sum.inr "many" : Key) (.int i)=gw lo l s i:=by
 unfold putK gw;simp[sn1,sm1,sn2,sm2,sn3,sm3,sn4,sm4,sn5,sm5,sn6,sm6]
def CV(lo:Addr)(l s m:Int):iB [] (gw lo l s m)=gw lo l s m:=by
 unfold gw;simp[iB,putK,sn1,sm1,sn2,sm2,sn3,sm3,sn4,sm4,sn5,sm5,sn6,sm6]
def bh(d lo:Addr)(H:Hp):Prop:=∃(cs:List Int)(l s m:Int),H d=some (.dK (gw lo l s m))/\H lo=some (.lst (cs.map V.int))/\0<=l/\∀ c∈cs,0<=c
def Old(d lo:Addr)(H H':Hp):Prop:=∀ c o,H c=some o->c≠d->c≠lo->H' c=some o
def Og(K:W.Frag):Sp:=λb H Q _=>∃(a:Addr)(ns:List Int),b=[.ref a]/\SqL K H a (ns.map V.int)/\ns.length<=63/\∀(d lo:Addr)(H':Hp),Same H H'->bh d lo H'->Q (.ref d) H'
def iD:Sp:=λa H Q _=>∃(d lo:Addr)(m:Int),a=[.ref d,.int m]/\bh d lo H/\0<m/\m<2^63/\∀(r:Int)(H':Hp),0<=r->r<m->bh d lo H'->Old d lo H H'->Q (.int r) H'
def Nm{H:Hp}{d lo:Addr}{l s m:Int}(h:H d=some (.dK (gw lo l s m))):iH H d (.str "own") (some (.ref lo)):=by
 have:=iH.k (k:=(Sum.inr "own" : Key)) h
 rwa [RV] at this
def jt{H:Hp}{d lo:Addr}{l s m:Int}(h:H d=some (.dK (gw lo l s m))):iH H d (.str "left") (some (.int l)):=by
 have:=iH.k (k:=(Sum.inr "left" : Key)) h
 rwa [v_left] at this
def qI{H:Hp}{d lo:Addr}{l s m:Int}(h:H d=some (.dK (gw lo l s m))):iH H d (.str "seed") (some (.int s)):=by
 have:=iH.k (k:=(Sum.inr "seed" : Key)) h
 rwa [Qs] at this
def qQ{H:Hp}{d lo:Addr}{l s m:Int}(h:H d=some (.dK (gw lo l s m))):iH H d (.str "many") (some (.int m)):=by
 have:=iH.k (k:=(Sum.inr "many" : Key)) h
 rwa [Qy] at this
def zE{H:Hp}{d lo:Addr}{l s m:Int}(i:Int)(h:H d=some (.dK (gw lo l s m))):vJ H d (.str "left") (.int i) (upd H d (.dK (gw lo i s m))):=by
 have:=vJ.k (k:=(Sum.inr "left" : Key)) (v:=.int i) h (aH (by show 4<=1000;decide))
 rwa [Qp] at this
def Df{H:Hp}{d lo:Addr}{l s m:Int}(i:Int)(h:H d=some (.dK (gw lo l s m))):vJ H d (.str "seed") (.int i) (upd H d (.dK (gw lo l i m))):=by
 have:=vJ.k (k:=(Sum.inr "seed" : Key)) (v:=.int i) h (aH (by show 4<=1000;decide))
 rwa [Ob] at this
def Bx{H:Hp}{d lo:Addr}{l s m:Int}(i:Int)(h:H d=some (.dK (gw lo l s m))):vJ H d (.str "many") (.int i) (upd H d (.dK (gw lo l s i))):=by
 have:=vJ.k (k:=(Sum.inr "many" : Key)) (v:=.int i) h (aH (by show 4<=1000;decide))
 rwa [O4] at this
def Old.upd_d{d lo:Addr}{H H':Hp}{o:HO}(h:Old d lo H H'):Old d lo H (upd H' d o):=λc b e a f=>by
 rw[aG a];exact h c b e a f
def Old.upd_lo{d lo:Addr}{H H':Hp}{o:HO}(h:Old d lo H H'):Old d lo H (upd H' lo o):=λc b e f a=>by
 rw[aG a];exact h c b e f a
def Old.new{d lo b:Addr}{H H':Hp}{o:HO}(h:Old d lo H H')(hb:H' b=none):Old d lo H (upd H' b o):=λc a e g f=>ao hb o _ _ (h c a e g f)
def Ep:aU ["_law_script","_law_seed","_law_own","_law_cell"] ["_law_script"] (aC QH):=⟨rfl,rfl,rfl,by decide +kernel,rfl,by decide +kernel,by decide +kernel⟩
def RM(h:Has K mg "_law_pot" QH ["_law_script"])  : Cal P w K mg base "_law_pot" 1 ["_law_script"] (Og K):=by
 refine h.mk' Ep (λB H Q E o=>?_) (λf C A outer s H B Q E G o=>?_)
 .obtain⟨a,ns,rfl,_⟩:=o
  rfl
 obtain⟨a,ns,rfl,t,D,k⟩:=o;refine⟨_,(au (aL (i:=1) Ep.nd rfl (Or.inl rfl) aA)
  (au (aL (i:=2) Ep.nd rfl (Or.inl rfl) (bI aq))
  (au (dJ PassesOwn.never rfl (CW (pv 0)) (aK (i:=3) Ep.nd rfl (Or.inl rfl))
   (au (aL (i:=1) Ep.nd rfl (Or.inl rfl) (bB gW (bB gk (bB gk (bB zJ (pv 1) aA) (bB gW (pv 3) aA)) aA) aA))
  (aB (cB (aQ Rx (pv 3) (bB JZ aA aA) (bC _))
   (aB (cN (PK PySem.F.plainAttrs_list PySem.F.slot_list_append PySem.F.type_list_append bJ (pv 2) (aj (pv 3) aq))))
   bf))))
  (aB (aW (xu (eV aF (pv 2) (eV aF aA (eV aF (pv 1) (eV aF aA vN)))) rfl rfl (by simp) (by decide +kernel))))))),?_⟩
 refine⟨smn 0,λlo b=>?_⟩;have q:H lo=none:=b;refine⟨_,rfl,a,rfl,⟨_,(ao b (.lst [])).seq t⟩,?_⟩;refine jh (K:=K) (a:=a) (xs:=ns.map V.int) (λi σ j=>∃(s:Int)(g:List Int)(m:Option V),σ=[some (.ref a),some (.int s),some (.ref lo),m]/\j=upd H lo (.lst (g.map V.int))/\(∀ c∈g,0<=c)/\g.length<=i) ⟨11,[],none,rfl,rfl,(λc h=>by cases h),ql _⟩ ?_ ?_ ?_
 .rintro i σ j _ ⟨s,g,m,rfl,rfl,_,_⟩;exact(ao b _).seq t
 .rintro i y σ j u ⟨s,g,m,rfl,rfl,l,x⟩;obtain⟨c,rfl⟩:=zM u;have r:i<63:=by
   have:=(pN.mp u).1;rw[XF] at this;lia
  refine⟨_,rfl,_,_,rfl,rfl,.inr ⟨by decide,by decide⟩,_,rfl,_,_,rfl,rfl,(by show(0:Int)<2147483629;decide),_,_,rfl,rfl,_,_,rfl,rfl,_,_,rfl,rfl,(by show(0:Int)<2305843009213693951;decide),?_⟩;refine⟨_,rfl,_,_,rfl,rfl,⟨by decide,by decide,by decide⟩,_,_,rfl,rfl,_,rfl,?_⟩;tm_at"d"
  .have p:0<=c:=by
    have:=Xv z;have e:(10:Int)^(18:Int).toNat=1000000000000000000:=by decide
    rw[e] at this;lia
   refine⟨_,rfl,.inl ⟨rfl,_,SqL.of ak⟩,_,rfl,lo,_,_,rfl,rfl,ak,by rw[XF];exact aH (by lia),_,g++[c],_,rfl,?_,?_,?_⟩
   .rw[kY,map_append]
    rfl
   .intro v h';rcases mem_append.mp h' with z | z
    .exact l v z
    .rw[mem_singleton.mp z];exact p
   .rw[Xr,length_singleton];lia
  .exact⟨_,g,_,rfl,rfl,l,by lia⟩
 .rintro σ j ⟨s,g,m,rfl,rfl,l,x⟩;refine λd hd=>⟨_,rfl,_,rfl,ak,gw lo 0 s 0,rfl,(by show 4<=15;decide),?_⟩
  have n:lo≠d:=aD ak hd;rw[CV,kY];exact k d lo _ ((ao b _).trans (ao hd _)) ⟨g,0,s,0,ak,(aG n).trans ak,Int.le_refl _,l⟩
def Dr:aU ["_law_pot_here","_law_many","_law_drawn","_law_mixed"] ["_law_pot_here","_law_many"] (aC Ie):=⟨rfl,rfl,rfl,by decide +kernel,rfl,by decide +kernel,by decide +kernel⟩
def Qx(h:Has K mg "_law_next" Ie ["_law_pot_here","_law_many"])  : Cal P w K mg base "_law_next" 1 ["_law_pot_here","_law_many"] iD:=by
 refine h.mk' Dr (λvs H Q E T=>?_) (λf ae A outer s H vs Q E q T=>?_)
 .obtain⟨d,lo,m,rfl,_⟩:=T
  rfl
 obtain⟨d,lo,m,rfl,⟨y,l,sd,j,D,u,Y,v⟩,r,m1,k⟩:=T;refine⟨_,(au (cB (PW.pt (qw (aQ gJ (bx (bZ q) (pv 0) aF (λ_ _=>rfl)) aA (bC _)) (lG (aQ (Ge q.units0) (bx (bZ q) (pv 0) aF (λ_ _=>rfl)) (bI aq) (bC _)))))
   (aB (fW (bZ q) (pv 0) aF (dY PySem.F.plainAttrs_list PySem.F.slot_list_pop PySem.F.type_list_pop zf (bx (bZ q) (pv 0) aF (λ_ _=>rfl)) (aj aA aq)) rfl))
   bf)
  (au (cB (aQ Oe (bx (bZ q) (pv 0) aF (λ_ _=>rfl)) aA (bC _))
   (au (aL (i:=2) Dr.nd rfl (Or.inl rfl) (bB gW (bx (bZ q) (pv 0) aF (λ_ _=>rfl)) (pv 1)))
  (au (fW (bZ q) (pv 0) aF (bB jH (bx (bZ q) (pv 0) aF (λ_ _=>rfl)) (pv 1)) rfl)
  (aB (aW (pv 2)))))
   bf)
  (au (fW (bZ q) (pv 0) aF (bB gk (bx (bZ q) (pv 0) aF (λ_ _=>rfl)) aA) rfl)
  (au (aL (i:=3) Dr.nd rfl (Or.inl rfl) (bB gW (bB zJ (bB gk (bx (bZ q) (pv 0) aF (λ_ _=>rfl)) (bB zJ (bx (bZ q) (pv 0) aF (λ_ _=>rfl)) aA)) aA) aA))
  (au (fW (bZ q) (pv 0) aF (bB gW (bB zJ (pv 3) (bB gk (bB gW (pv 3) aA) aA)) aA) rfl)
  (aB (aW (bB gW (bB jH (bx (bZ q) (pv 0) aF (λ_ _=>rfl)) aA) (pv 1))))))))),?_⟩
 have g:d≠lo:=mH D u (by intro z;cases z);have B:Old d lo H H:=λc o e _ _=>e
 refine⟨_,rfl,d,_,rfl,jt D,rfl,_,rfl,?_⟩;refine dO (λZ=>?_) (λZ=>?_)
 .have S:l=0:=by
   have:=Xv Z;injection this
  subst S;refine⟨_,rfl,d,_,rfl,Nm D,smn 0,λb O=>?_⟩;have ab:d≠b:=aD D O;have aa:lo≠b:=aD u O;have U:=ao O (.lst []);refine⟨lo,b,_,rfl,rfl,U _ _ u,ak,_,rfl,?_⟩;have a:=U _ _ D;have n:=U _ _ u;have t:Old d lo H (upd H b (.lst [])):=Old.new B O;generalize upd H b (.lst [])=J at a n t;cases y with
  | nil =>
   refine Gw ?_;refine⟨_,rfl,d,_,rfl,jt a,_,_,rfl,rfl,_,rfl,?_⟩;tm_at"d"
   .refine⟨_,rfl,d,_,rfl,jt a,_,rfl,_,_,rfl,rfl,r,?_⟩;refine⟨_,rfl,d,_,rfl,jt a,_,rfl,_,_,rfl,rfl,⟨r,by lia⟩,_,rfl,d,_,rfl,zE _ a,?_⟩;refine⟨_,rfl,k _ _ (Int.emod_nonneg _ (by lia)) (Int.emod_lt_of_pos _ r) ⟨[],_,sd,j,ak,(aG g.symm).trans n,Int.ediv_nonneg (Int.le_refl 0) (by lia),v⟩ (Old.upd_d t)⟩
   .refine⟨_,rfl,d,_,rfl,qQ a,_,_,rfl,rfl,_,rfl,d,_,rfl,Bx _ a,?_⟩;have a:(upd J d (.dK (gw lo 0 sd (j+1)))) d=some (.dK (gw lo 0 sd (j+1))):=ak;tm_at"a";exact k _ _ (Int.emod_nonneg _ (by lia)) (Int.emod_lt_of_pos _ r) ⟨[],0,_,_,ak,(aG g.symm).trans ((aG g.symm).trans n),(Int.le_refl 0),v⟩ (Old.upd_d (Old.upd_d t))
  | cons c y =>
   refine lQ ?_;refine⟨_,rfl,d,_,rfl,Nm a,.inl ⟨rfl,_,SqL.of n⟩,lo,_,0,0,.int c,rfl,rfl,n,by decide,by decide,by simp[seqIndex?],rfl,?_⟩;have L:(upd J lo (.lst (((c::y).map V.int).eraseIdx 0))) lo=some (.lst (y.map V.int)):=ak;have R:(upd J lo (.lst (((c::y).map V.int).eraseIdx 0))) d=some (.dK (gw lo 0 sd j)):=(aG g).trans a;have N:Old d lo H (upd J lo (.lst (((c::y).map V.int).eraseIdx 0))):=Old.upd_lo t;have M:0<=c:=v c Xl;have I:∀ x∈y,0<=x:=λx hx=>v x (Xm _ hx)
   refine⟨_,rfl,d,_,rfl,zE c R,?_⟩;have p:(upd (upd J lo (.lst (((c::y).map V.int).eraseIdx 0))) d (.dK (gw lo c sd j))) d=some (.dK (gw lo c sd j)):=ak;have C:=(aG (o:=HO.dK (gw lo c sd j)) g.symm).trans L;have G:=Old.upd_d (o:=HO.dK (gw lo c sd j)) N;generalize upd (upd J lo (.lst (((c::y).map V.int).eraseIdx 0))) d (.dK (gw lo c sd j))=H3 at p C G;refine⟨_,rfl,d,_,rfl,jt p,_,_,rfl,rfl,_,rfl,?_⟩;tm_at"d"
   .refine⟨_,rfl,d,_,rfl,jt p,_,rfl,_,_,rfl,rfl,r,?_⟩;refine⟨_,rfl,d,_,rfl,jt p,_,rfl,_,_,rfl,rfl,⟨r,by lia⟩,_,rfl,d,_,rfl,zE _ p,?_⟩;refine⟨_,rfl,k _ _ (Int.emod_nonneg _ (by lia)) (Int.emod_lt_of_pos _ r) ⟨y,_,sd,j,ak,(aG g.symm).trans C,Int.ediv_nonneg M (by lia),I⟩ (Old.upd_d G)⟩
   .refine⟨_,rfl,d,_,rfl,qQ p,_,_,rfl,rfl,_,rfl,d,_,rfl,Bx _ p,?_⟩;have a:(upd H3 d (.dK (gw lo c sd (j+1)))) d=some (.dK (gw lo c sd (j+1))):=ak;tm_at"a";exact k _ _ (Int.emod_nonneg _ (by lia)) (Int.emod_lt_of_pos _ r) ⟨y,c,_,_,ak,(aG g.symm).trans ((aG g.symm).trans C),M,I⟩ (Old.upd_d (Old.upd_d G))
 .refine Gw ?_;refine⟨_,rfl,d,_,rfl,jt D,_,_,rfl,rfl,_,rfl,?_⟩;tm_at"d"
  .refine⟨_,rfl,d,_,rfl,jt D,_,rfl,_,_,rfl,rfl,r,?_⟩;refine⟨_,rfl,d,_,rfl,jt D,_,rfl,_,_,rfl,rfl,⟨r,by lia⟩,_,rfl,d,_,rfl,zE _ D,?_⟩;refine⟨_,rfl,k _ _ (Int.emod_nonneg _ (by lia)) (Int.emod_lt_of_pos _ r) ⟨y,_,sd,j,ak,(aG g.symm).trans u,Int.ediv_nonneg Y (by lia),v⟩ (Old.upd_d B)⟩
  .refine⟨_,rfl,d,_,rfl,qQ D,_,_,rfl,rfl,_,rfl,d,_,rfl,Bx _ D,?_⟩;have a:(upd H d (.dK (gw lo l sd (j+1)))) d=some (.dK (gw lo l sd (j+1))):=ak;tm_at"a";exact k _ _ (Int.emod_nonneg _ (by lia)) (Int.emod_lt_of_pos _ r) ⟨y,l,_,_,ak,(aG g.symm).trans ((aG g.symm).trans u),Y,v⟩ (Old.upd_d (Old.upd_d B))
def qex{X:Cx}{st:List Stmt}{D:Ends}{σ:L2.St}{H:Hp}(h:∃ t,QSs X st t/\t D σ H):∃ t,PSs X st t/\t D σ H:=h.elim λt h=>⟨t,h.1.h,h.2⟩
def bh.same{d lo:Addr}{H H':Hp}(h:bh d lo H)(s:Same H H'):bh d lo H':=by
 obtain⟨b,l,sd,m,a,c,r⟩:=h;exact⟨b,l,sd,m,s _ _ a,s _ _ c,r⟩
def bh.new{d lo b:Addr}{H:Hp}{o:HO}(h:bh d lo H)(hb:H b=none):bh d lo (upd H b o):=h.same (ao hb o)
def bh.ne{d lo b:Addr}{H:Hp}(h:bh d lo H)(hb:H b=none):b≠d/\b≠lo:=by
 obtain⟨e,l,sd,m,a,c,r⟩:=h;exact⟨(aD a hb).symm,(aD c hb).symm⟩
def bh.upd{d lo b:Addr}{H:Hp}{o:HO}(h:bh d lo H)(h1:b≠d)(h2:b≠lo):bh d lo (upd H b o):=by
 obtain⟨c,l,sd,m,a,e,r⟩:=h;exact⟨c,l,sd,m,(aG h1.symm).trans a,(aG h2.symm).trans e,r⟩
def Old.trans{d lo:Addr}{H H1 H2:Hp}(a:Old d lo H H1)(b:Old d lo H1 H2):Old d lo H H2:=λc o e g f=>b c o (a c o e g f) g f
def Old.of{d lo:Addr}{H H1:Hp}(a:Same H H1):Old d lo H H1:=λc o e _ _=>a c o e
def Old.free{d lo b:Addr}{H H1:Hp}{o:HO}(a:Old d lo H H1)(hb:H b=none):Old d lo H (L2.upd H1 b o):=λc f e h g=>by
 rw[aG (aD e hb)];exact a c f e h g
def dW{d lo:Addr}{H H':Hp}(hp:bh d lo H)(o:Old d lo H H'):∀(b:Addr)(a:List V),H b=some (.tup a)->H' b=some (.tup a):=λb a e=>by
 obtain⟨g,l,sd,m,c,f,r⟩:=hp;exact o b _ e (mH e c (by intro z;cases z)) (mH e f (by intro z;cases z))
def mG{σ:L2.St}{H:Hp}{i:Nat}{d lo:Addr}{m:Int}{Q:VK}(hσ:σ[i]?=some (some (.ref d)))(hp:bh d lo H)(h0:0<m)(h1:m<2^63)(k:∀(r:Int)(H':Hp),0<=r->r<m->bh d lo H'->Old d lo H H'->Q (.int r) H') :
  Kp iD [] E0 (Bt (QG i) (Bt (tC (.int m)) RL)) σ H Q:=⟨_,hσ,d,lo,m,rfl,hp,h0,h1,k⟩
def Lk{k n:Nat}(h:k<n):seqIndex? ((k:Nat):Int) n=some k:=by
 unfold seqIndex?;simp;lia
theorem uG{α β:Type}(f:α->β):∀(xs:List α)(i:Nat),(xs.map f).eraseIdx i=(xs.eraseIdx i).map f
 | [],_=>rfl
 | _::_,0=>rfl
 | x::xs,i+1=>by
  show f x::(xs.map f).eraseIdx i=f x::(xs.eraseIdx i).map f;rw[uG f xs i]
def KY{K:W.Frag}{H:Hp}{l:Addr}{a b r:Int}{Q:VK}(h:H l=some (.lst [.int a,.int b]))(k:∀ v:Int,v=a\/v=b->Q (.int v) H):RN K (.ref l) (.int (if decide (V.int r=V.int 0)=true then 1 else 0)) H Q:=by
 by_cases hr:decide (V.int r=V.int 0)=true
 .rw[if_pos hr];exact⟨l,_,_,.int b,rfl,rfl,SqL.of h,aZ (xs:=[V.int a,V.int b]) (j:=1) rfl,k b (.inr rfl)⟩
 .rw[if_neg hr];exact⟨l,_,_,.int a,rfl,rfl,SqL.of h,bF _ _,k a (.inl rfl)⟩
def good_str{x y:Str}(hx:∀ c∈x.cps.toList,pU c)(hy:∀ c∈y.cps.toList,pU c):∀ c∈(x++y).cps.toList,pU c:=λc a=>by
 have e:(x++y).cps.toList=x.cps.toList++y.cps.toList:=by
  show(x.cps++y.cps).toList=_;simp
 rw[e] at a;rcases mem_append.mp a with z | z
 .exact hx c z
 .exact hy c z
instance (c:Nat):Decidable (pU c):=by unfold pU;infer_instance
def rQ:Sp:=λa H Q _=>∃(d lo:Addr)(n:Int),a=[.ref d,.int n]/\bh d lo H/\0<=n/\n<=12/\∀(r:Int)(H':Hp),0<=r->r<=12->bh d lo H'->Old d lo H H'->Q (.int r) H'
def jJ:Sp:=λa H Q _=>∃(d lo:Addr)(n:Nat),a=[.ref d,.int (n:Nat)]/\bh d lo H/\n<=13/\∀(q:Addr)(ms:List Int)(H':Hp),H' q=some (.tup (ms.map V.int))->GQ ms->ms.length=n->bh d lo H'->Old d lo H H'->Q (.ref q) H'
def jD(d lo l:Addr)(H H':Hp):Prop:=∀ c o,H c=some o->c≠d->c≠lo->c≠l->H' c=some o
def tE:Sp:=λa H Q _=>∃(d lo l:Addr)(xs:Nms),a=[.ref d,.ref l]/\bh d lo H/\H l=some (.lst (xs.map mkT))/\l≠d/\l≠lo/\xs≠[]/\xs.length<=1000/\∀(i:Nat)(h:i<xs.length)(H':Hp),H' l=some (.lst ((xs.eraseIdx i).map mkT))->bh d lo H'->jD d lo l H H'->Q (mkT xs[i]) H'
def Lq:aU ["_law_pot_here","_law_most"] ["_law_pot_here","_law_most"] (aC yC):=⟨rfl,rfl,rfl,by decide +kernel,rfl,by decide +kernel,by decide +kernel⟩
def Nb(h:Has K mg "_law_count" yC ["_law_pot_here","_law_most"])(j:Cal P w K mg base "_law_next" 1 ["_law_pot_here","_law_many"] iD)(u:mg "int" = none):Cal P w K mg base "_law_count" 2 ["_law_pot_here","_law_most"] rQ:=by
 refine h.mk' Lq (λD H Q E c=>?_) (λf J A outer s H D Q E l c=>?_)
 .obtain⟨d,lo,n,rfl,_⟩:=c
  rfl
 obtain⟨d,lo,n,rfl,q,O,N,k⟩:=c;refine⟨_,(aB (aW (aN j l (by decide) rfl (aj (pv 0) (aj (bB gk (bA bw (bI (aj (pv 1) (aj aA aq))) (aP jV rfl u boot_int (aj (eU gJ (aN j l (by decide) rfl (aj (pv 0) (aj aA aq))) aA (bC _)) aq)) (λ_ _=>rfl)) aA) aq))))),?_⟩;refine⟨_,rfl,_,rfl,smn 2,λy a=>?_⟩;have e:=q.new (o:=HO.lst [.int n,.int 12]) a;obtain⟨g,b⟩:=q.ne a;refine mG (σ:=[some (.ref d),some (.int n)]) (i:=0) (m:=8) rfl e (by decide) (by decide) λr L R S C p=>?_
 refine⟨rfl,.inr ⟨_,rfl,KY (p y _ ak g b) λv B=>?_⟩⟩;have z:0<=v/\v<=12:=by rcases B with rfl | rfl <;> lia
 refine⟨_,_,rfl,rfl,d,lo,_,rfl,C,(by show 0<v+1;lia),(by show v+1<_;lia),λF I x M t G=>?_⟩;exact k F I x (by lia) t (((Old.of (ao a _)).trans p).trans G)
def Li:aU ["_law_pot_here","_law_names_here"] ["_law_pot_here","_law_names_here"] (aC yV):=⟨rfl,rfl,rfl,by decide +kernel,rfl,by decide +kernel,by decide +kernel⟩
def Mq(h:Has K mg "_law_taken" yV ["_law_pot_here","_law_names_here"])(x:Cal P w K mg base "_law_next" 1 ["_law_pot_here","_law_many"] iD)(u:mg "len" = none):Cal P w K mg base "_law_taken" 2 ["_law_pot_here","_law_names_here"] tE:=by
 refine h.mk' Li (λD H Q E g=>?_) (λf L A outer s H D Q E y g=>?_)
 .obtain⟨d,lo,l,xs,rfl,_⟩:=g
  rfl
 obtain⟨d,lo,l,xs,rfl,z,b,nd,nl,j,n,k⟩:=g;refine⟨_,(aB (aW (dY PySem.F.plainAttrs_list PySem.F.slot_list_pop PySem.F.type_list_pop zf (pv 1) (aj (aN x y (by decide) rfl (aj (pv 0) (aj (aR cM rfl u PySem.boot_len (aj (pv 1) aq)) aq))) aq)))),?_⟩;have q:0<xs.length:=length_pos_iff.mpr j;refine⟨_,rfl,.inl ⟨rfl,_,SqL.of b⟩,_,rfl,_,rfl,l,_,rfl,.inl (SqL.of b),?_⟩;refine⟨d,lo,_,rfl,z,(by rw[XF];lia),(by rw[XF];lia),λr t G I B p=>?_⟩;have a:t l=some (.lst (xs.map mkT)):=p l _ b nd nl;obtain⟨i,rfl⟩:=Int.eq_ofNat_of_zero_le G;have m:i<xs.length:=by
  rw[XF] at I;lia
 refine⟨l,_,_,i,mkT xs[i],rfl,rfl,a,by lia,by lia,by rw[XF];exact Lk m,by rw[XC,n6 m];rfl,?_⟩;rw[uG];exact k i m _ ak (B.upd nd nl) λc o e v C J=>(aG J).trans (p c o e v C)
def gZ:aU ["_law_pot_here","_law_many","_law_made","_law_now","_law_k"] ["_law_pot_here","_law_many"] (aC mJ):=⟨rfl,rfl,rfl,by decide +kernel,rfl,by decide +kernel,by decide +kernel⟩
def FN(h:Has K mg "_law_moments" mJ ["_law_pot_here","_law_many"])(UJ:Cal P w K mg base "_law_next" 1 ["_law_pot_here","_law_many"] iD)(Vl:mg "int" = none)(UW:mg "range" = none)(Ux:mg "tuple" = none):Cal P w K mg base "_law_moments" 2 ["_law_pot_here","_law_many"] jJ:=by
 refine h.mk' gZ (λvs H Q E Z=>?_) (λf aE A outer s H vs Q E hr Z=>?_)
 .obtain⟨d,lo,n,rfl,_⟩:=Z
  rfl
 obtain⟨d,lo,n,rfl,hp,hn,k⟩:=Z;refine⟨_,(au (aL (i:=2) gZ.nd rfl (Or.inl rfl) (bI aq))
  (au (aL (i:=3) gZ.nd rfl (Or.inl rfl) (bA bw (bI (aj aA (aj (bB CK (bB JZ aA aA) aA) aq))) (aP jV rfl Vl boot_int (aj (eU gJ (aN UJ hr (by decide) rfl (aj (pv 0) (aj aA aq))) aA (bC _)) aq)) (λ_ _=>rfl)))
  (au (dJ PassesOwn.never rfl (cX rfl UW (aj (pv 1) aq)) (aK (i:=4) gZ.nd rfl (Or.inl rfl))
   (au (aL (i:=3) gZ.nd rfl (Or.inl rfl) (bB gk (bB gk (pv 3) (aN UJ hr (by decide) rfl (aj (pv 0) (aj aA aq)))) (aP jV rfl Vl boot_int (aj (eU Oe (pv 4) aA (bC _)) aq))))
  (aB (cN (dY PySem.F.plainAttrs_list PySem.F.slot_list_append PySem.F.type_list_append bJ (pv 2) (aj (pv 3) aq))))))
  (aB (aW (aP aM rfl Ux boot_tuple (aj (pv 2) aq))))))),?_⟩
 refine⟨smn 0,λg p=>?_⟩;obtain⟨C,x⟩:=hp.ne p;have G:=hp.new (o:=HO.lst []) p;refine⟨_,_,rfl,rfl,⟨by decide,by decide,by decide⟩,_,_,rfl,rfl,smn 2,λl2 u=>?_⟩;obtain⟨S,L⟩:=G.ne u;refine mG (σ:=[some (.ref d),some (.int (n:Nat)),some (.ref g),none,none]) (i:=0) (m:=12) rfl (G.new u) (by decide) (by decide) λr H2 r0 r1 p2 Y=>?_
 have J:H2 g=some (.lst []):=Y g _ (ao u _ _ _ ak) C x;have oA:Old d lo H H2:=((Old.of (ao p _)).trans (Old.of (ao u _))).trans Y;refine⟨rfl,.inr ⟨_,rfl,KY (Y l2 _ ak S L) λv hv=>?_⟩⟩;have U:(10:Int)^(12:Int).toNat=1000000000000:=by decide
 have X:0<=v/\v<=999999999500:=by
  rcases hv with rfl | rfl
  .decide
  .rw[U]
   decide
 refine⟨_,rfl,_,rfl,by lia,by lia,?_⟩;refine iJ (lo:=0) (n:=n) (λj σ D=>∃(N:Option V)(now:Int)(l:List Int),σ=[some (.ref d),some (.int (n:Nat)),some (.ref g),some (.int now),N]/\bh d lo D/\Old d lo H D/\D g=some (.lst (l.map V.int))/\l.length=j/\0<=now/\now<=999999999500+30*j/\(∀ m∈l,0<=m/\m<=now)/\l.Pairwise (· < ·))
  ⟨none,v,[],rfl,p2,oA,J,rfl,X.1,by lia,(λm h=>by cases h),.nil⟩ ?_ ?_
 .rintro j σ D hj ⟨N,now,l,rfl,R,W,M,t,O,aa,e,y⟩;refine gN ⟨_,rfl,?_⟩;refine mG (σ:=[some (.ref d),some (.int (n:Nat)),some (.ref g),some (.int now),some (.int (0+(j:Int)))]) (i:=0) (m:=30) rfl R (by decide) (by decide) λr5 H5 q0 q1 p5 o5=>?_
  have e5:H5 g=some (.lst (l.map V.int)):=o5 g _ M C x;refine⟨_,_,rfl,rfl,_,rfl,_,_,rfl,rfl,.inr ⟨_,rfl,_,_,rfl,rfl,?_⟩⟩;generalize hb:(if decide ((0:Int)<0+(j:Int))=true then (1:Int) else 0)=b;have T:0<=b/\b<=1/\(0<j->b=1):=by
   subst hb;by_cases B:0<j
   .rw[if_pos (XD (by lia))];exact⟨by decide,by decide,λ_=>rfl⟩
   .rw[if_neg (λz=>by have:=Xv z;lia)];exact⟨by decide,by decide,λz=>absurd z B⟩
  refine⟨_,rfl,.inl ⟨rfl,_,SqL.of e5⟩,_,rfl,g,_,_,rfl,rfl,e5,?_,?_⟩
  .rw[XF];exact aH (by lia)
  .refine⟨_,now+r5+b,l++[now+r5+b],rfl,p5.upd C x,(W.trans o5).free p,?_,by rw[Xr,t];rfl,by lia,by lia,λm I=>?_,?_⟩
   .rw[ak,map_append]
    rfl
   .rcases mem_append.mp I with z | z
    .have:=e m z;lia
    .rw[mem_singleton.mp z];lia
   .rw[pairwise_append];refine⟨y,List.pairwise_singleton _ _,λa ha c hc=>?_⟩;rw[mem_singleton.mp hc];have B:0<j:=by
     rw[← t];exact length_pos_of_mem ha
    have:=(e a ha).2;have:=T.2.2 B;lia
 .rintro σ D ⟨N,now,l,rfl,R,W,M,t,O,aa,e,y⟩;refine⟨_,rfl,g,_,rfl,.inl ⟨SqL.of M,λq hq=>?_⟩⟩;exact k q l _ ak ⟨λm I=>⟨(e m I).1,by have:=(e m I).2;lia⟩,y,by lia⟩ t (R.new hq) (W.trans (Old.of (ao hq _)))
def unD:D->List Nat
 | .str x=>x.cps.toList
 | _=>[]
def zj(x:List Nat):unD (sD x)=x:=by
 show(x.toArray).toList=x;simp
theorem sy:∀(a:Nms),(a.map sD).map unD=a
 | []=>rfl
 | t::a=>by rw[map_cons,map_cons,zj,sy a]
def zY{ds:List D}{ts:Nms}(h:ds.Perm (ts.map sD)):∃ ns:Nms,ds=ns.map sD/\ns.Perm ts:=by
 refine⟨ds.map unD,?_,?_⟩
 .have all:∀ d∈ds,sD (unD d)=d:=λd hd=>by
   obtain⟨x,_,rfl⟩:=mem_map.mp (h.mem_iff.mp hd);rw[zj]
  rw[map_map]
  conv=>lhs;rw[← List.map_id ds]
  exact List.map_congr_left λd hd=>(all d hd).symm
 .have:=h.map unD
  rwa [sy] at this
def yE{a b:List Nat}(h:sD a=sD b):a=b:=by
 have:=congrArg unD h
 rwa [zj,zj] at this
def tX{ns:Nms}(hu:UpD (ns.map sD))(hn:ns.Nodup):ns.Pairwise λa b=>dlt (sD a) (sD b)=true:=by
 unfold UpD at hu;rw[pairwise_map] at hu;rw[nodup_iff_pairwise_ne] at hn;refine List.Pairwise.imp₂ (λa b d c=>?_) hu hn;cases h:dlt (sD a) (sD b) with
 | true=>rfl
 | false=>exact absurd (yE (kW _ _ h d)) c
def iw(ts:Nms):Hom (ts.map sD):=by
 refine⟨λa c b e=>?_,.inr (.inl λd hd=>?_)⟩
 .obtain⟨x,_,rfl⟩:=mem_map.mp c;obtain⟨y,_,rfl⟩:=mem_map.mp e;exact pF _ _
 .obtain⟨x,_,rfl⟩:=mem_map.mp hd;exact⟨_,rfl⟩
theorem jM{α:Type}:∀ {xs:List α}{i:Nat} (h:i<xs.length),xs.Perm ([xs[i]]++xs.eraseIdx i)
 | x::xs,0,_=>List.Perm.refl _
 | x::xs,i+1,h=>by
  have h':i<xs.length:=by simpa using h
  have a:=jM h';show(x::xs).Perm (xs[i]::x::xs.eraseIdx i);exact((a.cons x).trans (List.Perm.swap _ _ _))
def JF:Sp:=λa H Q _=>∃(d lo l:Addr)(xs:Nms)(n:Int),a=[.ref d,.ref l,.int n]/\bh d lo H/\H l=some (.lst (xs.map mkT))/\l≠d/\l≠lo/\xs≠[]/\xs.length<=1000/\xs.Nodup/\(∀ x∈xs,isNm ⟨x.toArray⟩=true)/\1<=n/\n<=12 /\
 ∀(q:Addr)(ns rest:Nms)(H':Hp),H' q=some (.tup (ns.map mkT))->HF ns->ns≠[]->ns.length<=13->xs.Perm (ns++rest)->H' l=some (.lst (rest.map mkT))->bh d lo H'->jD d lo l H H'->Q (.ref q) H'
def Jz:aU ["_law_pot_here","_law_names_here","_law_most","_law_many"] ["_law_pot_here","_law_names_here","_law_most"] (aC FP):=⟨rfl,rfl,rfl,by decide +kernel,rfl,by decide +kernel,by decide +kernel⟩
def Nk(h:Has K mg "_law_some" FP ["_law_pot_here","_law_names_here","_law_most"])(Vc:Cal P w K mg base "_law_count" 2 ["_law_pot_here","_law_most"] rQ)(Vf:Cal P w K mg base "_law_taken" 2 ["_law_pot_here","_law_names_here"] tE)(V1:mg "min" = none)(Vd:mg "len" = none)(Ux:mg "tuple" = none)(UL:mg "sorted" = none)(UW:mg "range" = none):Cal P w K mg base "_law_some" 3 ["_law_pot_here","_law_names_here","_law_most"] JF:=by
 refine h.mk' Jz (λvs H Q E hs=>?_) (λf bn A outer s H vs Q E hr hs=>?_)
 .obtain⟨d,lo,l,xs,n,rfl,_⟩:=hs
  rfl
 obtain⟨d,lo,l,xs,n,rfl,hp,hl,nd,nl,as,aw,ae,ac,aT,bq,k⟩:=hs;refine⟨_,(au (aL (i:=3) Jz.nd rfl (Or.inl rfl) (aR (tU rfl) rfl V1 boot_min (aj (bB gk aA (aN Vc hr (by decide) rfl (aj (pv 0) (aj (bB CK (pv 2) aA) aq)))) (aj (aR cM rfl Vd PySem.boot_len (aj (pv 1) aq)) aq))))
  (aB (aW (aP aM rfl Ux boot_tuple (aj (aR (bT (cj hr.units)) rfl UL boot_sorted (aj (cH ["_law_pot_here","_law_names_here","_law_most","_law_many"] (aC FP) ["_law_pot_here","_law_names_here","_law_k"] [some 0,some 1,none] rfl rfl rfl (cX rfl UW (aj (pv 3) aq)) rfl (by decide +kernel) (by decide +kernel) (by decide +kernel) (by decide +kernel) (hg:=λcl C s H ex pn E=>(aK (i:=2) (by decide +kernel:(["_law_pot_here","_law_names_here","_law_k"]:List Str).Nodup) rfl (Or.inl rfl))) (ht:=λcl C s H ex pn E=>cu) (he:=λcl C s H ex pn E=>(aN Vf hr (by decide) rfl (aj (pv 0) (aj (pv 1) aq))))) aq)) aq))))),?_⟩
 have T:0<xs.length:=length_pos_iff.mpr as;refine⟨_,rfl,_,rfl,_,_,rfl,rfl,d,lo,_,rfl,hp,by lia,by lia,λr H2 r0 r1 p2 o2=>?_⟩;have I:H2 l=some (.lst (xs.map mkT)):=o2 l _ hl nd nl;refine⟨_,_,rfl,rfl,_,rfl,l,_,rfl,.inl (SqL.of I),_,_,rfl,?_⟩;rw[XF];obtain⟨b,em,bb,bt,a9⟩:∃ b:Nat,(if (xs.length:Int)<1+r then (xs.length:Int) else 1+r)=(b:Int)/\1<=b/\b<=13/\b<=xs.length:=by
  by_cases hc:(xs.length:Int)<1+r
  .rw[if_pos hc];exact⟨xs.length,rfl,T,by lia,ql _⟩
  .rw[if_neg hc];exact⟨(1+r).toNat,by lia,by lia,by lia,by lia⟩
 rw[em];refine⟨_,rfl,_,rfl,by lia,by lia,λu m=>?_⟩;obtain⟨F,G⟩:=p2.ne m;have D:u≠l:=(aD I m).symm;refine iz (J:=Itr 0 b) (l:=u) b (λi σ' L=>∃(v:Option V)(p a:Nms),σ'=[some (.ref d),some (.ref l),v]/\L u=some (.lst (p.map mkT))/\L l=some (.lst (a.map mkT))/\p.length=i/\xs.Perm (p++a)/\bh d lo L/\jD d lo l H L)
  ⟨none,[],xs,rfl,ak,(aG D.symm).trans I,rfl,List.Perm.refl _,p2.new m,λc o e M N U=>ao m _ _ _ (o2 c o e M N)⟩ ?_ ?_
 .rintro σ' L ⟨v,p,a,rfl,e1,e2,R,B,X,o3⟩;refine⟨ql _,u,_,_,rfl,.inl (SqL.of e1),dB _ p,iw p,by rw[XF];lia,λx hx=>?_,λl4 us bj ad Z af Y=>?_⟩
  .obtain⟨y,_,rfl⟩:=mem_map.mp hx;exact show dz 50 _ from cZ (n:=0) (eN _) 50
  obtain⟨ns,rfl,t⟩:=zY Z;have eu:=Cd Y;subst eu;have g:xs.Perm (ns++a):=B.trans (t.symm.append_right a);have O:ns.Nodup:=(g.nodup_iff.mp ae).sublist (sublist_append_left _ _);have s4:=ao ad (.lst (ns.map mkT));refine⟨l4,_,rfl,.inl ⟨SqL.of ak,λq hq=>?_⟩⟩;have s5:=s4.trans (ao hq (.tup (ns.map mkT)));refine k q ns a _ ak ⟨λx hx=>ac x (g.mem_iff.mpr (Xx _ hx)),tX af O,by rw[t.length_eq];lia⟩ ?_ (by rw[t.length_eq];lia) g (s5 _ _ e2) (X.same s5) λc o e M N U=>s5 _ _ (o3 c o e M N U)
  intro z;subst z;have:=t.length_eq;simp at this;lia
 .rintro i σ' L hi ⟨v,p,a,rfl,e1,e2,R,B,X,o3⟩;have aa:p.length+a.length=xs.length:=by
   have:=B.length_eq;rw[Xr] at this;lia
  refine⟨hi,?_⟩;rintro y br ⟨rfl,rfl⟩;refine gN (uH (lQ ?_));refine⟨_,rfl,_,rfl,d,lo,l,a,rfl,X,e2,nd,nl,(λz=>by subst z;simp at aa;lia),by lia,λj hj H4 e4 p4 o4=>?_⟩;have W:H4 u=some (.lst (p.map mkT)):=o4 u _ e1 F G D;refine⟨_,W,?_,_,p++[a[j]],a.eraseIdx j,rfl,?_,(aG D.symm).trans e4,by rw[Xr,R];rfl,?_,p4.upd F G,?_⟩
  .rw[XF];exact aH (by lia)
  .rw[ak,map_append]
   rfl
  .refine B.trans ?_;rw[append_assoc];exact(jM hj).append_left p
  .intro c o e M N U;have S:H u=none:=by
    cases hc:H u with
    | none=>rfl
    | some o' =>
     have:=o2 u o' hc F G;rw[m] at this;cases this
   rw[aG (aD e S)];exact o4 c o (o3 c o e M N U) M N U
def Jy:Sp:=λa H Q _=>∃(d lo:Addr),a=[.ref d]/\bh d lo H/\∀(t:List Nat)(H':Hp),t.length<=400->(∀ c∈t,pU c)->bh d lo H'->Old d lo H H'->Q (.str ⟨t.toArray⟩) H'
def len_rep{α:Type}(n:Nat)(t:List α):(List.replicate n t).flatten.length=n*t.length:=by
 induction n with
 | zero=>simp
 | succ n a=>rw[replicate_succ,flatten_cons,Xr,a,Nat.succ_mul,Nat.add_comm]
def K6{α:Type}{n:Nat}{t:List α}{c:α}(h:c∈(List.replicate n t).flatten):c∈t:=by
 obtain⟨l,b,a⟩:=List.mem_flatten.mp h;rw[(mem_replicate.mp b).2] at a;exact a
def Hy(x:Str):x=⟨x.cps.toList.toArray⟩:=by cases x;simp
def ou:aU ["_law_pot_here","_law_pieces","_law_text_here","_law_k"] ["_law_pot_here"] (aC HD):=⟨rfl,rfl,rfl,by decide +kernel,rfl,by decide +kernel,by decide +kernel⟩
def Ot(h:Has K mg "_law_text" HD ["_law_pot_here"])(UJ:Cal P w K mg base "_law_next" 1 ["_law_pot_here","_law_many"] iD)(UW:mg "range" = none):Cal P w K mg base "_law_text" 2 ["_law_pot_here"] Jy:=by
 refine h.mk' ou (λvs H Q E hs=>?_) (λf a3 A outer s H vs Q E O hs=>?_)
 .obtain⟨d,lo,rfl,_⟩:=hs
  rfl
 obtain⟨d,lo,rfl,hp,k⟩:=hs;refine qex ⟨_,(gH (JC (i:=1) ou.nd rfl (Or.inl rfl) (Nq (Ez ⟨aF⟩ (Ez ⟨aF⟩ (Ez ⟨aF⟩ (Ez ⟨aF⟩ (Ez ⟨aF⟩ (Ez ⟨aF⟩ (Ez ⟨aF⟩ (Ez ⟨aF⟩ (Ez ⟨aF⟩ (Ez ⟨aF⟩ (Ez ⟨aF⟩ QC)))))))))))))
  ⟨(au (aL (i:=1) ou.nd rfl (Or.inl rfl) (bB jw (pv 1) (bI (aj aF (aj aF (aj aF aq))))))
  (au (aL (i:=2) ou.nd rfl (Or.inl rfl) aF)
  (au (dJ PassesOwn.never rfl (cX rfl UW (aj (aN UJ O (by decide) rfl (aj (pv 0) (aj aA aq))) aq)) (aK (i:=3) ou.nd rfl (Or.inl rfl))
   (aB (aL (i:=2) ou.nd rfl (Or.inl rfl) (bB d9 (pv 2) (bA bw (pv 1) (aN UJ O (by decide) rfl (aj (pv 0) (aj aA aq))) (λ_ _=>rfl))))))
  (au (cB (aQ gJ (aN UJ O (by decide) rfl (aj (pv 0) (aj aA aq))) aA (bC _))
   (aB (aL (i:=2) ou.nd rfl (Or.inl rfl) (bB oW (bB d9 (pv 2) aF) aA)))
   bf)
  (aB (aW (gD Bm (pv 2) jy (iu aA))))))))⟩),?_⟩
 refine⟨smn 11,λI B=>?_⟩;have X:=hp.new (o:=HO.lst ((["One","two 3","a"," ","x-y","Zz9","~","Word word","4",", ","_b"]:List Str).map V.str)) B;have em:(upd H I (.lst ((["One","two 3","a"," ","x-y","Zz9","~","Word word","4",", ","_b"]:List Str).map V.str))) I=some (.lst ((["One","two 3","a"," ","x-y","Zz9","~","Word word","4",", ","_b"]:List Str).map V.str)):=ak;refine⟨_,rfl,smn 3,λN p=>?_⟩;have e2:(upd (upd H I (.lst ((["One","two 3","a"," ","x-y","Zz9","~","Word word","4",", ","_b"]:List Str).map V.str))) N (.lst ((["\n","\\","\""]:List Str).map V.str))) N=some (.lst ((["\n","\\","\""]:List Str).map V.str)):=ak;have D:=X.new (o:=HO.lst ((["\n","\\","\""]:List Str).map V.str)) p;refine⟨I,N,_,_,rfl,rfl,ao p _ _ _ em,e2,smn 14,λa t=>?_⟩;have oA:Old d lo H _:=((Old.of (ao B _)).trans (Old.of (ao p _))).trans (Old.of (ao t (.lst ((["One","two 3","a"," ","x-y","Zz9","~","Word word","4",", ","_b","\n","\\","\""]:List Str).map V.str))));have R:=D.new (o:=HO.lst ((["One","two 3","a"," ","x-y","Zz9","~","Word word","4",", ","_b","\n","\\","\""]:List Str).map V.str)) t;obtain⟨q,l⟩:=D.ne t;have gm:∀ x∈(["One","two 3","a"," ","x-y","Zz9","~","Word word","4",", ","_b","\n","\\","\""]:List Str),x.length<=9/\∀ c∈x.cps.toList,pU c:=by decide +kernel
 have v:(["One","two 3","a"," ","x-y","Zz9","~","Word word","4",", ","_b","\n","\\","\""]:List Str).length=14:=rfl;refine mG (σ:=[some (.ref d),some (.ref a),some (.str ""),none]) (i:=0) (m:=6) rfl R (by decide) (by decide) λr H2 r0 r1 p2 o2=>?_
 have C:H2 a=some (.lst ((["One","two 3","a"," ","x-y","Zz9","~","Word word","4",", ","_b","\n","\\","\""]:List Str).map V.str)):=o2 a _ ak q l;have oB:=oA.trans o2;refine⟨r,rfl,by lia,by lia,?_⟩;generalize (["One","two 3","a"," ","x-y","Zz9","~","Word word","4",", ","_b","\n","\\","\""]:List Str)=b at C gm v;refine iJ (lo:=0) (n:=r.toNat) (λj σ u=>∃(x:Str)(J:Option V),σ=[some (.ref d),some (.ref a),some (.str x),J]/\bh d lo u/\Old d lo H u/\u a=some (.lst (b.map V.str))/\x.length<=9*j/\∀ c∈x.cps.toList,pU c)
  ⟨"",none,rfl,p2,oB,C,by decide +kernel,by decide +kernel⟩ ?_ ?_
 .rintro j σ u hj ⟨x,J,rfl,W,Y,g,hx,L⟩;have am:j<6:=by lia
  refine⟨_,rfl,_,rfl,?_⟩;refine mG (σ:=[some (.ref d),some (.ref a),some (.str x),some (.int (0+(j:Int)))]) (i:=0) (m:=14) rfl W (by decide) (by decide) λr5 U w0 w1 M G=>?_
  obtain⟨y,hy,hm⟩:=Qw (xs:=b.map V.str) w0 (by rw[XF,v];exact w1);obtain⟨m,T,rfl⟩:=mem_map.mp hm;obtain⟨g1,g2⟩:=gm m T;refine⟨a,_,r5,_,rfl,rfl,SqL.of (G a _ g q l),hy,_,_,rfl,rfl,small (by lia),?_⟩;refine⟨x++m,_,rfl,M,Y.trans G,G a _ g q l,?_,good_str L g2⟩;have e:(x++m).length=x.length+m.length:=by
   show(x.cps++m.cps).size=_;rw[Array.size_append]
   rfl
  rw[e];lia
 .rintro σ u ⟨x,J,rfl,W,Y,g,hx,L⟩;refine mG (σ:=[some (.ref d),some (.ref a),some (.str x),J]) (i:=0) (m:=16) rfl W (by decide) (by decide) λr5 U w0 w1 M G=>?_
  refine⟨rfl,_,rfl,?_⟩;have F:∀(z:Str),z.length<=20000->(∀ c∈z.cps.toList,pU c)->Q (.str (Txt.slice z none (some 400))) U:=λz hz gz=>by
   have es:Txt.slice z none (some 400)=⟨(z.cps.toList.take 400).toArray⟩:=SLi.upto z 400;rw[es];exact k _ U (by rw[length_take];lia) (λc S=>gz c (List.mem_of_mem_take S)) M (Y.trans G)
  refine dO (λh1=>?_) (λh1=>?_)
  .have e:(x ++ "q ").length=x.length+2:=by
    show(x.cps++("q " : Str).cps).size=_;rw[Array.size_append]
    rfl
   have gy:∀ c∈(x ++ "q ").cps.toList,pU c:=good_str L (by decide +kernel);refine⟨_,rfl,_,_,rfl,rfl,small (by rw[show(("q " : Str)).length=2 from rfl];lia),?_⟩;generalize x ++ "q " = y at e gy;have ap:y.cps.toList.length<=60:=by
    have:y.cps.size=x.length+2:=e;rw[Xj];lia
   rw[Hy y];refine⟨y.cps.toList,200,rfl,rfl,by decide,by lia,?_⟩;have hl:(List.replicate 200 y.cps.toList).flatten.length<=20000:=by
    rw[len_rep];lia
   refine⟨_,rfl,_,rfl,_,rfl,?_,F _ ?_ ?_⟩
   .show(List.replicate 200 y.cps.toList).flatten.toArray.size<=_;rw[XM];exact Xz hl (Xz (by decide) iM)
   .show(List.replicate 200 y.cps.toList).flatten.toArray.size<=_;rw[XM];exact hl
   .intro c S;have Z:c∈(List.replicate 200 y.cps.toList).flatten:=by
     have e:(List.replicate 200 y.cps.toList).flatten.toArray.toList=(List.replicate 200 y.cps.toList).flatten:=List.toList_toArray;rw[← e];exact S
    exact gy c (K6 Z)
  .refine⟨_,rfl,_,rfl,x,rfl,small (by lia),F x (by lia) L⟩
def Ce:Sp:=λa H Q _=>∃(d lo l:Addr)(xs:Nms),a=[.ref d,.ref l]/\bh d lo H/\H l=some (.lst (xs.map mkT))/\l≠d/\l≠lo/\30<=xs.length/\xs.length<=1000/\(∀ x∈xs,isNm ⟨x.toArray⟩=true) /\
 ∀(q:Addr)(Ps:List (List Prt))(rest:Nms)(H':Hp),Den H' (.ref q) (.tup (Ps.map λL=>.tup (L.map bN)))->Ps.length=2->(∀ L∈Ps,L.length<=12/\∀ p∈L,wU p)->xs.Perm (Ps.flatten.map (·.1)++rest)->H' l=some (.lst (rest.map mkT))->bh d lo H'->jD d lo l H H'->Q (.ref q) H'
def jD.of{d lo l:Addr}{H H':Hp}(s:Same H H'):jD d lo l H H':=λc o e _ _ _=>s c o e
def jD.of2{d lo l:Addr}{H H':Hp}(s:Old d lo H H'):jD d lo l H H':=λc o e b a _=>s c o e b a
def jD.trans{d lo l:Addr}{H H1 H2:Hp}(a:jD d lo l H H1)(b:jD d lo l H1 H2):jD d lo l H H2:=λc o e h f g=>b c o (a c o e h f g) h f g
def jD.free{d lo l b:Addr}{H H1:Hp}{o:HO}(a:jD d lo l H H1)(hb:H b=none):jD d lo l H (L2.upd H1 b o):=λc f e i g h=>by
 rw[aG (aD e hb)];exact a c f e i g h
def pD{d lo l:Addr}{H H':Hp}{ys:List V}(hp:bh d lo H)(hl:H l=some (.lst ys))(o:jD d lo l H H'):∀(b:Addr)(a:List V),H b=some (.tup a)->H' b=some (.tup a):=λb a e=>by
 obtain⟨g,k,sd,m,c,f,r⟩:=hp;exact o b _ e (mH e c (by intro z;cases z)) (mH e f (by intro z;cases z)) (mH e hl (by intro z;cases z))
def jW{H:Hp}{l:Addr}{ys zs:List V}(hl:H l=some (.lst ys)):∀(b:Addr)(a:List V),H b=some (.tup a)->upd H l (.lst zs) b=some (.tup a):=λb a e=>by
 rw[aG (mH e hl (by intro z;cases z))];exact e
def lD:aU ["_law_pot_here","_law_names_here","_law_sides_here","_law_side_here","_law_parts","_law_k","_law_moments_here"] ["_law_pot_here","_law_names_here"] (aC yK):=⟨rfl,rfl,rfl,by decide +kernel,rfl,by decide +kernel,by decide +kernel⟩
def LQ(h:Has K mg "_law_sides" yK ["_law_pot_here","_law_names_here"])(Vc:Cal P w K mg base "_law_count" 2 ["_law_pot_here","_law_most"] rQ)(U0:Cal P w K mg base "_law_moments" 2 ["_law_pot_here","_law_many"] jJ)(Wj:Cal P w K mg base "_law_text" 2 ["_law_pot_here"] Jy)(Vf:Cal P w K mg base "_law_taken" 2 ["_law_pot_here","_law_names_here"] tE)(UW:mg "range" = none)(Ux:mg "tuple" = none):Cal P w K mg base "_law_sides" 3 ["_law_pot_here","_law_names_here"] Ce:=by
 refine h.mk' lD (λvs H Q E hs=>?_) (λf cE A outer s H vs Q E hr hs=>?_)
 .obtain⟨d,lo,l,xs,rfl,_⟩:=hs
  rfl
 obtain⟨d,lo,l,xs,rfl,hp,hl,nd,nl,cw,cp,b0,k⟩:=hs;refine⟨_,(au (aL (i:=2) lD.nd rfl (Or.inl rfl) (bI aq))
  (au (dJ PassesOwn.never rfl (cJ (bQ (aj aA (aj aA aq)))) (aK (i:=3) lD.nd rfl (Or.inl rfl))
   (au (aL (i:=4) lD.nd rfl (Or.inl rfl) (bI aq))
  (au (dJ PassesOwn.never rfl (cX rfl UW (aj (aN Vc hr (by decide) rfl (aj (pv 0) (aj aA aq))) aq)) (aK (i:=5) lD.nd rfl (Or.inl rfl))
   (au (aL (i:=6) lD.nd rfl (Or.inl rfl) (aN U0 hr (by decide) rfl (aj (pv 0) (aj (bB gk aA (aN Vc hr (by decide) rfl (aj (pv 0) (aj aA aq)))) aq))))
  (aB (cN (dY PySem.F.plainAttrs_list PySem.F.slot_list_append PySem.F.type_list_append bJ (pv 4) (aj (bQ (aj (aN Vf hr (by decide) rfl (aj (pv 0) (aj (pv 1) aq))) (aj (aN Wj hr (by decide) rfl (aj (pv 0) aq)) (aj (pv 6) aq)))) aq))))))
  (aB (cN (dY PySem.F.plainAttrs_list PySem.F.slot_list_append PySem.F.type_list_append bJ (pv 2) (aj (aP aM rfl Ux boot_tuple (aj (pv 4) aq)) aq)))))))
  (aB (aW (aP aM rfl Ux boot_tuple (aj (pv 2) aq)))))),?_⟩
 refine⟨smn 0,λx ac=>?_⟩;obtain⟨J,I⟩:=hp.ne ac;have aS:x≠l:=(aD hl ac).symm;have s1:=ao ac (.lst []);refine⟨smn 2,λtt bz=>?_⟩;have s2:=ao bz (.tup [.int 0,.int 1]);refine⟨tt,rfl,⟨_,SqT.of ak⟩,?_⟩;refine iQ (K:=K0) (a:=tt) (xs:=[.int 0,.int 1]) (λi σ H4=>∃(v3 v4 v5 v6:Option V)(O:List V)(C:List (List Prt))(m:Nms),σ=[some (.ref d),some (.ref l),some (.ref x),v3,v4,v5,v6]/\bh d lo H4/\H4 l=some (.lst (m.map mkT))/\H4 x=some (.lst O)/\H4 tt=some (.tup [.int 0,.int 1]) /\
   bW H4 O (C.map λL=>D.tup (L.map bN))/\C.length=i/\(∀ L∈C,L.length<=12/\∀ p∈L,wU p)/\xs.Perm (C.flatten.map (·.1)++m)/\jD d lo l H H4)
  ⟨none,none,none,none,[],[],xs,rfl,(hp.same s1).same s2,s2 _ _ (s1 _ _ hl),s2 _ _ ak,ak,trivial,rfl,(λL hL=>by cases hL),List.Perm.refl _,jD.of (s1.trans s2)⟩ ?_ ?_ ?_
 .rintro i σ H4 _ ⟨v3,v4,v5,v6,O,C,m,rfl,p4,X,R,ad,r⟩;exact SqT.of ad
 .rintro i y σ H4 hi ⟨v3,v4,v5,v6,O,C,m,rfl,p4,X,R,ad,dn,hPl,G,ax,o4⟩;refine gN ⟨smn 0,λv U=>?_⟩;obtain⟨B,u⟩:=p4.ne U;have aw:v≠l:=(aD X U).symm;have b4:v≠x:=(aD R U).symm;have N:=ao U (.lst []);refine⟨_,rfl,d,lo,5,rfl,p4.same N,by decide,by decide,λr H5 r0 r1 p5 o5=>?_⟩;refine⟨r,rfl,by lia,by lia,?_⟩;have k5:=dW (p4.same N) o5;refine iJ (lo:=0) (n:=r.toNat) (λj σ M=>∃(v5 v6:Option V)(Y:List V)(qs:List Prt)(g:Nms),σ=[some (.ref d),some (.ref l),some (.ref x),some y,some (.ref v),v5,v6]/\bh d lo M/\M l=some (.lst (g.map mkT))/\M x=some (.lst O)/\M tt=some (.tup [.int 0,.int 1])/\M v=some (.lst Y) /\
    bW M O (C.map λL=>D.tup (L.map bN))/\bW M Y (qs.map bN)/\qs.length=j/\(∀ p∈qs,wU p)/\xs.Perm (C.flatten.map (·.1)++qs.map (·.1)++g)/\jD d lo l H M)
   ⟨_,_,[],[],m,rfl,p5,o5 l _ (N _ _ X) nd nl,o5 x _ (N _ _ R) J I,k5 tt _ (N _ _ ad),o5 v _ ak B u,(dn.same N).keepT k5,trivial,rfl,(λp hp=>by cases hp),by rw[map_nil,append_nil];exact ax,(o4.trans (jD.of N)).trans (jD.of2 o5)⟩ ?_ ?_
  .rintro j σ M hj ⟨v5,v6,Y,qs,g,rfl,p6,ap,S,av,ar,Z,ae,a1,as,t,o6⟩;have cc:j<12:=by lia
   have bP:C.flatten.length+j+g.length=xs.length:=by
    have:=t.length_eq;rw[Xr,Xr,XF,XF] at this;lia
   refine gN ⟨_,rfl,_,rfl,d,lo,2,rfl,p6,by decide,by decide,λc H7 c0 c1 p7 o7=>?_⟩;obtain⟨cn,rfl⟩:=Int.eq_ofNat_of_zero_le c0;refine⟨_,_,rfl,rfl,d,lo,1+cn,by show[V.ref d,V.int (1+((cn:Nat):Int))]=_;rw[show(1:Int)+((cn:Nat):Int)=((1+cn:Nat):Int) by lia],p7,by lia,λq8 ms H8 bq gm a3 p8 o8=>?_⟩;have k7:=dW p6 o7;have k8:=dW p7 o8;have a2:H8 l=_:=o8 l _ (o7 l _ ap nd nl) nd nl;have bS:H8 x=_:=o8 x _ (o7 x _ S J I) J I;have a6:H8 v=_:=o8 v _ (o7 v _ ar B u) B u;have a0:g≠[]:=λz=>by
    subst z;have hP2:C.flatten.length<=12:=by
     have b2:i<2:=(pN.mp hi).1
     match C,hPl,G with
     | [],_,_=>simp
     | [L],_,G=>simpa using(G L (.head _)).1
     | _::_::_,hPl,_=>simp only[length_cons] at hPl;lia
    simp only[length_nil] at bP;lia
   refine gN ⟨_,rfl,.inl ⟨rfl,_,SqL.of a6⟩,_,rfl,_,rfl,d,lo,l,g,rfl,p8,a2,nd,nl,a0,by lia,λi9 aT H9 e9 p9 o9=>?_⟩;refine⟨_,rfl,d,lo,rfl,p9,λtx T cy br bX W=>?_⟩;refine⟨_,rfl,smn 3,λtp b5=>?_⟩;have k9:=pD p8 a2 o9;have bc:=dW p9 W;have ah:T v=_:=W v _ (o9 v _ a6 B u aw) B u;have aE:T x=_:=W x _ (o9 x _ bS J I aS) J I;have a9:T l=_:=W l _ e9 nd nl;have o:=ao b5 (.tup [mkT g[i9],.str ⟨tx.toArray⟩,.ref q8]);have kA:∀(b:Addr)(vs:List V),M b=some (.tup vs)->T b=some (.tup vs):=λb vs e=>bc b vs (k9 b vs (k8 b vs (k7 b vs e)))
   have kT:=jW (zs:=Y++[.ref tp]) (o _ _ ah);refine⟨v,Y,_,rfl,rfl,o _ _ ah,?_,?_⟩
   .have:=ae.len;rw[XF] at this;exact aH (by lia)
   .refine⟨_,_,Y++[.ref tp],qs++[(g[i9],tx,ms)],g.eraseIdx i9,rfl,(bX.same o).upd B u,(aG aw.symm).trans (o _ _ a9),(aG b4.symm).trans (o _ _ aE),kT _ _ (o _ _ (kA _ _ av)),ak,((Z.keepT kA).same o).keepT kT,?_,by rw[Xr,a1];rfl,?_,?_,?_⟩
    .rw[map_append];refine bW.snoc (Den.keepT kT (show Den (upd T tp (.tup [mkT g[i9],.str ⟨tx.toArray⟩,.ref q8])) (.ref tp) (bN (g[i9],tx,ms)) from⟨tp,_,rfl,ak,rfl,rfl,⟨q8,_,rfl,o _ _ (bc _ _ (k9 _ _ bq)),jz _ ms⟩,trivial⟩)) (((ae.keepT kA).same o).keepT kT)
    .intro p bu;rcases mem_append.mp bu with z | z
     .exact as p z
     .rw[mem_singleton.mp z];refine⟨b0 _ (t.mem_iff.mpr (Xw _ (getElem_mem aT))),by show tx.length<=_;lia,br,gm,λz=>?_⟩;have:ms=[]:=z;rw[this] at a3;simp at a3;lia
    .refine t.trans ?_;rw[map_append,append_assoc,append_assoc,append_assoc];exact((jM aT).append_left _).append_left _
    .refine jD.free ?_ ?_
     .exact(((((o6.trans (jD.of2 o7)).trans (jD.of2 o8)).trans o9).trans (jD.of2 W)).trans (jD.of o))
     .cases hc:H v with
      | none=>rfl
      | some o' =>
       have:=o4 v o' hc B u aw;rw[U] at this;cases this
  .rintro σ M ⟨v5,v6,Y,qs,g,rfl,p6,ap,S,av,ar,Z,ae,a1,as,t,o6⟩;refine⟨_,rfl,.inl ⟨rfl,_,SqL.of S⟩,_,rfl,v,_,rfl,.inl ⟨SqL.of ar,λq hq=>?_⟩⟩;have s7:=ao hq (.tup Y);refine⟨x,O,_,rfl,rfl,s7 _ _ S,?_,?_⟩
   .have:=Z.len;rw[XF] at this;have b2:i<2:=(pN.mp hi).1;exact aH (by lia)
   .have kT:=jW (zs:=O++[.ref q]) (s7 _ _ S);refine⟨_,_,_,_,O++[.ref q],C++[qs],g,rfl,(p6.same s7).upd J I,(aG aS.symm).trans (s7 _ _ ap),ak,kT _ _ (s7 _ _ av),?_,by rw[Xr,hPl];rfl,λL hL=>?_,?_,(o6.trans (jD.of s7)).free ac⟩
    .rw[map_append];exact bW.snoc (Den.keepT kT (show Den (upd M q (.tup Y)) (.ref q) (.tup (qs.map bN)) from⟨q,Y,rfl,ak,ae.same s7⟩)) ((Z.same s7).keepT kT)
    .rcases mem_append.mp hL with z | z
     .exact G L z
     .rw[mem_singleton.mp z];exact⟨by lia,as⟩
    .rw[List.flatten_append,map_append]
     simpa using t
 .rintro σ H4 ⟨v3,v4,v5,v6,O,C,m,rfl,p4,X,R,ad,dn,hPl,G,ax,o4⟩;refine⟨_,rfl,x,_,rfl,.inl ⟨SqL.of R,λq hq=>?_⟩⟩;have N:=ao hq (.tup O);exact k q C m _ ⟨q,O,rfl,ak,dn.same N⟩ hPl G ax (N _ _ X) (p4.same N) (o4.trans (jD.of N))
def Ft:Sp:=λa H Q _=>∃(d lo:Addr),a=[.ref d]/\bh d lo H/\∀(l:Addr)(xs:Nms)(H':Hp),H l=none->H' l=some (.lst (xs.map mkT))->Ar xs->bh d lo H'->Old d lo H H'->Q (.ref l) H'
def Jc(t:Nat):Str:=⟨((List.range 26).map (ltr t)).toArray⟩
def Ib:LET.cps.toList=(List.range 26).map (97 + ·):=by decide +kernel
def Ah{t:Nat}(h:t<26):Txt.slice LET (some (t:Int)) none++Txt.slice LET none (some (t:Int))=Jc t:=by
 rw[SLi.from_,SLi.upto,Ib];show(⟨_++_⟩:Str)=_;rw[List.append_toArray,Fo h (i:=0) (by decide)]
 rfl
def Hh(t:Nat):(Jc t).length=26:=by
 show((List.range 26).map (ltr t)).toArray.size=26;simp
def jx{t i:Nat}(hi:i<26){x:Int}(hx:x=(i:Nat)):atI (Jc t).cps.toList x=some (ltr t i):=by
 subst hx;refine aZ ?_;show(((List.range 26).map (ltr t)).toArray).toList[i]?=_;simp[List.getElem?_range hi]
def rep1(n c:Nat):(List.replicate n [c]).flatten=List.replicate n c:=by
 induction n with
 | zero=>rfl
 | succ n a=>rw[replicate_succ,flatten_cons,a];rfl
def tL(a b:List Nat):(⟨a.toArray⟩:Str)++(⟨b.toArray⟩:Str)=⟨(a++b).toArray⟩:=by
 show(⟨_++_⟩:Str)=_;rw[List.append_toArray]
def lU(a:List Nat):(⟨a.toArray⟩:Str).length=a.length:=by show a.toArray.size=_;simp
def kI(f:Nat->List Nat)(i:Nat):((List.range i).map f).map mkT++[mkT (f i)]=((List.range (i+1)).map f).map mkT:=by
 rw[List.range_succ,map_append,map_append]
 rfl
def Old.none{d lo b:Addr}{H H':Hp}(o:Old d lo H H')(hp:bh d lo H)(hp':bh d lo H')(hb:H' b=none):H b=none:=by
 obtain⟨c,a⟩:=hp'.ne hb;cases e:H b with
 | none=>rfl
 | some u =>
  have:=o b u e c a;rw[hb] at this;cases this
def iT:aU ["_law_pot_here","_law_letters","_law_turn","_law_way","_law_at","_law_ahead","_law_behind"] ["_law_pot_here"] (aC nY):=⟨rfl,rfl,rfl,by decide +kernel,rfl,by decide +kernel,by decide +kernel⟩
def K4(h:Has K mg "_law_names" nY ["_law_pot_here"])(L:Cal P w K mg base "_law_next" 1 ["_law_pot_here","_law_many"] iD)(N:mg "range" = none):Cal P w K mg base "_law_names" 2 ["_law_pot_here"] Ft:=by
 refine h.mk' iT (λvs H Q E O=>?_) (λf ae A outer s H vs Q E M O=>?_)
 .obtain⟨d,lo,rfl,_⟩:=O
  rfl
 obtain⟨d,lo,rfl,G,k⟩:=O;refine⟨_,(au (aL (i:=1) iT.nd rfl (Or.inr rfl) aF)
  (au (aL (i:=2) iT.nd rfl (Or.inl rfl) (aN L M (by decide) rfl (aj (pv 0) (aj aA aq))))
  (au (aL (i:=1) iT.nd rfl (Or.inr rfl) (bB d9 (gD Bm (pv 1) (iu (pv 2)) jy) (gD Bm (pv 1) jy (iu (pv 2)))))
  (au (aL (i:=3) iT.nd rfl (Or.inl rfl) (aN L M (by decide) rfl (aj (pv 0) (aj aA aq))))
  (au (cB (aQ gJ (pv 3) aA (bC _))
   (aB (aW (cH ["_law_pot_here","_law_letters","_law_turn","_law_way","_law_at","_law_ahead","_law_behind"] (aC nY) ["_law_letters","_law_k"] [some 1,none] rfl rfl rfl (cX rfl N (aj aA aq)) rfl (by decide +kernel) (by decide +kernel) (by decide +kernel) (by decide +kernel) (hg:=λcl C s H ex pn E=>(aK (i:=1) (by decide +kernel:(["_law_letters","_law_k"]:List Str).Nodup) rfl (Or.inl rfl))) (ht:=λcl C s H ex pn E=>cu) (he:=λcl C s H ex pn E=>(bB d9 (bA oR (pv 0) (bB gW (pv 1) aA) (λ_ _=>rfl)) (bB oW (bA oR (pv 0) (bB jH (pv 1) aA) (λ_ _=>rfl)) (bB gW (pv 1) aA)))))))
   bf)
  (au (cB (aQ gJ (pv 3) aA (bC _))
   (aB (aW (cH ["_law_pot_here","_law_letters","_law_turn","_law_way","_law_at","_law_ahead","_law_behind"] (aC nY) ["_law_letters","_law_k"] [some 1,none] rfl rfl rfl (cX rfl N (aj aA aq)) rfl (by decide +kernel) (by decide +kernel) (by decide +kernel) (by decide +kernel) (hg:=λcl C s H ex pn E=>(aK (i:=1) (by decide +kernel:(["_law_letters","_law_k"]:List Str).Nodup) rfl (Or.inl rfl))) (ht:=λcl C s H ex pn E=>cu) (he:=λcl C s H ex pn E=>(bB oW (bA oR (pv 0) (bB jH (pv 1) aA) (λ_ _=>rfl)) (bB gk aA (bB gW (pv 1) aA)))))))
   bf)
  (au (aL (i:=4) iT.nd rfl (Or.inl rfl) (aN L M (by decide) rfl (aj (pv 0) (aj aA aq))))
  (au (uY (bQ (aj (bB oW (bA oR (pv 1) aA (λ_ _=>rfl)) (pv 4)) (aj (bB oW (bA oR (pv 1) aA (λ_ _=>rfl)) (bB CK aA (pv 4))) aq))) (lA (n:=2) rfl (bH (aK (i:=5) iT.nd rfl (Or.inr rfl)) (bH (aK (i:=6) iT.nd rfl (Or.inr rfl)) jC))))
  (aB (aW (cH ["_law_pot_here","_law_letters","_law_turn","_law_way","_law_at","_law_ahead","_law_behind"] (aC nY) ["_law_letters","_law_ahead","_law_behind","_law_k"] [some 1,some 5,some 6,none] rfl rfl rfl (cX rfl N (aj aA aq)) rfl (by decide +kernel) (by decide +kernel) (by decide +kernel) (by decide +kernel) (hg:=λcl C s H ex pn E=>(aK (i:=3) (by decide +kernel:(["_law_letters","_law_ahead","_law_behind","_law_k"]:List Str).Nodup) rfl (Or.inl rfl))) (ht:=λcl C s H ex pn E=>cu) (he:=λcl C s H ex pn E=>(bB d9 (bB d9 (bB d9 (pv 1) (bA oR (pv 0) (bB gW (pv 3) aA) (λ_ _=>rfl))) (bA oR (pv 0) (bB jH (pv 3) aA) (λ_ _=>rfl))) (pv 2)))))))))))))),?_⟩
 refine mG (σ:=[some (.ref d),some (.str LET),none,none,none,none,none]) (i:=0) (m:=26) rfl G (by decide) (by decide) λr H1 r0 r1 X o1=>?_
 obtain⟨t,rfl⟩:=Int.eq_ofNat_of_zero_le r0;have ht:t<26:=by lia
 refine⟨_,rfl,_,rfl,_,rfl,LET,rfl,small (by rw[vQ];decide),_,rfl,_,rfl,_,rfl,LET,rfl,small (by rw[vQ];decide),_,_,rfl,rfl,?_,?_⟩
 .exact small (Xz (Nat.add_le_add (Txt.slice_le _ _ _) (Txt.slice_le _ _ _)) (by rw[vQ];decide))
 rw[Ah ht];have u:(Jc t).length<=sizeLine:=small (by rw[Hh];decide);refine mG (σ:=[some (.ref d),some (.str (Jc t)),some (.int (t:Nat)),none,none,none,none]) (i:=0) (m:=3) rfl X (by decide) (by decide) λZ S q0 q1 B Y=>?_
 have p:=o1.trans Y;refine⟨_,rfl,rfl,_,rfl,?_⟩;tm_at"d"
 .refine⟨70,rfl,by lia,by lia,λc b=>?_⟩;have j:H c=none:=p.none G B b;refine iz (J:=Itr 0 70) (l:=c) 70 (λi e g=>∃(v:Option V),e=[some (.str (Jc t)),v]/\g=upd S c (.lst (((List.range i).map (nm0 t)).map mkT))) ⟨none,rfl,rfl⟩ ?_ ?_
  .rintro e g ⟨v,rfl,rfl⟩;exact⟨ql _,k c _ _ j ak (TV t) (B.new b) (p.new b)⟩
  .rintro i e g F ⟨v,rfl,rfl⟩;refine⟨F,?_⟩;rintro y D ⟨rfl,rfl⟩;refine gN (uH (lQ ?_));refine⟨_,rfl,_,rfl,_,_,rfl,rfl,by show(0:Int)<26;decide,_,_,_,rfl,rfl,u,jx (i:=i%26) (by lia) (by lia),?_⟩;refine⟨_,rfl,_,rfl,_,_,rfl,rfl,by show(0:Int)<26/\_;decide,_,_,_,rfl,rfl,u,jx (i:=i / 26) (by lia) (by lia),?_⟩;refine⟨_,rfl,_,_,rfl,rfl,by show(0:Int)<7;decide,[ltr t (i / 26)],i%7,rfl,congrArg V.int (by lia),by lia,by simp;lia,?_⟩;rw[rep1];refine⟨⟨[ltr t (i%26)].toArray⟩,_,rfl,rfl,small (by rw[lU,lU,length_replicate];simp;lia),?_⟩;rw[tL];refine⟨_,ak,by rw[XF,XF,length_range];exact aH (by lia),_,rfl,?_⟩;rw[kY,← kI]
   rfl
 refine⟨_,rfl,rfl,_,rfl,?_⟩;refine dO (λz1=>?_) (λz1=>?_)
 .refine⟨70,rfl,by lia,by lia,λc b=>?_⟩;have j:H c=none:=p.none G B b;refine iz (J:=Itr 0 70) (l:=c) 70 (λi e g=>∃(v:Option V),e=[some (.str (Jc t)),v]/\g=upd S c (.lst (((List.range i).map (nm1 t)).map mkT))) ⟨none,rfl,rfl⟩ ?_ ?_
  .rintro e g ⟨v,rfl,rfl⟩;exact⟨ql _,k c _ _ j ak (Tw t) (B.new b) (p.new b)⟩
  .rintro i e g F ⟨v,rfl,rfl⟩;refine⟨F,?_⟩;rintro y D ⟨rfl,rfl⟩;refine gN (uH (lQ ?_));refine⟨_,rfl,_,rfl,_,_,rfl,rfl,by show(0:Int)<8/\_;decide,_,_,_,rfl,rfl,u,jx (i:=i / 8) (by lia) (by lia),?_⟩;refine⟨_,rfl,_,_,rfl,rfl,by show(0:Int)<8;decide,_,_,rfl,rfl,[ltr t (i / 8)],1+i%8,rfl,congrArg V.int (by lia),by lia,by simp;lia,?_⟩;rw[rep1];refine⟨_,ak,by rw[XF,XF,length_range];exact aH (by lia),_,rfl,?_⟩;rw[kY,← kI]
   rfl
 refine mG (σ:=[some (.ref d),some (.str (Jc t)),some (.int (t:Nat)),some (.int Z),none,none,none]) (i:=0) (m:=7) rfl B (by decide) (by decide) λr3 H3 W u1 U o3=>?_
 obtain⟨a,rfl⟩:=Int.eq_ofNat_of_zero_le W;have ha:a<=6:=by lia
 have I:=p.trans o3;refine⟨_,rfl,_,_,_,rfl,rfl,u,jx (i:=25) (by lia) (by lia),_,rfl,[ltr t 25],a,rfl,rfl,by lia,by simp;lia,?_⟩;rw[rep1];refine⟨_,rfl,_,_,_,rfl,rfl,u,jx (i:=25) (by lia) (by lia),_,rfl,_,_,rfl,rfl,[ltr t 25],6 - a,rfl,congrArg V.int (by lia),by lia,by simp;lia,?_⟩;rw[rep1];refine⟨smn 2,λT x=>?_⟩;have R:=U.new (o:=HO.tup [mkT (List.replicate a (ltr t 25)),mkT (List.replicate (6 - a) (ltr t 25))]) x;have q:=I.new (o:=HO.tup [mkT (List.replicate a (ltr t 25)),mkT (List.replicate (6 - a) (ltr t 25))]) x;refine⟨T,_,rfl,SqT.of ak,rfl,_,_,rfl,_,_,rfl,rfl,?_⟩;refine⟨70,rfl,by lia,by lia,λc b=>?_⟩;have j:H c=none:=q.none G R b;generalize upd H3 T (.tup [mkT (List.replicate a (ltr t 25)),mkT (List.replicate (6 - a) (ltr t 25))])=H4 at R q b;refine iz (J:=Itr 0 70) (l:=c) 70 (λi e g=>∃(v:Option V),e=[some (.str (Jc t)),some (mkT (List.replicate a (ltr t 25))),some (mkT (List.replicate (6 - a) (ltr t 25))),v]/\g=upd H4 c (.lst (((List.range i).map (nm2 t a)).map mkT))) ⟨none,rfl,rfl⟩ ?_ ?_
 .rintro e g ⟨v,rfl,rfl⟩;exact⟨ql _,k c _ _ j ak (row2 ha) (R.new b) (q.new b)⟩
 .rintro i e g F ⟨v,rfl,rfl⟩;refine⟨F,?_⟩;rintro y D ⟨rfl,rfl⟩;refine gN (uH (lQ ?_));refine⟨_,rfl,_,rfl,_,rfl,_,_,rfl,rfl,by show(0:Int)<20;decide,_,_,_,rfl,rfl,u,jx (i:=i%20) (by lia) (by lia),?_⟩;refine⟨_,⟨[ltr t (i%20)].toArray⟩,rfl,rfl,small (by rw[lU,lU,length_replicate];simp;lia),?_⟩;rw[tL];refine⟨_,rfl,_,rfl,_,_,rfl,rfl,by show(0:Int)<20/\_;decide,_,_,_,rfl,rfl,u,jx (i:=i / 20) (by lia) (by lia),?_⟩;refine⟨_,⟨[ltr t (i / 20)].toArray⟩,rfl,rfl,small (by rw[lU,lU,Xr,length_replicate];simp;lia),?_⟩;rw[tL];refine⟨_,rfl,_,_,rfl,rfl,small (by rw[lU,lU,Xr,Xr,length_replicate,length_replicate];simp;lia),?_⟩;rw[tL];refine⟨_,ak,by rw[XF,XF,length_range];exact aH (by lia),_,rfl,?_⟩;rw[kY,← kI];simp only[nm2,append_assoc]
  rfl
def lY{α β:Type}{f:α->β}{ds es:List β}(h:ds.Perm es):∀ {ks:List α},es=ks.map f->∃ ks':List α,ks'.Perm ks/\ds=ks'.map f:=by
 induction h with
 | nil =>
  intro ks e;cases ks with
  | nil=>exact⟨[],.nil,rfl⟩
  | cons=>cases e
 | cons x p o =>
  intro ks e;cases ks with
  | nil=>cases e
  | cons k ks =>
   injection e with e1 e2;obtain⟨ks',n,rfl⟩:=o e2;exact⟨k::ks',n.cons k,by rw[e1];rfl⟩
 | swap x y l =>
  intro ks e
  match ks,e with
  | a::b::r,e =>
   injection e with e1 e2;injection e2 with e2 e3;exact⟨b::a::r,.swap _ _ _,by rw[e1,e2,e3];rfl⟩
 | trans p q d c =>
  intro ks e;obtain⟨m,j,rfl⟩:=c e;obtain⟨g,i,rfl⟩:=d rfl;exact⟨g,i.trans j,rfl⟩
def Ab{a b:Nms}(h:fM a=fM b):a=b:=by
 unfold fM at h;injection h with h;have:=congrArg (List.map unD) h
 rwa [sy,sy] at this
def Bj{a b:Lnk}(h:aX a=aX b):a.1=b.1:=by
 unfold aX at h;injection h with h;injection h with h _;exact Ab h
def Lz(ks:List Lnk):aY 0 ks=ks.flatMap (·.1):=rfl
def uN{ks:List Lnk}(hu:UpD (ks.map aX))(hn:(aY 0 ks).Nodup)(hg:∀ k∈ks,rM k):ks.Pairwise λa b=>dlt (aX a) (aX b)=true:=by
 unfold UpD at hu;rw[pairwise_map] at hu;rw[Lz,nodup_iff_pairwise_ne,List.pairwise_flatMap] at hn;refine List.Pairwise.imp₂ (λa b f i=>?_) hu (hn.2.imp_of_mem (S:=λa b=>aX a≠aX b) fun {a b} g j h e=>?_)
 .cases h:dlt (aX a) (aX b) with
  | true=>rfl
  | false=>exact absurd (kW _ _ h f) i
 .have d:=Bj e;have c:=(hg a g).2.2.1;cases hc:a.1 with
  | nil=>exact c hc
  | cons x r=>exact h x (by rw[hc];exact .head _) x (by rw[← d,hc];exact .head _) rfl
def nu{ks ks':List Lnk}(n:Nat)(h:ks'.Perm ks):(aY n ks').Perm (aY n ks):=h.flatMap_right _
def oO(n:Nat)(ks:List Lnk)(k:Lnk):aY n (ks++[k])=aY n ks++dR n k:=by
 unfold aY;rw[List.flatMap_append];simp
def Ja{L R:List Prt}{ks ks':List Lnk}{r0 r1 al al0:Nms}(hL:L.length<=12)(hR:R.length<=12)(hg:∀ p∈L++R,wU p)(hnd:((L++R).map (·.1)).Nodup)(hk:∀ k∈ks,rM k)(hkl:ks.length<=12)(h0:(L.map (·.1)).Perm (aY 0 ks++r0))(h1:(R.map (·.1)).Perm (aY 1 ks++r1))(hp:ks'.Perm ks)(hu:UpD (ks'.map aX))(hal:al0.Sublist (r0++r1))(hpa:al.Perm al0)(j:UpD (al.map sD)):Jh L R ks' al:=by
 have d:∀ x∈al,x∈r0++r1:=λx c=>hal.subset (hpa.mem_iff.mp c)
 have l:=nu 0 hp;have g:=nu 1 hp;have f:((aY 0 ks'++aY 1 ks')++(r0++r1)).Nodup:=by
  have:((L++R).map (·.1)).Perm ((aY 0 ks'++aY 1 ks')++(r0++r1)):=by
   rw[map_append];refine(h0.append h1).trans ?_;rw[append_assoc,append_assoc];refine(l.symm.append ?_);refine(List.perm_append_comm_assoc _ _ _).trans ?_;exact g.symm.append (List.Perm.refl _)
  exact this.nodup_iff.mp hnd
 have a:(aY 0 ks'++aY 1 ks'++al).Nodup:=by
  have s:((aY 0 ks'++aY 1 ks')++al0).Sublist ((aY 0 ks'++aY 1 ks')++(r0++r1)):=(List.Sublist.refl _).append hal;exact((hpa.append_left (aY 0 ks'++aY 1 ks')).nodup_iff).mpr (f.sublist s)
 have h:(aY 0 ks').Nodup:=(a.sublist (sublist_append_left _ _)).sublist (sublist_append_left _ _);have i:al.Nodup:=a.sublist (sublist_append_right _ _);have b:∀ k∈ks',rM k:=λk b=>hk k (hp.mem_iff.mp b)
 have n:∀ x∈aY 0 ks',x∈L.map (·.1):=λx c=>h0.mem_iff.mpr (Xx _ (l.mem_iff.mp c))
 have inR:∀ x∈aY 1 ks',x∈R.map (·.1):=λx c=>h1.mem_iff.mpr (Xx _ (g.mem_iff.mp c))
 have e:∀ x∈al,x∈(L++R).map (·.1):=λx c=>by
  rw[map_append];rcases mem_append.mp (d x c) with z | z
  .exact Xx _ (h0.mem_iff.mpr (Xw _ z))
  .exact Xw _ (h1.mem_iff.mpr (Xw _ z))
 have len0:(L.map (·.1)).length=(aY 0 ks).length+r0.length:=by rw[h0.length_eq,Xr]
 have len1:(R.map (·.1)).length=(aY 1 ks).length+r1.length:=by rw[h1.length_eq,Xr]
 have o:al.length<=r0.length+r1.length:=by
  rw[hpa.length_eq,← Xr];exact hal.length_le
 rw[XF] at len0 len1;refine⟨hg,hnd,by lia,by lia,b,uN hu h b,by rw[hp.length_eq];lia,⟨λx c=>?_,tX j i,by lia⟩,n,inR,a,?_,e⟩
 .obtain⟨p,m,rfl⟩:=mem_map.mp (e x c);exact(hg p m).1
 .rw[Xr,Xr,l.length_eq,g.length_eq];lia
def BW(ks:List Lnk):Hom (ks.map aX):=by
 refine⟨λa c b e=>?_,.inr (.inr λd hd=>?_)⟩
 .obtain⟨x,_,rfl⟩:=mem_map.mp c;obtain⟨y,_,rfl⟩:=mem_map.mp e;exact m8 _ _
 .obtain⟨x,_,rfl⟩:=mem_map.mp hd;exact⟨_,_,rfl⟩
def Fv:Sp:=λc H Q _=>∃(d lo:Addr)(v:V)(L R:List Prt),c=[.ref d,v]/\bh d lo H/\Den H v (.tup [.tup (L.map bN),.tup (R.map bN)])/\L.length<=12/\R.length<=12/\(∀ p∈L++R,wU p)/\((L++R).map (·.1)).Nodup /\
 ∀(q a b:Addr)(ks:List Lnk)(al:Nms)(H':Hp),H' q=some (.tup [.ref a,.ref b])->Den H' (.ref a) (.tup (ks.map aX))->Den H' (.ref b) (fM al)->Jh L R ks al->bh d lo H'->Old d lo H H'->Q (.ref q) H'
def JT{b:Bool}{p q:Prop}(h:b=true)(x:p):if b=true then p else q:=by
 rw[if_pos h];exact x
def same_none{H H':Hp}{b:Addr}(s:Same H H')(h:H' b=none):H b=none:=by
 cases e:H b with
 | none=>rfl
 | some o =>
  have:=s b o e;rw[h] at this;cases this
def Bf(L:List Prt):cg L=(L.map (·.1)).map mkT:=by
 unfold cg;rw[map_map]
 rfl
def gU:aU ["_law_pot_here","_law_sides_here","_law_left","_law_links","_law_k","_law_ones","_law_others","_law_lost","_law_alone"] ["_law_pot_here","_law_sides_here"] (aC qD):=⟨rfl,rfl,rfl,by decide +kernel,rfl,by decide +kernel,by decide +kernel⟩
def Le(h:Has K mg "_law_stood" qD ["_law_pot_here","_law_sides_here"])(Vc:Cal P w K mg base "_law_count" 2 ["_law_pot_here","_law_most"] rQ)(V3:Cal P w K mg base "_law_some" 3 ["_law_pot_here","_law_names_here","_law_most"] JF)(U0:Cal P w K mg base "_law_moments" 2 ["_law_pot_here","_law_many"] jJ)(UJ:Cal P w K mg base "_law_next" 1 ["_law_pot_here","_law_many"] iD)(UW:mg "range" = none)(Ux:mg "tuple" = none)(UL:mg "sorted" = none):Cal P w K mg base "_law_stood" 4 ["_law_pot_here","_law_sides_here"] Fv:=by
 refine h.mk' gU (λvs H Q E hs=>?_) (λf hD A outer s H vs Q E hr hs=>?_)
 .obtain⟨d,lo,v,L,R,rfl,_⟩:=hs
  rfl
 obtain⟨d,lo,v,L,R,rfl,hp,hv,hL,hR,hg,a5,k⟩:=hs;refine⟨_,(au (pL (ix:=2) gU.nd rfl rfl ["_law_pot_here","_law_sides_here","_law_left","_law_links","_law_k","_law_ones","_law_others","_law_lost","_law_alone"] (aC qD) ["_law_side_here"] [none] rfl rfl rfl (cJ (pv 1)) rfl (by decide +kernel) (by decide +kernel) (by decide +kernel) (by decide +kernel) (hg:=λcl C s H ex pn E=>(aK (i:=0) (by decide +kernel:(["_law_side_here"]:List Str).Nodup) rfl (Or.inl rfl))) (ht:=λcl C s H ex pn E=>cu) (he:=λcl C s H ex pn E=>(cH ["_law_side_here"] _ ["_law_part"] [none] rfl rfl rfl (cJ (pv 0)) rfl (by decide +kernel) (by decide +kernel) (J1 (by decide +kernel)) (by decide +kernel) (hg:=λcl C s H ex pn E=>(aK (i:=0) (by decide +kernel:(["_law_part"]:List Str).Nodup) rfl (Or.inl rfl))) (ht:=λcl C s H ex pn E=>cu) (he:=λcl C s H ex pn E=>(bA (bG) (pv 0) aA (λ_ _=>rfl))))))
  (au (aL (i:=3) gU.nd rfl (Or.inl rfl) (bI aq))
  (au (dJ PassesOwn.never rfl (cX rfl UW (aj (aN Vc hr (by decide) rfl (aj (pv 0) (aj aA aq))) aq)) (aK (i:=4) gU.nd rfl (Or.inl rfl))
   (aB (cB (PW.pt (qw (aQ (Ge hr.units0) (bA bw (pv 2) aA (λ_ _=>rfl)) (bI aq) (bC _)) (lG (aQ (Ge hr.units0) (bA bw (pv 2) aA (λ_ _=>rfl)) (bI aq) (bC _)))))
   (au (aL (i:=5) gU.nd rfl (Or.inl rfl) (aN V3 hr (by decide) rfl (aj (pv 0) (aj (bA bw (pv 2) aA (λ_ _=>rfl)) (aj aA aq)))))
  (au (aL (i:=6) gU.nd rfl (Or.inl rfl) (aN V3 hr (by decide) rfl (aj (pv 0) (aj (bA bw (pv 2) aA (λ_ _=>rfl)) (aj aA aq)))))
  (au (aL (i:=7) gU.nd rfl (Or.inl rfl) (bQ (aj (aN U0 hr (by decide) rfl (aj (pv 0) (aj (aN UJ hr (by decide) rfl (aj (pv 0) (aj aA aq))) aq))) (aj (aN U0 hr (by decide) rfl (aj (pv 0) (aj (aN UJ hr (by decide) rfl (aj (pv 0) (aj aA aq))) aq))) aq))))
  (aB (cN (dY PySem.F.plainAttrs_list PySem.F.slot_list_append PySem.F.type_list_append bJ (pv 3) (aj (bQ (aj (pv 5) (aj (pv 6) (aj (bA bG (aN U0 hr (by decide) rfl (aj (pv 0) (aj aA aq))) aA (λ_ _=>rfl)) (aj (pv 7) aq))))) aq)))))))
   bf)))
  (au (pL (ix:=8) gU.nd rfl rfl ["_law_pot_here","_law_sides_here","_law_left","_law_links","_law_k","_law_ones","_law_others","_law_lost","_law_alone"] (aC qD) ["_law_pot_here","_law_name"] [some 0,none] rfl rfl rfl (eG (bB jw (bA bw (pv 2) aA (λ_ _=>rfl)) (bA bw (pv 2) aA (λ_ _=>rfl)))) rfl (by decide +kernel) (by decide +kernel) (by decide +kernel) (by decide +kernel) (hg:=λcl C s H ex pn E=>(aK (i:=1) (by decide +kernel:(["_law_pot_here","_law_name"]:List Str).Nodup) rfl (Or.inl rfl))) (ht:=λcl C s H ex pn E=>(j5 (aQ gJ (aN UJ hr (by decide) rfl (aj (pv 0) (aj aA aq))) aA (bC _)))) (he:=λcl C s H ex pn E=>(pv 1)))
  (aB (aW (bQ (aj (aP aM rfl Ux boot_tuple (aj (aR (bT (cj hr.units)) rfl UL boot_sorted (aj (pv 3) aq)) aq)) (aj (aP aM rfl Ux boot_tuple (aj (aR (bT (cj hr.units)) rfl UL boot_sorted (aj (pv 8) aq)) aq)) aq))))))))),?_⟩
 obtain⟨p,U,rfl,ep,hd⟩:=aO hv;obtain⟨b0,b1,rfl⟩:∃ b0 b1,U=[b0,b1]:=by
  match U,hd with
  | [b0,b1],_=>exact⟨b0,b1,rfl⟩
  | [],h=>exact h.elim
  | [_],h=>exact h.2.elim
  | _::_::_::_,h=>exact h.2.2.elim
 obtain⟨pl,ls,rfl,fp,fc⟩:=aO hd.1;obtain⟨pr,rs,rfl,fa,gh⟩:=aO hd.2.1;refine⟨_,rfl,p,rfl,⟨_,SqT.of ep⟩,λla ct=>?_⟩;refine iz (J:=Itt K0 p) (l:=la) 2 (λi σ' H'=>∃(v:Option V)(as:List Addr),σ'=[v]/\H' la=some (.lst (as.map V.ref))/\Same H H'/\as.length=i/\as.Nodup/\(∀ l∈as,H l=none/\l≠la)/\∀(j:Nat)(l:Addr)(qs:List Prt),as[j]?=some l->[L,R][j]?=some qs->H' l=some (.lst (cg qs))) ⟨none,[],rfl,ak,ao ct _,rfl,.nil,(λl h=>by cases h),(λj l qs h=>by simp at h)⟩ ?_ ?_
 .rintro σ' H1 ⟨v,as,rfl,ea,s1,bS,bb,a9,aS⟩;obtain⟨D,G,rfl⟩:∃ D G,as=[D,G]:=by
   match as,bS with
   | [D,G],_=>exact⟨D,G,rfl⟩
  have e0:H1 D=some (.lst ((L.map (·.1)).map mkT)):=by rw[← Bf];exact aS 0 D L rfl rfl
  have e1:H1 G=some (.lst ((R.map (·.1)).map mkT)):=by rw[← Bf];exact aS 1 G R rfl rfl
  obtain⟨f0,f5⟩:=a9 D (.head _);obtain⟨f1,eR⟩:=a9 G (.tail _ (.head _));have el:D≠G:=by
   intro z;subst z;simp at bb
  refine⟨⟨_,SqT.of (s1 _ _ ep),ql _⟩,?_⟩;have o1:Old d lo H H1:=Old.of s1;have p1:=hp.same s1;obtain⟨bE,bv⟩:=hp.ne f0;obtain⟨b5,bn⟩:=hp.ne f1;obtain⟨bp,bu⟩:=hp.ne ct;have cr:atI [V.ref D,V.ref G] 0=some (.ref D):=bF _ _;have cp:atI [V.ref D,V.ref G] 1=some (.ref G):=aZ (xs:=[V.ref D,V.ref G]) (j:=1) rfl;have d6:(L.map (·.1)).Nodup:=by rw[map_append] at a5;exact a5.sublist (sublist_append_left _ _)
  have d4:(R.map (·.1)).Nodup:=by rw[map_append] at a5;exact a5.sublist (sublist_append_right _ _)
  have fz:∀ x∈L.map (·.1),isNm ⟨x.toArray⟩=true:=λx hx=>by
   obtain⟨q,hq,rfl⟩:=mem_map.mp hx;exact(hg q (Xx _ hq)).1
  have ge:∀ x∈R.map (·.1),isNm ⟨x.toArray⟩=true:=λx hx=>by
   obtain⟨q,hq,rfl⟩:=mem_map.mp hx;exact(hg q (Xw _ hq)).1
  refine gN ⟨smn 0,λlk ar=>?_⟩;have s2:=ao ar (.lst []);obtain⟨Y,ab⟩:=p1.ne ar;have eC:lk≠la:=(aD ea ar).symm;have dw:lk≠D:=(aD e0 ar).symm;have eo:lk≠G:=(aD e1 ar).symm;have em:H lk=none:=same_none s1 ar;refine⟨_,rfl,d,lo,3,rfl,p1.same s2,by decide,by decide,λr H3 r0 r1 p3 o3=>?_⟩;refine⟨r,rfl,by lia,by lia,?_⟩;refine iJ (lo:=0) (n:=r.toNat) (λj σ H4=>∃(v4 v5 v6 v7:Option V)(U:List V)(ks:List Lnk)(u t:Nms),σ=[some (.ref d),some (.ref p),some (.ref la),some (.ref lk),v4,v5,v6,v7,none]/\bh d lo H4/\H4 la=some (.lst [.ref D,.ref G])/\H4 D=some (.lst (u.map mkT))/\H4 G=some (.lst (t.map mkT))/\H4 lk=some (.lst U)/\bW H4 U (ks.map aX)/\ks.length<=j/\(∀ q∈ks,rM q)/\(L.map (·.1)).Perm (aY 0 ks++u)/\(R.map (·.1)).Perm (aY 1 ks++t)/\Old d lo H H4)
   ⟨none,none,none,none,[],[],L.map (·.1),R.map (·.1),rfl,p3,o3 la _ (s2 _ _ ea) bp bu,o3 D _ (s2 _ _ e0) bE bv,o3 G _ (s2 _ _ e1) b5 bn,o3 lk _ ak Y ab,trivial,ql _,(λq h=>by cases h),List.Perm.refl _,List.Perm.refl _,(o1.trans (Old.of s2)).trans o3⟩ ?_ ?_
  .rintro j σ H4 hj ⟨v4,v5,v6,v7,U,ks,u,t,rfl,p4,Z,az,aE,a8,aT,eP,a4,W,N,o4⟩;have gy:j<12:=by lia
   refine gN ⟨_,rfl,la,_,0,_,rfl,rfl,SqL.of Z,cr,smn 0,λb hb=>?_⟩;have s5:=ao hb (.lst []);refine⟨D,b,_,rfl,rfl,s5 _ _ az,ak,_,rfl,?_⟩;have c6:∀ {H5:Hp},Same H4 H5->∃(gt fT fg eS:Option V)(U:List V)(ks:List Lnk)(u t:Nms),[some (V.ref d),some (.ref p),some (.ref la),some (.ref lk),some (.int (0+(j:Int))),v5,v6,v7,none]=[some (.ref d),some (.ref p),some (.ref la),some (.ref lk),gt,fT,fg,eS,none]/\bh d lo H5/\H5 la=some (.lst [.ref D,.ref G])/\H5 D=some (.lst (u.map mkT))/\H5 G=some (.lst (t.map mkT))/\H5 lk=some (.lst U)/\bW H5 U (ks.map aX)/\ks.length<=j+1/\(∀ q∈ks,rM q)/\(L.map (·.1)).Perm (aY 0 ks++u)/\(R.map (·.1)).Perm (aY 1 ks++t)/\Old d lo H H5 :=
    fun {H5} s=>⟨_,_,_,_,U,ks,u,t,rfl,p4.same s,s _ _ Z,s _ _ az,s _ _ aE,s _ _ a8,aT.same s,by lia,a4,W,N,o4.trans (Old.of s)⟩
   by_cases hra:u=[]
   .subst hra;exact Gw (c6 s5)
   refine JT (by cases u with | nil=>exact absurd rfl hra | cons=>rfl) ?_;refine⟨_,rfl,la,_,1,_,rfl,rfl,SqL.of (s5 _ _ Z),cp,smn 0,λb6 f8=>?_⟩;have s6:=s5.trans (ao f8 (.lst []));refine⟨G,b6,_,rfl,rfl,s6 _ _ aE,ak,_,rfl,?_⟩;by_cases hrb:t=[]
   .subst hrb;exact Gw (c6 s6)
   refine JT (by cases t with | nil=>exact absurd rfl hrb | cons=>rfl) ?_;generalize upd (upd H4 b (.lst [])) b6 (.lst [])=H6 at s6;have c8:u.Nodup:=(W.nodup_iff.mp d6).sublist (sublist_append_right _ _);have dQ:t.Nodup:=(N.nodup_iff.mp d4).sublist (sublist_append_right _ _);have di:u.length<=12:=by
    have:=W.length_eq;rw[XF,Xr] at this;lia
   have d2:t.length<=12:=by
    have:=N.length_eq;rw[XF,Xr] at this;lia
   have p6:=p4.same s6;have dA:=s6 _ _ az;have fC:=s6 _ _ aE;have c9:=s6 _ _ Z;have a6:=s6 _ _ a8;refine gN ⟨_,rfl,_,rfl,la,_,0,_,rfl,rfl,SqL.of c9,cr,d,lo,D,u,3,rfl,p6,dA,bE,bv,hra,by lia,c8,λx hx=>fz x (W.mem_iff.mpr (Xw _ hx)),by decide,by decide,λq7 cw e2 H7 bq g7 fR hC ck gm p7 o7=>?_⟩;have k7:=pD p6 dA o7;have dT:H7 G=_:=o7 G _ fC b5 bn el.symm;have ei:H7 la=_:=o7 la _ c9 bp bu f5.symm;have bX:H7 lk=_:=o7 lk _ a6 Y ab dw;refine gN ⟨_,rfl,_,rfl,la,_,1,_,rfl,rfl,SqL.of ei,cp,d,lo,G,t,3,rfl,p7,dT,b5,bn,hrb,by lia,dQ,λx hx=>ge x (N.mem_iff.mpr (Xw _ hx)),by decide,by decide,λO ch eJ H8 bP g8 fE hJ fe eD p8 o8=>?_⟩;have k8:=pD p7 dT o8;have fo:H8 D=_:=o8 D _ gm bE bv el;have eW:H8 la=_:=o8 la _ ei bp bu eR.symm;have dS:H8 lk=_:=o8 lk _ bX Y ab eo;refine gN ⟨_,rfl,?_⟩;refine mG (σ:=[some (.ref d),some (.ref p),some (.ref la),some (.ref lk),some (.int (0+(j:Int))),some (.ref q7),some (.ref O),v7,none]) (i:=0) (m:=3) rfl p8 (by decide) (by decide) λr9 H9 c0 c1 p9 o9=>?_
   obtain⟨m9,rfl⟩:=Int.eq_ofNat_of_zero_le c0;refine⟨d,lo,m9,rfl,p9,by lia,λB a1 fm ag e6 g4 dv fw=>?_⟩;refine⟨_,rfl,?_⟩;refine mG (σ:=[some (.ref d),some (.ref p),some (.ref la),some (.ref lk),some (.int (0+(j:Int))),some (.ref q7),some (.ref O),v7,none]) (i:=0) (m:=3) rfl dv (by decide) (by decide) λhV hu c2 c3 gi ej=>?_
   obtain⟨eL,rfl⟩:=Int.eq_ofNat_of_zero_le c2;refine⟨d,lo,eL,rfl,gi,by lia,λac bc ba ee eB gO fb dK=>?_⟩;refine⟨smn 2,λtl fk=>?_⟩;have oB:Old d lo H8 ba:=((o9.trans fw).trans ej).trans dK;have kB:=dW p8 oB;have kC:=dW dv (ej.trans dK);have b2:=ao fk (.tup [.ref B,.ref ac]);have b7:(upd ba tl (.tup [.ref B,.ref ac])) tl=some (.tup [.ref B,.ref ac]):=ak;have cx:=fb.same b2;have oC:Old d lo H8 (upd ba tl (.tup [.ref B,.ref ac])):=oB.trans (Old.of b2);generalize upd ba tl (.tup [.ref B,.ref ac])=fd at b2 b7 cx oC;have ds:fd lk=_:=oC lk _ dS Y ab;refine gN ⟨_,rfl,.inl ⟨rfl,_,SqL.of ds⟩,_,rfl,_,rfl,_,rfl,d,lo,1,rfl,cx,by decide,λfN b9 aI dL dp cK eH cF=>?_⟩;obtain⟨mm,rfl⟩:∃ mm,b9=[mm]:=by
    match b9,cK with
    | [mm],_=>exact⟨mm,rfl⟩
   refine⟨fN,_,0,_,rfl,rfl,SqT.of dL,bF _ _,_,rfl,smn 4,λtq f2=>?_⟩;have oD:=oC.trans cF;have de:=dW cx cF;have a3:=ao f2 (.tup [.ref q7,.ref O,.int mm,.ref tl]);have cd:(upd aI tq (.tup [.ref q7,.ref O,.int mm,.ref tl])) tq=some (.tup [.ref q7,.ref O,.int mm,.ref tl]):=ak;have dc:=eH.same a3;have oE:Old d lo H8 (upd aI tq (.tup [.ref q7,.ref O,.int mm,.ref tl])):=oD.trans (Old.of a3);have kE:=dW p8 oE;have kF:∀(b:Addr)(vs:List V),ba b=some (.tup vs)->(upd aI tq (.tup [.ref q7,.ref O,.int mm,.ref tl])) b=some (.tup vs):=λb vs e=>a3 _ _ (de _ _ (b2 _ _ e))
   have b8:(upd aI tq (.tup [.ref q7,.ref O,.int mm,.ref tl])) tl=some (.tup [.ref B,.ref ac]):=a3 _ _ (de _ _ b7);generalize upd aI tq (.tup [.ref q7,.ref O,.int mm,.ref tl])=an at a3 cd dc oE kE kF b8;have ce:an lk=_:=oE lk _ dS Y ab;have dj:an D=_:=oE D _ fo bE bv;have ef:an G=_:=oE G _ eD b5 bn;have ek:an la=_:=oE la _ eW bp bu;have kA:∀(b:Addr)(vs:List V),H4 b=some (.tup vs)->an b=some (.tup vs):=λb vs e=>kE _ _ (k8 _ _ (k7 _ _ (s6 _ _ e)))
   have kT:=jW (zs:=U++[.ref tq]) ce;have dq:Den an (.ref tq) (aX (cw,ch,mm,a1,bc)):=by
    refine⟨tq,_,rfl,cd,⟨q7,_,rfl,kE _ _ (k8 _ _ bq),dB _ cw⟩,⟨O,_,rfl,kE _ _ bP,dB _ ch⟩,rfl,⟨tl,_,rfl,b8,⟨B,_,rfl,kF _ _ (kC _ _ ag),jz _ a1⟩,⟨ac,_,rfl,kF _ _ ee,jz _ bc⟩,trivial⟩,trivial⟩
   refine⟨lk,U,_,rfl,rfl,ce,?_,?_⟩
   .have:=aT.len;rw[XF] at this;exact aH (by lia)
   refine⟨_,_,_,_,U++[.ref tq],ks++[(cw,ch,mm,a1,bc)],e2,eJ,rfl,dc.upd Y ab,(aG eC.symm).trans ek,(aG dw.symm).trans dj,(aG eo.symm).trans ef,ak,?_,by rw[Xr,length_singleton];lia,λq hq=>?_,?_,?_,?_⟩
   .rw[map_append];exact bW.snoc (Den.keepT kT dq) ((aT.keepT kA).keepT kT)
   .rcases mem_append.mp hq with z | z
    .exact a4 q z
    .rw[mem_singleton.mp z];exact⟨g7,g8,fR,fE,(dp.1 mm (.head _)).1,(dp.1 mm (.head _)).2,e6,eB⟩
   .rw[oO,append_assoc];exact W.trans (ck.append_left _)
   .rw[oO,append_assoc];exact N.trans (fe.append_left _)
   .have oF:Old d lo H H6:=o4.trans (Old.of s6);have oG:Old d lo H H7:=λc o e h1 h2=>o7 c o (oF c o e h1 h2) h1 h2 (aD e f0)
    have oH:Old d lo H H8:=λc o e h1 h2=>o8 c o (oG c o e h1 h2) h1 h2 (aD e f1)
    exact(oH.trans oE).free em
  .rintro σ H4 ⟨v4,v5,v6,v7,U,ks,u,t,rfl,p4,Z,az,aE,a8,aT,eP,a4,W,N,o4⟩;have di:u.length<=12:=by
    have:=W.length_eq;rw[XF,Xr] at this;lia
   have d2:t.length<=12:=by
    have:=N.length_eq;rw[XF,Xr] at this;lia
   refine⟨_,rfl,la,_,0,_,rfl,rfl,SqL.of Z,cr,_,rfl,la,_,1,_,rfl,rfl,SqL.of Z,cp,D,G,_,_,rfl,rfl,az,aE,by rw[XF,XF];exact small (by lia),λlq d5=>?_⟩;rw[← map_append];have s5:=ao d5 (.lst ((u++t).map mkT));have bt:(upd H4 lq (.lst ((u++t).map mkT))) lq=some (.lst ((u++t).map mkT)):=ak;generalize upd H4 lq (.lst ((u++t).map mkT))=H5 at s5 bt;refine⟨lq,rfl,⟨_,SqL.of bt⟩,λX g=>?_⟩;have p5:=p4.same s5;obtain⟨c7,eb⟩:=p5.ne g;obtain⟨gc,eQ⟩:=p4.ne d5;have eK:X≠lk:=(aD (s5 _ _ a8) g).symm;have fy:X≠lq:=(aD bt g).symm;have ay:H X=none:=(o4.trans (Old.of s5)).none hp p5 g;refine iz (J:=Itl K0 lq) (l:=X) ((u++t).map mkT).length (λi σ' H'=>∃(v:Option V)(al:Nms),σ'=[some (.ref d),v]/\H' X=some (.lst (al.map mkT))/\H' lq=some (.lst ((u++t).map mkT))/\H' lk=some (.lst U)/\bW H' U (ks.map aX)/\al.Sublist ((u++t).take i)/\bh d lo H'/\Old d lo H H') ⟨none,[],rfl,ak,ao g _ _ _ bt,ao g _ _ _ (s5 _ _ a8),(aT.same s5).same (ao g _),.slnil,p5.new g,(o4.trans (Old.of s5)).new g⟩ ?_ ?_
   .rintro σ' H6 ⟨v,al,rfl,co,a0,a6,br,I,p6,o6⟩;rw[XF,take_length] at I;refine⟨⟨_,SqL.of a0,ql _⟩,?_⟩;have hk:al.length<=24:=by
     have:=I.length_le;rw[Xr] at this;lia
    refine gN ⟨_,rfl,lk,U,_,rfl,.inl (SqL.of a6),br,BW ks,by rw[XF];lia,λx hx=>?_,λl7 T hc gd ck fI f9=>?_⟩
    .obtain⟨y,hy,rfl⟩:=mem_map.mp hx;exact show dz 50 _ from cZ (n:=3) (Dh (a4 y hy)) 47
    obtain⟨gb,f4,rfl⟩:=lY ck rfl;have s7:=ao gd (.lst T);refine⟨l7,_,rfl,.inl ⟨SqL.of ak,λO fl=>?_⟩⟩;have s8:=s7.trans (ao fl (.tup T));have bP:(upd (upd H6 l7 (.lst T)) O (.tup T)) O=some (.tup T):=ak;generalize upd (upd H6 l7 (.lst T)) O (.tup T)=H8 at s8 bP;have f6:=s8 _ _ co;refine⟨_,rfl,X,_,_,rfl,.inl (SqL.of f6),dB _ al,iw al,by rw[XF];lia,λx hx=>?_,λl9 S hF e5 gr gs eM=>?_⟩
    .obtain⟨y,_,rfl⟩:=mem_map.mp hx;exact show dz 50 _ from cZ (n:=0) (eN _) 50
    obtain⟨e3,f3,rfl⟩:=lY gr rfl;have s9:=ao e5 (.lst S);refine⟨l9,_,rfl,.inl ⟨SqL.of ak,λB dl=>?_⟩⟩;have da:=s9.trans (ao dl (.tup S));have ag:(upd (upd H8 l9 (.lst S)) B (.tup S)) B=some (.tup S):=ak;generalize upd (upd H8 l9 (.lst S)) B (.tup S)=fm at da ag;refine⟨smn 2,λgg dk=>?_⟩;have c4:=ao dk (.tup [.ref O,.ref B]);have sA:=da.trans c4;have sB:=s8.trans sA;refine k gg O B gb e3 _ ak ⟨O,T,rfl,sA _ _ bP,f9.same sB⟩ ⟨B,S,rfl,c4 _ _ ag,eM.same sA⟩ ?_ (p6.same sB) (o6.trans (Old.of sB));exact Ja hL hR hg a5 a4 (by lia) W N f4 fI I f3 gs
   .rintro i σ' H6 hi ⟨v,al,rfl,co,a0,a6,br,I,p6,o6⟩;have bz:i<(u++t).length:=by rwa [XF] at hi
    have M:((u++t).map mkT)[i]?=some (mkT (u++t)[i]):=Tj bz;refine⟨⟨_,_,SqL.of a0,M⟩,?_⟩;rintro y cv ⟨rfl,hy⟩;have ey:y=mkT (u++t)[i]:=Xn ((hy _ (SqL.of a0)).symm.trans M);subst ey;have ed:(u++t).take (i+1)=(u++t).take i++[(u++t)[i]]:=by
     rw[take_add_one,n6 bz]
     rfl
    refine gN ?_;refine mG (σ:=[some (.ref d),some (mkT (u++t)[i])]) (i:=0) (m:=3) rfl p6 (by decide) (by decide) λr7 H7 c0 c1 p7 o7=>?_
    have k7:=dW p6 o7;have cm:H7 X=_:=o7 X _ co c7 eb;have bq:H7 lq=_:=o7 lq _ a0 gc eQ;have bX:H7 lk=_:=o7 lk _ a6 Y ab;refine⟨rfl,_,rfl,?_⟩;tm_at"d"
    .refine⟨_,rfl,_,cm,?_,_,al++[(u++t)[i]],rfl,?_,(aG fy.symm).trans bq,(aG eK.symm).trans bX,?_,?_,p7.upd c7 eb,(o6.trans o7).free ay⟩
     .rw[XF];have:=I.length_le;rw[length_take,Xr] at this;exact aH (by lia)
     .rw[ak,map_append]
      rfl
     .exact(br.keepT k7).keepT (jW cm)
     .rw[ed];exact I.append (List.Sublist.refl _)
    .refine⟨_,al,rfl,cm,bq,bX,br.keepT k7,?_,p7,o6.trans o7⟩;rw[ed];exact I.trans (sublist_append_left _ _)
 .rintro i σ' H1 hi ⟨v,as,rfl,ea,s1,bS,bb,a9,aS⟩;obtain⟨qs,ws,pq,dP,hq,bo,dx,hW⟩:∃(qs:List Prt)(ws:List V)(pq:Addr),([V.ref pl,V.ref pr]:List V)[i]?=some (.ref pq)/\[L,R][i]?=some qs/\H pq=some (.tup ws)/\bW H ws (qs.map bN)/\qs.length<=12:=by
   match i,hi with
   | 0,_=>exact⟨L,ls,pl,rfl,rfl,fp,fc,hL⟩
   | 1,_=>exact⟨R,rs,pr,rfl,rfl,fa,gh,hR⟩
  refine⟨⟨_,_,SqT.of (s1 _ _ ep),dP⟩,?_⟩;rintro y cv ⟨rfl,hy⟩;have ey:y=.ref pq:=Xn ((hy _ (SqT.of (s1 _ _ ep))).symm.trans dP);subst ey;have d1:=dx.len;rw[XF] at d1;refine gN (uH (lQ ?_));refine⟨_,rfl,pq,rfl,⟨_,SqT.of (s1 _ _ bo)⟩,λX g=>?_⟩;refine iz (J:=Itt K0 pq) (l:=X) ws.length (λi σ' H'=>∃(v:Option V),σ'=[v]/\H'=upd cv X (.lst (cg (qs.take i)))) ⟨none,rfl,rfl⟩ ?_ ?_
  .rintro σ' H2 ⟨v,rfl,rfl⟩;have s2:=ao g (.lst (cg (qs.take ws.length)));refine⟨⟨_,SqT.of (s2 _ _ (s1 _ _ bo)),ql _⟩,?_⟩;have cS:la≠X:=aD ea g;have ay:H X=none:=same_none s1 g;have dt:X ∉ as:=λz=>by
    obtain⟨j,hj,e⟩:=mem_iff_getElem.mp z;have fi:j<2:=by lia
    have fr:∃ q,[L,R][j]?=some q:=by
     match j,fi with
     | 0,_=>exact⟨_,rfl⟩
     | 1,_=>exact⟨_,rfl⟩
    obtain⟨q,fv⟩:=fr;have:=aS j X q (by rw[n6 hj,e]) fv;rw[g] at this;cases this
   refine⟨_,s2 _ _ ea,by rw[XF];exact aH (by lia),_,as++[X],rfl,?_,?_,by rw[Xr,bS];rfl,?_,?_,?_⟩
   .rw[ak,map_append]
    rfl
   .intro c o z;rw[aG (aD z ct)];exact s2 _ _ (s1 _ _ z)
   .rw[nodup_append];exact⟨bb,by simp,λa ha b hb e=>dt (by rw[mem_singleton.mp hb] at e;rw[← e];exact ha)⟩
   .intro l hl;rcases mem_append.mp hl with z | z
    .exact a9 l z
    .rw[mem_singleton.mp z];exact⟨ay,cS.symm⟩
   .intro j l q hj am;rcases Nat.lt_or_ge j as.length with fh | fq
    .rw[getElem?_append_left fh] at hj;have e9:l≠la:=(a9 l (Xu hj)).2;rw[aG e9];exact s2 _ _ (aS j l q hj am)
    .rw[getElem?_append_right fq] at hj;have gl:j=as.length:=by
      have:=(pN.mp hj).1;simp at this;lia
     subst gl;simp at hj;subst hj;rw[aG cS.symm,ak];rw[bS] at am;rw[hq] at am;injection am with am;subst am;rw[d1,take_length]
  .rintro i' σ' H2 bz ⟨v,rfl,rfl⟩;have s2:=ao g (.lst (cg (qs.take i')));have M:ws[i']?=some ws[i']:=n6 bz;refine⟨⟨_,_,SqT.of (s2 _ _ (s1 _ _ bo)),M⟩,?_⟩;rintro y cv ⟨rfl,hy⟩;have ey:y=ws[i']:=Xn ((hy _ (SqT.of (s2 _ _ (s1 _ _ bo)))).symm.trans M);have dr:i'<qs.length:=by lia
   obtain⟨dd,du,dy⟩:=dx.at_ M;rw[← ey] at dy;rw[XC,n6 dr] at du;have e4:bN qs[i']=dd:=Xn du;subst e4;obtain⟨b,bs,rfl,hb,df⟩:=aO (dy.same (s1.trans s2));obtain⟨c0,cs,rfl⟩:∃ c0 cs,bs=c0::cs:=by
    cases bs with
    | nil=>exact df.elim
    | cons c0 cs=>exact⟨c0,cs,rfl⟩
   have ec:c0=mkT qs[i'].1:=df.1;subst ec;refine gN (uH (lQ ?_));refine⟨_,rfl,ixT (p:=b) rfl rfl (SqT.of hb) (bF _ _) (⟨ _,ak,?_,_,rfl,?_⟩)⟩
   .rw[cg,XF,length_take];exact aH (by lia)
   .rw[kY,take_add_one,n6 dr,cg,cg,map_append]
    rfl
def JN:Sp:=λa H Q _=>∃(d lo l:Addr)(xs:Nms),a=[.ref d,.ref l]/\bh d lo H/\H l=some (.lst (xs.map mkT))/\l≠d/\l≠lo/\Ar xs /\
 ∀(q:Addr)(L R:List Prt)(ks:List Lnk)(al rest:Nms)(H':Hp),Den H' (.ref q) (fG L R ks al)->Jh L R ks al->L.length<=12->R.length<=12->xs.Perm ((L++R).map (·.1)++rest)->H' l=some (.lst (rest.map mkT))->bh d lo H'->jD d lo l H H'->Q (.ref q) H'
def JD:aU ["_law_pot_here","_law_names_here","_law_sides_here"] ["_law_pot_here","_law_names_here"] (aC Ho):=⟨rfl,rfl,rfl,by decide +kernel,rfl,by decide +kernel,by decide +kernel⟩
def Nz(h:Has K mg "_law_book" Ho ["_law_pot_here","_law_names_here"])(V4:Cal P w K mg base "_law_sides" 3 ["_law_pot_here","_law_names_here"] Ce)(Y:Cal P w K mg base "_law_stood" 4 ["_law_pot_here","_law_sides_here"] Fv):Cal P w K mg base "_law_book" 5 ["_law_pot_here","_law_names_here"] JN:=by
 refine h.mk' JD (λvs H Q E M=>?_) (λf ay A outer s H vs Q E W M=>?_)
 .obtain⟨d,lo,l,xs,rfl,_⟩:=M
  rfl
 obtain⟨d,lo,l,xs,rfl,hp,hl,nd,nl,⟨an,I,B⟩,k⟩:=M;refine⟨_,(au (aL (i:=2) JD.nd rfl (Or.inl rfl) (aN V4 W (by decide) rfl (aj (pv 0) (aj (pv 1) aq))))
  (aB (aW (bB gF (pv 2) (aN Y W (by decide) rfl (aj (pv 0) (aj (pv 2) aq))))))),?_⟩
 refine⟨_,rfl,_,rfl,d,lo,l,xs,rfl,hp,hl,nd,nl,by lia,by lia,B,λq N g H1 O hPl c j e1 V o1=>?_⟩;obtain⟨L,R,rfl⟩:∃ L R,N=[L,R]:=by
  match N,hPl with
  | [L,R],_=>exact⟨L,R,rfl⟩
 have F:((L++R).map (·.1)).Nodup:=by
  have:=(j.nodup_iff.mp I).sublist (sublist_append_left _ _)
  simpa using this
 have hg:∀ p∈L++R,wU p:=λp u=>by
  rcases mem_append.mp u with z | z
  .exact(c L (.head _)).2 p z
  .exact(c R (.tail _ (.head _))).2 p z
 refine⟨_,rfl,_,rfl,_,rfl,d,lo,_,L,R,rfl,V,O,(c L (.head _)).1,(c R (.tail _ (.head _))).1,hg,F,λq2 a b ks al H2 e2 da db gb p2 G=>?_⟩;obtain⟨q',U,eq,J,hd⟩:=aO O;injection eq with eq;subst eq;obtain⟨n,m,rfl⟩:∃ n m,U=[n,m]:=by
  match U,hd with
  | [n,m],_=>exact⟨n,m,rfl⟩
  | [],h=>exact h.elim
  | [_],h=>exact h.2.elim
  | _::_::_::_,h=>exact h.2.2.elim
 obtain⟨pl,ls,rfl,D,y⟩:=aO hd.1;obtain⟨pr,rs,rfl,v,x⟩:=aO hd.2.1;have k2:=dW V G;obtain⟨a',Z,C,ha,r⟩:=aO da;injection C with C;subst C;obtain⟨b',bs,o,T,t⟩:=aO db;injection o with o;subst o;rw[Cd t] at T;refine⟨q,q2,_,_,rfl,rfl,k2 _ _ J,e2,smn 4,λS X e e3=>?_⟩;refine k S L R ks al g X ⟨S,_,rfl,e3,⟨pl,ls,rfl,e _ _ (k2 _ _ D),(y.keepT k2).same e⟩,⟨pr,rs,rfl,e _ _ (k2 _ _ v),(x.keepT k2).same e⟩,⟨a,Z,rfl,e _ _ ha,r.same e⟩,⟨b,_,rfl,e _ _ T,dB X al⟩,trivial⟩ gb (c L (.head _)).1 (c R (.tail _ (.head _))).1 (by simpa using j) (e _ _ (G _ _ e1 nd nl)) (p2.same e) ((o1.trans (jD.of2 G)).trans (jD.of e))
def sdP(n:Nat)(L R:List Prt):List Prt:=if n=0 then L else R
structure Md where
 m:Addr
 dt:Addr
 dw:Addr
 lr:Addr
 l0:Addr
 l1:Addr
 lk:Addr
 la:Addr
 W:List Addr
 b:Nat
def mdK(M:Md):List (Key × V):=[(Sum.inr "text",.ref M.dt),(Sum.inr "when",.ref M.dw),(Sum.inr "rows",.ref M.lr),(Sum.inr "links",.ref M.lk),(Sum.inr "alone",.ref M.la)]
def nk(x:List Nat):Key:=Sum.inr ⟨x.toArray⟩
def Jm{a b:List Nat}(h:nk a=nk b):a=b:=by
 injection h with h;injection h with h;exact Array.mk.inj h
def Md.ln(M:Md)(n:Nat):Addr:=if n=0 then M.l0 else M.l1
def Md.all(M:Md):List Addr:=[M.m,M.dt,M.dw,M.lr,M.l0,M.l1,M.lk,M.la]
structure Bl(T:List Addr)(H:Hp)(v:V)(k:Lnk):Prop where
 ex:∃(q a b c d:Addr),v=.ref q/\q ∉ T/\a ∉ T/\b ∉ T/\c ∉ T/\d ∉ T/\H q=some (.lst [.ref a,.ref b,.int k.2.2.1,.ref c,.ref d])/\H a=some (.lst (k.1.map mkT))/\H b=some (.lst (k.2.1.map mkT))/\H c=some (.lst (k.2.2.2.1.map V.int))/\H d=some (.lst (k.2.2.2.2.map V.int))
structure Rp(H:Hp)(dt:Addr)(P:List Prt):Prop where
 ex:∃ kt:List (Key × V),H dt=some (.dK kt)/\kt.length<=P.length/\(∀ p∈P,gQ kt (nk p.1)=some (mkT p.2.1))/\∀ k v,gQ kt k=some v->∃ p∈P,k=nk p.1/\v=mkT p.2.1
structure RD(H:Hp)(dw:Addr)(W:List Addr)(B:Nat)(P:List Prt):Prop where
 ex:∃ kt:List (Key × V),H dw=some (.dK kt)/\kt.length<=P.length/\W.length=P.length/\∀(i:Nat)(p:Prt),P[i]?=some p->∃(l:Addr)(ws:List Int),W[i]?=some l/\gQ kt (nk p.1)=some (.ref l)/\H l=some (.lst (ws.map V.int))/\ws.length<=B/\∀ k,k∈ws↔k∈p.2.2
structure TxM(H:Hp)(dt:Addr)(P:List Prt):Prop where
 ex:∃ kt:List (Key × V),H dt=some (.dK kt)/\kt.length<=120/\∀ p∈P,gQ kt (nk p.1)=some (mkT p.2.1)
structure WhM(H:Hp)(dw:Addr)(W:List Addr)(B:Nat)(P:List Prt):Prop where
 ex:∃ kt:List (Key × V),H dw=some (.dK kt)/\kt.length<=120/\W.length=P.length/\∀(i:Nat)(p:Prt),P[i]?=some p->∃(l:Addr)(ws:List Int),W[i]?=some l/\gQ kt (nk p.1)=some (.ref l)/\H l=some (.lst (ws.map V.int))/\ws.length<=B/\∀ k,k∈ws↔k∈p.2.2
structure GJ(T:List Addr)(H:Hp)(lk:Addr)(ks:List Lnk):Prop where
 ex:∃ us:List V,H lk=some (.lst us)/\us.length=ks.length/\us.Nodup/\∀(i:Nat)(u:V)(k:Lnk),us[i]?=some u->ks[i]?=some k->Bl T H u k
structure fH(S:List Addr)(H:Hp)(M:Md)(L R:List Prt)(ks:List Lnk)(al:Nms):Prop where
 m:H M.m=some (.dK (mdK M))
 t:TxM H M.dt (L++R)
 w:WhM H M.dw M.W M.b (L++R)
 lr:H M.lr=some (.lst [.ref M.l0,.ref M.l1])
 l0:H M.l0=some (.lst (cg L))
 l1:H M.l1=some (.lst (cg R))
 lk:GJ (M.all++M.W++S) H M.lk ks
 la:H M.la=some (.lst (al.map mkT))
 off:∀ a∈M.all,a ∉ S
 nd:M.all.Nodup
 wo:∀ a∈M.W,a ∉ S/\a ∉ M.all
 wn:M.W.Nodup
def Keep(S:List Addr)(H H':Hp):Prop:=∀ a o,H a=some o->a ∉ S->H' a=some o
def Keep.of{S:List Addr}{H H':Hp}(s:Same H H'):Keep S H H':=λa o h _=>s a o h
def Keep.old{d lo:Addr}{H H':Hp}(o:Old d lo H H'):Keep [d,lo] H H':=λa u h n=>o a u h (λz=>n (by rw[z];exact .head _)) (λz=>n (by rw[z];exact .tail _ (.head _)))
def Keep.mono{S T:List Addr}{H H':Hp}(h:Keep S H H')(hs:∀ a∈S,a∈T):Keep T H H':=λa o e n=>h a o e λz=>n (hs a z)
def Bl.keep{T S:List Addr}{H H':Hp}{v:V}{k:Lnk}(h:Bl T H v k)(s:Keep S H H')(hs:∀ a∈S,a∈T):Bl T H' v k:=by
 obtain⟨q,a,b,c,d,e,g,l,i,j,f,m,n,o,p,r⟩:=h.ex;exact⟨q,a,b,c,d,e,g,l,i,j,f,s _ _ m λz=>g (hs _ z),s _ _ n λz=>l (hs _ z),s _ _ o λz=>i (hs _ z),s _ _ p λz=>j (hs _ z),s _ _ r λz=>f (hs _ z)⟩
def GJ.keep{T S:List Addr}{H H':Hp}{lk:Addr}{ks:List Lnk}(h:GJ T H lk ks)(s:Keep S H H')(hs:∀ a∈S,a∈T)(hl:lk ∉ S):GJ T H' lk ks:=by
 obtain⟨j,e,c,b,f⟩:=h.ex;exact⟨j,s _ _ e hl,c,b,λi u k d g=>(f i u k d g).keep s hs⟩
def WhM.keep{S:List Addr}{H H':Hp}{dw:Addr}{W:List Addr}{B:Nat}{P:List Prt}(h:WhM H dw W B P)(s:Keep S H H')(hs:∀ a∈W,a ∉ S)(hl:dw ∉ S):WhM H' dw W B P:=by
 obtain⟨n,e,c,k,f⟩:=h.ex;refine⟨n,s _ _ e hl,c,k,λi p j=>?_⟩;obtain⟨l,g,b,o,d,m⟩:=f i p j;exact⟨l,g,b,o,s _ _ d (hs _ (Xu b)),m⟩
def fH.keep{S:List Addr}{H H':Hp}{M:Md}{L R:List Prt}{ks:List Lnk}{al:Nms}(h:fH S H M L R ks al)(s:Keep S H H'):fH S H' M L R ks al:=by
 have of:∀ {a:Addr}{o:HO},a∈M.all->H a=some o->H' a=some o:=λb e=>s _ _ e (h.off _ b)
 have c:∀ a∈S,a∈M.all++M.W++S:=λa z=>Xw _ z
 obtain⟨d,e,g,f⟩:=h.t.ex;refine⟨of (by simp[Md.all]) h.m,⟨d,of (by simp[Md.all]) e,g,f⟩,h.w.keep s (λa b=>(h.wo a b).1) (h.off _ (by simp[Md.all])),of (by simp[Md.all]) h.lr,of (by simp[Md.all]) h.l0,of (by simp[Md.all]) h.l1,h.lk.keep s c (h.off _ (by simp[Md.all])),of (by simp[Md.all]) h.la,h.off,h.nd,h.wo,h.wn⟩
def fH.same{S:List Addr}{H H':Hp}{M:Md}{L R:List Prt}{ks:List Lnk}{al:Nms}(h:fH S H M L R ks al)(s:Same H H'):fH S H' M L R ks al:=h.keep (.of s)
def mk1:(Sum.inr "text" : Key)≠(Sum.inr "when" : Key):=by decide +kernel
def mk2:(Sum.inr "text" : Key)≠(Sum.inr "rows" : Key):=by decide +kernel
def mk3:(Sum.inr "text" : Key)≠(Sum.inr "links" : Key):=by decide +kernel
def mk4:(Sum.inr "text" : Key)≠(Sum.inr "alone" : Key):=by decide +kernel
def mk5:(Sum.inr "when" : Key)≠(Sum.inr "rows" : Key):=by decide +kernel
def mk6:(Sum.inr "when" : Key)≠(Sum.inr "links" : Key):=by decide +kernel
def mk7:(Sum.inr "when" : Key)≠(Sum.inr "alone" : Key):=by decide +kernel
def mk8:(Sum.inr "rows" : Key)≠(Sum.inr "links" : Key):=by decide +kernel
def mk9:(Sum.inr "rows" : Key)≠(Sum.inr "alone" : Key):=by decide +kernel
def mk0:(Sum.inr "links" : Key)≠(Sum.inr "alone" : Key):=by decide +kernel
def v_text(M:Md):gQ (mdK M) (Sum.inr "text" : Key)=some (V.ref M.dt):=(bD rfl)
theorem Pq{H:Hp}{M:Md}(h:H M.m=some (.dK (mdK M))):iH H M.m (.str "text") (some (.ref M.dt)):=by
 rw[← v_text M];exact iH.k (k:=(Sum.inr _:Key)) h
def Qn(M:Md):gQ (mdK M) (Sum.inr "when" : Key)=some (V.ref M.dw):=((aV mk1).trans (bD rfl))
theorem Pj{H:Hp}{M:Md}(h:H M.m=some (.dK (mdK M))):iH H M.m (.str "when") (some (.ref M.dw)):=by
 rw[← Qn M];exact iH.k (k:=(Sum.inr _:Key)) h
def Oz(M:Md):gQ (mdK M) (Sum.inr "rows" : Key)=some (V.ref M.lr):=((aV mk2).trans ((aV mk5).trans (bD rfl)))
def nR{H:Hp}{M:Md}(h:H M.m=some (.dK (mdK M))):iH H M.m (.str "rows") (some (.ref M.lr)):=by
 rw[← Oz M];exact iH.k (k:=(Sum.inr _:Key)) h
def M9(M:Md):gQ (mdK M) (Sum.inr "links" : Key)=some (V.ref M.lk):=((aV mk3).trans ((aV mk6).trans ((aV mk8).trans (bD rfl))))
def rm{H:Hp}{M:Md}(h:H M.m=some (.dK (mdK M))):iH H M.m (.str "links") (some (.ref M.lk)):=by
 rw[← M9 M];exact iH.k (k:=(Sum.inr _:Key)) h
def Mu(M:Md):gQ (mdK M) (Sum.inr "alone" : Key)=some (V.ref M.la):=((aV mk4).trans ((aV mk7).trans ((aV mk9).trans ((aV mk0).trans (bD rfl)))))
def kJ{H:Hp}{M:Md}(h:H M.m=some (.dK (mdK M))):iH H M.m (.str "alone") (some (.ref M.la)):=by
 rw[← Mu M];exact iH.k (k:=(Sum.inr _:Key)) h
def dh(L R:List Prt)(x:List Nat):V:=if (cL (L++R) x).isSome=true then .int (cI L x:Nat) else .non
def yQ:Sp:=λb H Q _=>∃(S:List Addr)(M:Md)(L R:List Prt)(ks:List Lnk)(al:Nms)(x:List Nat),b=[.ref M.m,mkT x]/\fH S H M L R ks al/\∀ a,Same H a->Q (dh L R x) a
def pG{S:List Addr}{H:Hp}{M:Md}{L R:List Prt}{ks:List Lnk}{al:Nms}(h:fH S H M L R ks al){n:Nat}(hn:n<=1):atI [V.ref M.l0,V.ref M.l1] (n:Nat)=some (.ref (M.ln n))/\H (M.ln n)=some (.lst (cg (sdP n L R))):=by
 match n,hn with
 | 0,_=>exact⟨bF _ _,h.l0⟩
 | 1,_=>exact⟨aZ (xs:=[V.ref M.l0,V.ref M.l1]) (j:=1) rfl,h.l1⟩
def Qv{L R:List Prt}{x:List Nat}(h:x∈L.map (·.1)):dh L R x=.int (0:Nat):=by
 have b:(cL L x).isSome=true:=by rw[dI];exact XD h
 have a:(cL (L++R) x).isSome=true:=by rw[dI];exact XD (by rw[map_append];exact Xx _ h)
 unfold dh cI;rw[if_pos a,if_pos b]
theorem Px{L R:List Prt}{x:List Nat}(h0:x ∉ L.map (·.1))(h:x∈R.map (·.1)):dh L R x=.int (1:Nat):=by
 have b:¬ (cL L x).isSome=true:=by rw[dI];simpa using h0
 have a:(cL (L++R) x).isSome=true:=by rw[dI];exact XD (by rw[map_append];exact Xw _ h)
 unfold dh cI;rw[if_pos a,if_neg b]
def Qo{L R:List Prt}{x:List Nat}(h0:x ∉ L.map (·.1))(h:x ∉ R.map (·.1)):dh L R x=.non:=by
 have a:¬ (cL (L++R) x).isSome=true:=by
  rw[dI,decide_eq_true_eq,map_append,mem_append];exact λz=>z.elim h0 h
 unfold dh;rw[if_neg a]
def fK(x:List Nat)(k:Lnk):Bool:=decide (x∈k.1) || decide (x∈k.2.1)
def LkU(H:Hp)(M:Md)(ks:List Lnk)(x:List Nat)(u:V):Prop :=
 (u=.non/\∀ k∈ks,fK x k=false)\/∃(i:Nat)(us:List V)(k:Lnk),H M.lk=some (.lst us)/\us[i]?=some u/\ks[i]?=some k/\fK x k=true/\∀ j∈ks.take i,fK x j=false
def yG:Sp:=λa H Q _=>∃(S:List Addr)(M:Md)(L R:List Prt)(ks:List Lnk)(al:Nms)(x:List Nat),a=[.ref M.m,mkT x]/\fH S H M L R ks al/\∀ u,LkU H M ks x u->Q u H
def J3:aU ["_law_model_here","_law_name","_law_side_here"] ["_law_model_here","_law_name"] (aC Iv):=⟨rfl,rfl,rfl,by decide +kernel,rfl,by decide +kernel,by decide +kernel⟩
theorem PL(h:Has K mg "_law_side" Iv ["_law_model_here","_law_name"])  : Cal P w K mg base "_law_side" 1 ["_law_model_here","_law_name"] yQ:=by
 refine h.mk' J3 (λI H Q E C=>?_) (λf J A outer s H I Q E F C=>?_)
 .obtain⟨S,M,L,R,ks,al,x,rfl,_⟩:=C
  rfl
 obtain⟨S,M,L,R,ks,al,x,rfl,D,k⟩:=C;refine⟨_,(au (dJ PassesOwn.never rfl (cJ (bQ (aj aA (aj aA aq)))) (aK (i:=2) J3.nd rfl (Or.inl rfl))
   (aB (cB (aQ cC (pv 1) (bA bw (bx (bZ F) (pv 0) aF (λ_ _=>rfl)) (pv 2) (λ_ _=>rfl)) (by with_unfolding_all rfl))
   (aB (aW (pv 2)))
   bf)))
  (aB (aW dF))),?_⟩
 refine⟨smn 2,λl B=>⟨l,rfl,⟨_,SqT.of ak⟩,?_⟩⟩;have t:=ao B (.tup [.int 0,.int 1]);have o:(upd H l (.tup [.int 0,.int 1])) l=some (.tup [.int 0,.int 1]):=ak;generalize upd H l (.tup [.int 0,.int 1])=G at t o ⊢;have c:=D.same t;refine iQ (K:=K0) (a:=l) (xs:=[.int 0,.int 1]) (λi σ d=>∃ v:Option V,σ=[some (.ref M.m),some (mkT x),v]/\d=G/\∀ j,j<i->x ∉ (sdP j L R).map (·.1)) ⟨_,rfl,rfl,λj N=>by lia⟩ ?_ ?_ ?_
 .rintro i σ d _ ⟨_,_,rfl,_⟩;exact SqT.of o
 .rintro i y σ d r ⟨v,rfl,rfl,b⟩;obtain⟨n,rfl⟩:i<=1/\y=.int (i:Nat):=by
   match i,r with
   | 0,r=>exact⟨by lia,(Xn r).symm⟩
   | 1,r=>exact⟨by lia,(Xn r).symm⟩
  obtain⟨u,g⟩:=pG c n;refine gN ⟨_,rfl,_,rfl,M.m,_,rfl,nR c.m,_,rfl,ixL (p:=M.lr) rfl rfl (SqL.of c.lr) (u) (⟨ M.ln i,_,rfl,.inl (SqL.of g),rfl,by rw[mj];exact cR _,_,rfl,?_⟩)⟩;rw[show(if false=true then !inV (mkT x) (cg (sdP i L R)) else inV (mkT x) (cg (sdP i L R)))=inV (mkT x) (cg (sdP i L R)) from rfl,mj,gM];tm_at"d"
  .have z:=Xv z;have e:dh L R x=.int (i:Nat):=by
    match i,n,z,b with
    | 0,_,z,_=>exact Qv z
    | 1,_,z,b=>exact Px (b 0 (by lia)) z
   refine⟨_,rfl,?_⟩;have:=k d t;rw[e] at this;exact this
  .refine⟨_,rfl,rfl,λj N=>?_⟩;by_cases e:j=i
   .rw[e];exact λq=>z (XD q)
   .exact b j (by lia)
 .rintro σ d ⟨v,rfl,rfl,b⟩;have:=k d t;rw[Qo (L:=L) (R:=R) (b 0 (by show 0<2;lia)) (b 1 (by show 1<2;lia))] at this;exact this
def J4:aU ["_law_model_here","_law_name","_law_link_here"] ["_law_model_here","_law_name"] (aC Jd):=⟨rfl,rfl,rfl,by decide +kernel,rfl,by decide +kernel,by decide +kernel⟩
def NZ(h:Has K mg "_law_link" Jd ["_law_model_here","_law_name"])  : Cal P w K mg base "_law_link" 1 ["_law_model_here","_law_name"] yG:=by
 refine h.mk' J4 (λT H Q E C=>?_) (λf X A outer s H T Q E O C=>?_)
 .obtain⟨S,M,L,R,ks,al,x,rfl,_⟩:=C
  rfl
 obtain⟨S,M,L,R,ks,al,x,rfl,G,k⟩:=C;refine⟨_,(au (dJ PassesOwn.never rfl (eG (bx (bZ O) (pv 0) aF (λ_ _=>rfl))) (aK (i:=2) J4.nd rfl (Or.inl rfl))
   (aB (cB (PW.pt (vM (aQ cC (pv 1) (bA bw (pv 2) aA (λ_ _=>rfl)) (by with_unfolding_all rfl)) (nG (aQ cC (pv 1) (bA bw (pv 2) aA (λ_ _=>rfl)) (by with_unfolding_all rfl)))))
   (aB (aW (pv 2)))
   bf)))
  (aB (aW dF))),?_⟩
 obtain⟨I,g,t,N,u⟩:=G.lk.ex;refine⟨_,rfl,M.m,_,rfl,rm G.m,M.lk,rfl,⟨_,SqL.of g⟩,?_⟩;refine jh (K:=K0) (a:=M.lk) (xs:=I) (λi σ n=>∃ B:Option V,σ=[some (.ref M.m),some (mkT x),B]/\n=H/\∀ j∈ks.take i,fK x j=false) ⟨_,rfl,rfl,λj r=>by rw[take_zero] at r;cases r⟩ ?_ ?_ ?_
 .rintro i σ n _ ⟨_,_,rfl,_⟩;exact SqL.of g
 .rintro i y σ n F ⟨B,rfl,rfl,e⟩;have l:i<ks.length:=by
   have:=(pN.mp F).1;lia
  obtain⟨q,a,b,c,d,rfl,n1,n2,Y,n4,n5,J,U,W,Z,e5⟩:=(u i y _ F (n6 l)).ex;have ix:∀ {j:Nat}{yy:V},[V.ref a,.ref b,.int ks[i].2.2.1,.ref c,.ref d][j]?=some yy->atI [V.ref a,.ref b,.int ks[i].2.2.1,.ref c,.ref d] (j:Nat)=some yy:=λh=>aZ h
  have v:=take_one (bK l);have o:fK x ks[i]=true->LkU n M ks x (.ref q):=λz=>.inr ⟨i,I,ks[i],g,F,n6 l,z,e⟩
  refine gN ⟨_,rfl,_,rfl,ixL (p:=q) rfl rfl (SqL.of J) (ix (j:=0) rfl) (⟨ a,_,rfl,.inl (SqL.of U),rfl,cR _,_,rfl,?_⟩)⟩;rw[show(if false=true then !inV (mkT x) (ks[i].1.map mkT) else inV (mkT x) (ks[i].1.map mkT))=inV (mkT x) (ks[i].1.map mkT) from rfl,gM];tm_at"d"
  .exact⟨_,rfl,k _ (o (by unfold fK;rw[z,Bool.true_or]))⟩
  refine⟨_,rfl,_,rfl,ixL (p:=q) rfl rfl (SqL.of J) (ix (j:=1) rfl) (⟨ b,_,rfl,.inl (SqL.of W),rfl,cR _,_,rfl,?_⟩)⟩;rw[show(if false=true then !inV (mkT x) (ks[i].2.1.map mkT) else inV (mkT x) (ks[i].2.1.map mkT))=inV (mkT x) (ks[i].2.1.map mkT) from rfl,gM];refine dO (λD=>?_) (λD=>?_)
  .exact⟨_,rfl,k _ (o (by unfold fK;rw[D,Bool.or_true]))⟩
  .refine⟨_,rfl,rfl,λj r=>?_⟩;rw[v] at r;rcases mem_append.mp r with h | h
   .exact e j h
   .rw[mem_singleton.mp h];unfold fK;rw[Bool.eq_false_iff.mpr z,Bool.eq_false_iff.mpr D]
    rfl
 .rintro σ n ⟨B,rfl,rfl,e⟩;rw[t,take_length] at e;exact k _ (.inl ⟨rfl,e⟩)
def wdE:Option Nat->Str
 | none=>Str.ofString ""
 | some 0=>Str.ofString "NoPart"
 | some 1=>Str.ofString "NoPlace"
 | some 2=>Str.ofString "Twice"
 | some 3=>Str.ofString "Linked"
 | _=>Str.ofString "Apart"
def gj(ks:List Lnk)(al:Nms)(x:List Nat):Bool:=ks.all (λk=>!fK x k) && !decide (x∈al)
def jo(L R:List Prt)(ks:List Lnk)(al xs ys:Nms):Option Nat:=if (xs++ys).all (isP L R) then (if xs.any (cI L · != 0) || ys.any (cI L · != 1) then some 1 else if (xs++ys).all (gj ks al) then none else some 3) else some 0
def Liv(S:List Addr)(H:Hp):Prop:=∀ a∈S,∃ o,H a=some o
def fH.live{S:List Addr}{H:Hp}{M:Md}{L R:List Prt}{ks:List Lnk}{al:Nms}(h:fH S H M L R ks al):Liv (M.all++M.W) H:=by
 obtain⟨o,e,_⟩:=h.t.ex;obtain⟨q,d,_,k,f⟩:=h.w.ex;obtain⟨r,g,_⟩:=h.lk.ex;intro a b;rcases mem_append.mp b with b | b
 .simp only[Md.all,mem_cons,not_mem_nil,or_false] at b;rcases b with rfl | rfl | rfl | rfl | rfl | rfl | rfl | rfl
  .exact⟨_,h.m⟩
  .exact⟨_,e⟩
  .exact⟨_,d⟩
  .exact⟨_,h.lr⟩
  .exact⟨_,h.l0⟩
  .exact⟨_,h.l1⟩
  .exact⟨_,g⟩
  .exact⟨_,h.la⟩
 .obtain⟨i,n,rfl⟩:=mem_iff_getElem.mp b;obtain⟨l,p,c,_,j,_⟩:=f i _ (n6 (show i<(L++R).length by lia));rw[n6 n] at c;cases c;exact⟨_,j⟩
def fH.more{S:List Addr}{H H1:Hp}{M:Md}{L R:List Prt}{ks:List Lnk}{al:Nms}(h:fH S H M L R ks al)(hS:Liv S H)(s:Same H H1){us:List V}(hus:H1 M.lk=some (.lst us)){q a b c d:Addr}{k:Lnk}(hq:H q=none)(ha:H a=none)(hb:H b=none)(hc:H c=none)(hd:H d=none)
  (e1:H1 q=some (.lst [.ref a,.ref b,.int k.2.2.1,.ref c,.ref d]))(e2:H1 a=some (.lst (k.1.map mkT)))(e3:H1 b=some (.lst (k.2.1.map mkT)))(e4:H1 c=some (.lst (k.2.2.2.1.map V.int)))(e5:H1 d=some (.lst (k.2.2.2.2.map V.int))) :
  fH S (upd H1 M.lk (.lst (us++[.ref q]))) M L R (ks++[k]) al:=by
 have g:∀ {z:Addr},H z=none->z ∉ M.all++M.W++S:=fun {z} hz j=>by
  rcases mem_append.mp j with j | j
  .obtain⟨o,l⟩:=h.live z j;rw[hz] at l;cases l
  .obtain⟨o,l⟩:=hS z j;rw[hz] at l;cases l
 have f:=h.same s;have kp:Keep [M.lk] H1 (upd H1 M.lk (.lst (us++[.ref q]))):=λz o l hz=>by
  rw[aG (λe=>hz (by rw[e];exact .head _))];exact l
 have nl:∀ {z:Addr},H z=none->z ∉ [M.lk]:=λhz j=>g hz (Xx _ (Xx _ (by rw[mem_singleton.mp j];simp[Md.all])))
 have nd:=h.nd;simp only[Md.all,nodup_cons,mem_cons,not_mem_nil,or_false,not_or] at nd;have J:∀ z∈[M.lk],z∈M.all++M.W++S:=λz hz=>Xx _ (Xx _ (by rw[mem_singleton.mp hz];simp[Md.all]))
 obtain⟨T,O,n,v,D⟩:=f.lk.ex;rw[hus] at O;cases O;obtain⟨Z,X,E,B⟩:=f.t.ex;have ne:∀ {z:Addr},z≠M.lk->z ∉ [M.lk]:=λhz j=>hz (mem_singleton.mp j)
 refine⟨kp _ _ f.m (ne (by intro e;simp[e] at nd)),⟨Z,kp _ _ X (ne (by intro e;simp[e] at nd)),E,B⟩,f.w.keep kp (λz hz j=>?_) (ne (by intro e;simp[e] at nd)),kp _ _ f.lr (ne (by intro e;simp[e] at nd)),kp _ _ f.l0 (ne (by intro e;simp[e] at nd)),kp _ _ f.l1 (ne (by intro e;simp[e] at nd)),⟨us++[.ref q],ak,by rw[Xr,Xr,n];rfl,?_,λi u k' A p=>?_⟩,kp _ _ f.la (ne (by intro e;simp[e] at nd)),h.off,h.nd,h.wo,h.wn⟩
 .exact(h.wo z hz).2 (by rw[mem_singleton.mp j];simp[Md.all])
 .rw[nodup_append];refine⟨v,by simp,λx hx y Y e=>?_⟩;rw[mem_singleton.mp Y] at e;obtain⟨i,Q,F⟩:=mem_iff_getElem.mp hx;obtain⟨C,G,P,_,r⟩:=h.lk.ex;have U:us=C:=by
   have:=s _ _ G;rw[hus] at this;cases this
   rfl
  obtain⟨q',a',b',c',d',N,_,_,_,_,_,K,_⟩:=(r i x ks[i] (by rw[← U,n6 Q,F]) (n6 (by lia))).ex;rw[e] at N;cases N;rw[hq] at K;cases K
 .by_cases Q:i<ks.length
  .rw[getElem?_append_left (by lia)] at A p;exact(D i u k' A p).keep kp J
  .have I:i=ks.length:=by
    have:=(pN.mp p).1;rw[Xr,length_singleton] at this;lia
   subst I;rw[getElem?_append_right (by lia),n,Nat.sub_self] at A;rw[getElem?_append_right (ql _),Nat.sub_self] at p;cases A;cases p;exact⟨q,a,b,c,d,rfl,g hq,g ha,g hb,g hc,g hd,kp _ _ e1 (nl hq),kp _ _ e2 (nl ha),kp _ _ e3 (nl hb),kp _ _ e4 (nl hc),kp _ _ e5 (nl hd)⟩
theorem DX(f:List Nat->V)(c:V):∀ xs:Nms,List.zipWith eqV (xs.map f) (List.replicate xs.length c)=xs.map λx=>eqV (f x) c
 | []=>rfl
 | x::xs=>by
  rw[map_cons,length_cons,replicate_succ,List.zipWith_cons_cons,DX f c xs]
  rfl
theorem Ol:∀ {as bs:List V}{j:Nat}{a b:V},as[j]?=some a->bs[j]?=some b->(List.zipWith eqV as bs).getD j true=eqV a b
 | x::as,y::bs,0,a,b,c,d=>by
  cases c;cases d
  rfl
 | x::as,y::bs,j+1,a,b,c,d=>by
  rw[List.zipWith_cons_cons];exact Ol (as:=as) (bs:=bs) (j:=j) c d
 | [],_,_,_,_,c,_=>by simp at c
 | _::_,[],_,_,_,_,d=>by simp at d
def Fq{L R:List Prt}{x:List Nat}(h:isP L R x=true)(n:Nat):eqV (dh L R x) (.int (n:Nat))=!(cI L x != n):=by
 have h:(cL (L++R) x).isSome=true:=h;unfold dh;rw[if_pos h];show(((cI L x:Nat):Int) == ((n:Nat):Int))=!(cI L x != n);rw[Bool.eq_iff_iff,beq_iff_eq,Bool.not_eq_true',bne_eq_false_iff_eq];lia
def Hr(L R:List Prt)(zs:Nms):inV .non (zs.map (dh L R))=!(zs.all (isP L R)):=by
 induction zs with
 | nil=>rfl
 | cons z zs a =>
  have e:eqV (dh L R z) .non=!(isP L R z):=by
   unfold dh isP;by_cases h:(cL (L++R) z).isSome=true
   .rw[if_pos h,h]
    rfl
   .rw[if_neg h,Bool.eq_false_iff.mpr h]
    rfl
  rw[map_cons,all_cons];show(eqV (dh L R z) .non || inV .non (zs.map (dh L R)))=_;rw[e,a,Bool.not_and]
def qt(L R:List Prt)(zs:Nms):(zs.map (dh L R)).all eX=true:=by
 rw[all_eq_true];intro v a;obtain⟨z,_,rfl⟩:=mem_map.mp a;unfold dh;split <;> rfl
def oX{α:Type}(f:α->Bool)(xs:List α):(xs.map λx=>!f x).all id=!xs.any f:=by
 induction xs with
 | nil=>rfl
 | cons x xs a =>
  rw[map_cons,all_cons,any_cons,a,Bool.not_or]
  rfl
def Iw{L R:List Prt}{xs ys:Nms}(h:∀ x∈xs++ys,isP L R x=true):(List.zipWith eqV ((xs++ys).map (dh L R)) (List.replicate xs.length (V.int 0)++List.replicate ys.length (V.int 1))).all id=!(xs.any (cI L · != 0) || ys.any (cI L · != 1)):=by
 rw[map_append,List.zipWith_append (by rw[XF,length_replicate]),DX,DX,List.all_append,Bool.not_or];congr 1
 .rw[← oX];congr 1;exact List.map_congr_left λx a=>Fq (h x (Xx _ a)) 0
 .rw[← oX];congr 1;exact List.map_congr_left λx a=>Fq (h x (Xw _ a)) 1
def sE:Sp:=λb H Q _=>∃(S:List Addr)(M:Md)(L R:List Prt)(ks:List Lnk)(al:Nms)(pd p q:Addr)(t:Int)(xs ys:Nms),b=[.ref M.m,.ref pd]/\fH S H M L R ks al/\Liv S H/\H pd=some (.tup [.str (Str.ofString "link"),.int t,.ref p,.ref q])/\H p=some (.tup (xs.map mkT))/\H q=some (.tup (ys.map mkT))/\xs.length<=60/\ys.length<=60/\ks.length<=900 /\
 (∀ e,jo L R ks al xs ys=some e->∀ a,Same H a->Q (.str (wdE (some e))) a) /\
 (jo L R ks al xs ys=none->∀ a,Keep [M.lk] H a->fH S a M L R (ks++[(xs,ys,t,[],[])]) al->Q (.str (wdE none)) a)
def fO:aU ["_law_model_here","_law_deed_here","_law_word","_law_t","_law_ones","_law_others","_law_names_here","_law_sides_here","_law_name"] ["_law_model_here","_law_deed_here"] (aC oY):=⟨rfl,rfl,rfl,by decide +kernel,rfl,by decide +kernel,by decide +kernel⟩
def IW(h:Has K mg "_law_linked" oY ["_law_model_here","_law_deed_here"])(Vq:Cal P w K mg base "_law_side" 1 ["_law_model_here","_law_name"] yQ)(Vr:Cal P w K mg base "_law_link" 1 ["_law_model_here","_law_name"] yG)(Vd:mg "len" = none)(Vk:mg "list" = none):Cal P w K mg base "_law_linked" 2 ["_law_model_here","_law_deed_here"] sE:=by
 refine h.mk' fO (λvs H Q E hs=>?_) (λf de A outer s H vs Q E hr hs=>?_)
 .obtain⟨S,M,L,R,ks,al,pd,p,q,t,xs,ys,rfl,_⟩:=hs
  rfl
 obtain⟨S,M,L,R,ks,al,pd,p,q,t,xs,ys,rfl,hM,hS,hd,hp,hq,ab,ad,dc,k1,k2⟩:=hs;refine⟨_,(au (uY (pv 1) (lA (n:=4) rfl (bH (aK (i:=2) fO.nd rfl (Or.inl rfl)) (bH (aK (i:=3) fO.nd rfl (Or.inl rfl)) (bH (aK (i:=4) fO.nd rfl (Or.inl rfl)) (bH (aK (i:=5) fO.nd rfl (Or.inl rfl)) jC))))))
  (au (aL (i:=6) fO.nd rfl (Or.inl rfl) (bB gF (pv 4) (pv 5)))
  (au (pL (ix:=7) fO.nd rfl rfl ["_law_model_here","_law_deed_here","_law_word","_law_t","_law_ones","_law_others","_law_names_here","_law_sides_here","_law_name"] (aC oY) ["_law_model_here","_law_name"] [some 0,none] rfl rfl rfl (cJ (pv 6)) rfl (by decide +kernel) (by decide +kernel) (by decide +kernel) (by decide +kernel) (hg:=λcl C s H ex pn E=>(aK (i:=1) (by decide +kernel:(["_law_model_here","_law_name"]:List Str).Nodup) rfl (Or.inl rfl))) (ht:=λcl C s H ex pn E=>cu) (he:=λcl C s H ex pn E=>(aN Vq hr (by decide) rfl (aj (pv 0) (aj (pv 1) aq)))))
  (au (cB (aQ cC dF (pv 7) (by with_unfolding_all rfl))
   (aB (aW aF))
   bf)
  (au (cB (aQ (DK hr.units) (pv 7) (bB jw (bB J7 (bI (aj aA aq)) (aR cM rfl Vd PySem.boot_len (aj (pv 4) aq))) (bB J7 (bI (aj aA aq)) (aR cM rfl Vd PySem.boot_len (aj (pv 5) aq)))) (bC _))
   (aB (aW aF))
   bf)
  (au (dJ PassesOwn.never rfl (cJ (pv 6)) (aK (i:=8) fO.nd rfl (Or.inl rfl))
   (aB (cB (PW.pt (vM (aQ qX (aN Vr hr (by decide) rfl (aj (pv 0) (aj (pv 8) aq))) dF (bC _)) (nG (aQ cC (pv 8) (bx (bZ hr) (pv 0) aF (λ_ _=>rfl)) (by with_unfolding_all rfl)))))
   (aB (aW aF))
   bf)))
  (au (cN (dY PySem.F.plainAttrs_list PySem.F.slot_list_append PySem.F.type_list_append bJ (bx (bZ hr) (pv 0) aF (λ_ _=>rfl)) (aj (bI (aj (aP cO rfl Vk boot_list (aj (pv 4) aq)) (aj (aP cO rfl Vk boot_list (aj (pv 5) aq)) (aj (pv 3) (aj (bI aq) (aj (bI aq) aq)))))) aq)))
  (aB (aW aF))))))))),?_⟩
 refine⟨_,rfl,pd,_,rfl,SqT.of hd,rfl,_,_,rfl,_,_,rfl,_,_,rfl,_,_,rfl,rfl,?_⟩;refine⟨_,rfl,_,rfl,p,q,_,_,rfl,rfl,hp,hq,small (by rw[XF,XF];lia),λr H1 s1 e1=>?_⟩;rw[← map_append] at e1;have c1:(xs++ys).length<=120:=by rw[Xr];lia
 refine⟨_,rfl,r,rfl,⟨_,SqT.of e1⟩,λlc av=>?_⟩;refine cA (J:=Itt K0 r) (l:=lc) (xs++ys).length (λi σ' H'=>∃ v:Option V,σ'=[some (.ref M.m),v]/\Same H1 H'/\H' lc=some (.lst (((xs++ys).take i).map (dh L R)))) ⟨none,rfl,ao av _,ak⟩ ?_ ?_
 rotate_left
 .rintro i σ' H' hi ⟨v,rfl,Y,e2⟩;have I:((xs++ys).map mkT)[i]?=some (mkT (xs++ys)[i]):=by rw[XC,bK hi];rfl
  refine⟨⟨_,_,SqT.of (Y _ _ e1),I⟩,?_⟩;rintro N hN y c2 ⟨rfl,hy⟩;have ey:y=mkT (xs++ys)[i]:=Xn ((hy _ (SqT.of (Y _ _ e1))).symm.trans I);have O:=take_one (bK hi);generalize (xs++ys)[i]=x at ey O;subst ey;refine gN (uH (lQ ⟨_,rfl,_,rfl,S,M,L,R,ks,al,x,rfl,hM.same (s1.trans Y),λH3 s3=>?_⟩));refine⟨_,s3 _ _ e2,aH (by rw[XF,length_take];lia),hN _ _ ⟨_,rfl,bO (Y.trans s3) av,?_⟩⟩;rw[ak,O,map_append]
  rfl
 rintro σ' H2 ⟨v,rfl,Y,e2⟩;rw[take_length] at e2;refine⟨⟨_,SqT.of (Y _ _ e1),by rw[XF];exact ql _⟩,?_⟩;refine gN ⟨_,rfl,lc,_,rfl,.inl (SqL.of e2),rfl,qt L R _,_,rfl,?_⟩;rw[show(if false=true then !inV .non ((xs++ys).map (dh L R)) else inV .non ((xs++ys).map (dh L R)))=inV .non ((xs++ys).map (dh L R)) from rfl,Hr];have ac:=s1.trans Y;tm_at"d"
 .have z:¬ (xs++ys).all (isP L R)=true:=λh=>by rw[h] at z;cases z
  exact k1 0 (by unfold jo;rw[if_neg z]) H2 ac
 have W:(xs++ys).all (isP L R)=true:=by simpa using z
 have Z:∀ x∈xs++ys,isP L R x=true:=all_eq_true.mp W;have rl:∀(zs:Nms)(c:V),(List.replicate (((zs.map mkT).length:Nat):Int).toNat [c]).flatten=List.replicate zs.length c:=λzs c=>by
  rw[List.flatten_replicate_singleton,XF,Int.toNat_natCast]
 have bd:∀(zs:Nms),zs.length<=60->-(2^63)<=(((zs.map mkT).length:Nat):Int)/\(((zs.map mkT).length:Nat):Int)<2^63/\1*(((zs.map mkT).length:Nat):Int).toNat<=sizeLine:=λzs h=>by
  rw[XF,Int.toNat_natCast];exact⟨by lia,by lia,lu (by lia)⟩
 refine⟨_,rfl,smn 1,λl1 h1=>?_⟩;have t1:=ao h1 (.lst [.int 0]);have f1:(upd H2 l1 (.lst [.int 0])) l1=some (.lst [.int 0]):=ak;generalize upd H2 l1 (.lst [.int 0])=H3 at t1 f1 ⊢;have aE:=ac.trans t1;refine⟨_,rfl,p,_,rfl,.inr (SqT.of (aE _ _ hp)),l1,_,_,rfl,rfl,f1,(bd xs ab).1,(bd xs ab).2.1,(bd xs ab).2.2,λl2 h2=>?_⟩;rw[rl];have t2:=ao h2 (.lst (List.replicate xs.length (V.int 0)));have f2:(upd H3 l2 (.lst (List.replicate xs.length (V.int 0)))) l2=some (.lst (List.replicate xs.length (V.int 0))):=ak;generalize upd H3 l2 (.lst (List.replicate xs.length (V.int 0)))=H4 at t2 f2 ⊢;refine⟨smn 1,λl3 h3=>?_⟩;have t3:=ao h3 (.lst [.int 1]);have f3:(upd H4 l3 (.lst [.int 1])) l3=some (.lst [.int 1]):=ak;generalize upd H4 l3 (.lst [.int 1])=H5 at t3 f3 ⊢;have bX:=(aE.trans t2).trans t3;refine⟨_,rfl,q,_,rfl,.inr (SqT.of (bX _ _ hq)),l3,_,_,rfl,rfl,f3,(bd ys ad).1,(bd ys ad).2.1,(bd ys ad).2.2,λl4 h4=>?_⟩;rw[rl];have t4:=ao h4 (.lst (List.replicate ys.length (V.int 1)));have f4:(upd H5 l4 (.lst (List.replicate ys.length (V.int 1)))) l4=some (.lst (List.replicate ys.length (V.int 1))):=ak;generalize upd H5 l4 (.lst (List.replicate ys.length (V.int 1)))=H6 at t4 f4 ⊢;refine⟨l2,l4,_,_,rfl,rfl,t4 _ _ (t3 _ _ f2),f4,small (by rw[length_replicate,length_replicate];lia),λl5 h5=>?_⟩;have t5:=ao h5 (.lst (List.replicate xs.length (V.int 0)++List.replicate ys.length (V.int 1)));have f5:(upd H6 l5 (.lst (List.replicate xs.length (V.int 0)++List.replicate ys.length (V.int 1)))) l5=some (.lst (List.replicate xs.length (V.int 0)++List.replicate ys.length (V.int 1))):=ak;generalize upd H6 l5 (.lst (List.replicate xs.length (V.int 0)++List.replicate ys.length (V.int 1)))=H7 at t5 f5 ⊢;have ag:=(((t1.trans t2).trans t3).trans t4).trans t5;have B:=ac.trans ag;have a2:((xs++ys).map (dh L R)).length=(List.replicate xs.length (V.int 0)++List.replicate ys.length (V.int 1)).length:=by
  rw[XF,Xr,Xr,length_replicate,length_replicate]
 refine⟨lc,l5,_,_,List.zipWith eqV ((xs++ys).map (dh L R)) (List.replicate xs.length (V.int 0)++List.replicate ys.length (V.int 1)),rfl,rfl,ag _ _ e2,f5,λ_=>⟨by rw[List.length_zipWith,← a2,Nat.min_self],λj u v hu hv=>.inl ⟨?_,?_,Ol hu hv⟩⟩,_,rfl,?_⟩
 .exact all_eq_true.mp (qt L R (xs++ys)) u (Xu hu)
 .have:=Xu hv;rcases mem_append.mp this with h | h
  .rw[(mem_replicate.mp h).2];rfl
  .rw[(mem_replicate.mp h).2];rfl
 rw[XD a2,Bool.true_and,Iw Z,Bool.not_not];have hE:jo L R ks al xs ys=if xs.any (cI L · != 0) || ys.any (cI L · != 1) then some 1 else if (xs++ys).all (gj ks al) then none else some 3:=by
  unfold jo;rw[if_pos W]
 tm_at"d"
 .exact k1 1 (by rw[hE,if_pos z]) H7 B
 rw[if_neg z] at hE;have er:=ag _ _ (Y _ _ e1);have g:=hM.same B;refine⟨_,rfl,r,rfl,⟨_,SqT.of er⟩,?_⟩;refine iQ (K:=K0) (a:=r) (xs:=(xs++ys).map mkT) (λi σ D=>∃ v8:Option V,σ=[some (.ref M.m),some (.ref pd),some (.str (Str.ofString "link")),some (.int t),some (.ref p),some (.ref q),some (.ref r),some (.ref lc),v8]/\D=H7/\∀ x∈(xs++ys).take i,gj ks al x=true) ⟨_,rfl,rfl,λx hx=>by rw[take_zero] at hx;cases hx⟩ ?_ ?_ ?_
 .rintro i σ D _ ⟨_,_,rfl,_⟩;exact SqT.of er
 .rintro i y σ D hi ⟨v8,rfl,rfl,T⟩;have af:i<(xs++ys).length:=by
   have:=(pN.mp hi).1
   rwa [XF] at this
  rw[XC,bK af] at hi;have ey:y=mkT (xs++ys)[i]:=(Xn hi).symm;have O:=take_one (bK af);have X:(xs++ys)[i]∈xs++ys:=getElem_mem af;generalize (xs++ys)[i]=x at ey O X;subst ey;have ay:gj ks al x=false->Q (.str (wdE (some 3))) D:=λhf=>k1 3 (by
   rw[hE,if_neg];intro h;have:=all_eq_true.mp h x X;rw[hf] at this;cases this) D B
  refine gN ⟨_,rfl,_,rfl,S,M,L,R,ks,al,x,rfl,g,λu hu=>⟨rfl,_,rfl,?_⟩⟩;tm_at"d"
  .have z:u≠.non:=by simpa using z
   rcases hu with⟨e,_⟩ | ⟨j,us,k,_,_,hk,bc,_⟩
   .exact absurd e z
   .refine ay ?_;unfold gj;rw[show ks.all (λk=>!fK x k)=false from List.all_eq_false.mpr ⟨k,Xu hk,by rw[bc];decide⟩,Bool.false_and]
  have z:u=.non:=by simpa using z
  have bu:ks.all (λk=>!fK x k)=true:=by
   rcases hu with⟨_,h⟩ | ⟨j,us,k,h1,h2,h3,_,_⟩
   .exact all_eq_true.mpr λk hk=>by rw[h k hk];rfl
   .obtain⟨cE,e',_,_,I⟩:=g.lk.ex;rw[h1] at e';cases e';obtain⟨_,_,_,_,_,ev,_⟩:=(I j u k h2 h3).ex;rw[z] at ev;cases ev
  refine⟨_,rfl,_,rfl,M.m,_,rfl,kJ g.m,M.la,_,rfl,.inl (SqL.of g.la),rfl,cR _,_,rfl,?_⟩;rw[show(if false=true then !inV (mkT x) (al.map mkT) else inV (mkT x) (al.map mkT))=inV (mkT x) (al.map mkT) from rfl,gM];refine dO (λz2=>?_) (λz2=>?_)
  .exact ay (by unfold gj;rw[z2,Bool.not_true,Bool.and_false])
  .refine⟨_,rfl,rfl,λx' as=>?_⟩;rw[O] at as;rcases mem_append.mp as with h | h
   .exact T x' h
   .rw[mem_singleton.mp h];unfold gj;rw[bu,Bool.eq_false_iff.mpr z2]
    rfl
 rintro σ D ⟨v8,rfl,rfl,T⟩;rw[XF,take_length] at T;rw[if_pos (all_eq_true.mpr T)] at hE;obtain⟨us,ae,cK,b9,I⟩:=g.lk.ex;refine⟨_,rfl,M.m,_,rfl,rm g.m,.inl ⟨rfl,_,SqL.of ae⟩,?_⟩;refine⟨_,rfl,p,_,rfl,.inr (SqT.of (B _ _ hp)),λa ha=>?_⟩;have g1:=ao ha (.lst (xs.map mkT));have i1:(upd D a (.lst (xs.map mkT))) a=some (.lst (xs.map mkT)):=ak;generalize upd D a (.lst (xs.map mkT))=G1 at g1 i1 ⊢;refine⟨_,rfl,q,_,rfl,.inr (SqT.of (g1 _ _ (B _ _ hq))),λb hb=>?_⟩;have g2:=ao hb (.lst (ys.map mkT));have i2:(upd G1 b (.lst (ys.map mkT))) b=some (.lst (ys.map mkT)):=ak;generalize upd G1 b (.lst (ys.map mkT))=G2 at g2 i2 ⊢;refine⟨_,rfl,smn 0,λc hc=>?_⟩;have g3:=ao hc (.lst []);have i3:(upd G2 c (.lst [])) c=some (.lst []):=ak;generalize upd G2 c (.lst [])=G3 at g3 i3 ⊢;refine⟨smn 0,λd az=>?_⟩;have g4:=ao az (.lst []);have i4:(upd G3 d (.lst [])) d=some (.lst []):=ak;generalize upd G3 d (.lst [])=G4 at g4 i4 ⊢;refine⟨smn 5,λo ho=>?_⟩;have g5:=ao ho (.lst [.ref a,.ref b,.int t,.ref c,.ref d]);have i5:(upd G4 o (.lst [.ref a,.ref b,.int t,.ref c,.ref d])) o=some (.lst [.ref a,.ref b,.int t,.ref c,.ref d]):=ak;generalize upd G4 o (.lst [.ref a,.ref b,.int t,.ref c,.ref d])=G5 at g5 i5 ⊢;have fr:∀ {G:Hp}{z:Addr},Same D G->G z=none->D z=none:=fun {G z} sg hz=>by
  cases hh:D z with
  | none=>rfl
  | some u=>rw[sg _ _ hh] at hz;cases hz
 have ap:=g1.trans g2;have aT:=ap.trans g3;have aI:=aT.trans g4;have U:=aI.trans g5;refine⟨M.lk,us,.ref o,rfl,rfl,U _ _ ae,aH (by lia),?_⟩;have bm:=g.more (λz hz=>by obtain⟨u,hu⟩:=hS z hz;exact⟨u,B _ _ hu⟩) U (U _ _ ae) (k:=(xs,ys,t,[],[])) (fr aI ho) ha (fr g1 hb) (fr ap hc) (fr aT az) i5 (g5 _ _ (g4 _ _ (g3 _ _ (g2 _ _ i1)))) (g5 _ _ (g4 _ _ (g3 _ _ i2))) (g5 _ _ (g4 _ _ i3)) (g5 _ _ i4);refine k2 hE _ (λz u hz hn=>?_) bm;rw[aG (λe=>hn (by rw[e];exact .head _))];exact U _ _ (B _ _ hz)
inductive Sd
 | loose
 | step
 | alone
 | lack
def Sd.wd:Sd->Str
 | .loose=>Str.ofString "loose"
 | .step=>Str.ofString "step"
 | .alone=>Str.ofString "alone"
 | .lack=>Str.ofString "lack"
def vI(L R:List Prt)(ks:List Lnk)(al:Nms)(x:List Nat):Sd->Option Nat
 | .loose=>if isP L R x then (if ks.all (λk=>!fK x k) then some 4 else none) else some 0
 | .step=>if isP L R x then (if ks.all (λk=>!fK x k) then some 4 else none) else some 0
 | .alone=>if isP L R x then (if gj ks al x then none else some 3) else some 0
 | .lack=>if isP L R x then (if x∈al then none else some 4) else some 0
def Eu(M:Md)(H H':Hp):Prop:=∀ a o,H a=some o->a ∉ M.all->(∀ e b t c d,o≠.lst [.ref e,.ref b,.int t,.ref c,.ref d])->H' a=some o
def StA(ks:List Lnk)(al:Nms)(x:List Nat)(t:Int)(ks':List Lnk)(a:Nms):Sd->Prop
 | .loose=>a=al/\∀(i:Nat)(k:Lnk),ks[i]?=some k->fK x k=true->(∀ j∈ks.take i,fK x j=false)->ks'=ks.filter λj=>decide (j≠k)
 | .step=>a=al/\∀(i:Nat)(k:Lnk),ks[i]?=some k->fK x k=true->(∀ j∈ks.take i,fK x j=false)->ks'=ks.set i (k.1,k.2.1,t,[],[])
 | .alone=>ks'=ks/\a=al++[x]
 | .lack=>ks'=ks/\∃ j:Nat,al[j]?=some x/\(∀ i,i<j->al[i]?≠some x)/\a=al.eraseIdx j
def wJ:Sp:=λf H Q _=>∃(S:List Addr)(M:Md)(L R:List Prt)(ks:List Lnk)(al:Nms)(pd:Addr)(t:Int)(x:List Nat)(d:Sd),f=[.ref M.m,.ref pd]/\fH S H M L R ks al/\Liv S H/\H pd=some (.tup [.str d.wd,.int t,mkT x])/\ks.length<=900/\al.length<=900 /\
 (∀ e,vI L R ks al x d=some e->∀ a,Same H a->Q (.str (wdE (some e))) a) /\
 (vI L R ks al x d=none->∀(a:Hp)(M':Md)(ks':List Lnk)(c:Nms),M'.m=M.m/\M'.b=M.b->Eu M H a->fH S a M' L R ks' c->StA ks al x t ks' c d->Q (.str (wdE none)) a)
def fH.aloneTo{S:List Addr}{H H1:Hp}{M:Md}{L R:List Prt}{ks:List Lnk}{al:Nms}(h:fH S H M L R ks al)(s:Same H H1)(b:Nms):fH S (upd H1 M.la (.lst (b.map mkT))) M L R ks b:=by
 have a:=h.same s;have kp:Keep [M.la] H1 (upd H1 M.la (.lst (b.map mkT))):=λz o i hz=>by
  rw[aG (λe=>hz (by rw[e];exact .head _))];exact i
 have nd:=h.nd;simp only[Md.all,nodup_cons,mem_cons,not_mem_nil,or_false,not_or] at nd;have f:∀ z∈[M.la],z∈M.all++M.W++S:=λz hz=>Xx _ (Xx _ (by rw[mem_singleton.mp hz];simp[Md.all]))
 obtain⟨k,j,g,c⟩:=a.t.ex;have ne:∀ {z:Addr},z≠M.la->z ∉ [M.la]:=λhz d=>hz (mem_singleton.mp d)
 exact⟨kp _ _ a.m (ne (by intro e;simp[e] at nd)),⟨k,kp _ _ j (ne (by intro e;simp[e] at nd)),g,c⟩,a.w.keep kp (λz hz d=>(h.wo z hz).2 (by rw[mem_singleton.mp d];simp[Md.all])) (ne (by intro e;simp[e] at nd)),kp _ _ a.lr (ne (by intro e;simp[e] at nd)),kp _ _ a.l0 (ne (by intro e;simp[e] at nd)),kp _ _ a.l1 (ne (by intro e;simp[e] at nd)),a.lk.keep kp f (ne (by intro e;simp[e] at nd)),ak,h.off,h.nd,h.wo,h.wn⟩
def yp{M:Md}{H H1:Hp}(s:Same H H1)(o:HO):Eu M H (upd H1 M.la o):=λa u c b _=>by
 rw[aG (λe=>b (by rw[e];simp[Md.all]))];exact s _ _ c
def vq{a:Addr}{vs:List V}{xs:Nms}(h:HO.lst (.ref a::vs)=HO.lst (xs.map mkT)):False:=by
 injection h with h;cases xs with
 | nil=>cases h
 | cons x xs=>rw[map_cons] at h;injection h with h _;cases h
def zp{a:Addr}{vs:List V}{xs:List Int}(h:HO.lst (.ref a::vs)=HO.lst (xs.map V.int)):False:=by
 injection h with h;cases xs with
 | nil=>cases h
 | cons x xs=>rw[map_cons] at h;injection h with h _;cases h
def fH.stepped{S:List Addr}{H H1:Hp}{M:Md}{L R:List Prt}{ks:List Lnk}{al:Nms}(h:fH S H M L R ks al)(hS:Liv S H)(s:Same H H1){us:List V}{i:Nat}{q a b c0 d0:Addr}{k:Lnk}{t:Int}{c d:Addr}(hus:H M.lk=some (.lst us))(hi:us[i]?=some (.ref q))(hk:ks[i]?=some k)
  (eq:H q=some (.lst [.ref a,.ref b,.int k.2.2.1,.ref c0,.ref d0]))(E:q ∉ M.all++M.W++S)(na:a ∉ M.all++M.W++S)(nb:b ∉ M.all++M.W++S)(ea:H a=some (.lst (k.1.map mkT)))(eb:H b=some (.lst (k.2.1.map mkT)))(hc:H c=none)(hd:H d=none)(ec:H1 c=some (.lst []))(ed:H1 d=some (.lst [])) :
  fH S (upd H1 q (.lst [.ref a,.ref b,.int t,.ref c,.ref d])) M L R (ks.set i (k.1,k.2.1,t,[],[])) al:=by
 have v:∀ {z:Addr},H z=none->z ∉ M.all++M.W++S:=fun {z} hz g=>by
  rcases mem_append.mp g with g | g
  .obtain⟨o,p⟩:=h.live z g;rw[hz] at p;cases p
  .obtain⟨o,p⟩:=hS z g;rw[hz] at p;cases p
 have f:=h.same s;have kp:Keep [q] H1 (upd H1 q (.lst [.ref a,.ref b,.int t,.ref c,.ref d])):=λz o p hz=>by
  rw[aG (λe=>hz (by rw[e];exact .head _))];exact p
 have ne:∀ {z:Addr},z∈M.all->z ∉ [q]:=λhz g=>E (Xx _ (Xx _ (by rw[← mem_singleton.mp g];exact hz)))
 obtain⟨Y,O,A,n,D⟩:=f.lk.ex;rw[s _ _ hus] at O;cases O;have x:=s _ _ eq;have nm:∀ {z:Addr}{xs:Nms},H1 z=some (.lst (xs.map mkT))->z ∉ [q]:=λhz g=>by
  rw[mem_singleton.mp g,x] at hz;exact vq (Xn hz)
 have T:∀ {z:Addr}{xs:List Int},H1 z=some (.lst (xs.map V.int))->z ∉ [q]:=λhz g=>by
  rw[mem_singleton.mp g,x] at hz;exact zp (Xn hz)
 have K:∀ {z:Addr},H z=none->z ∉ [q]:=λhz g=>by
  rw[mem_singleton.mp g,eq] at hz;cases hz
 obtain⟨kt,Z,B,C⟩:=f.t.ex;refine⟨kp _ _ f.m (ne (by simp[Md.all])),⟨kt,kp _ _ Z (ne (by simp[Md.all])),B,C⟩,f.w.keep kp (λz hz g=>E (Xx _ (Xw _ (by rw[← mem_singleton.mp g];exact hz)))) (ne (by simp[Md.all])),kp _ _ f.lr (ne (by simp[Md.all])),kp _ _ f.l0 (ne (by simp[Md.all])),kp _ _ f.l1 (ne (by simp[Md.all])),⟨us,kp _ _ (s _ _ hus) (ne (by simp[Md.all])),by rw[List.length_set,A],n,λj u k' r l=>?_⟩,kp _ _ f.la (ne (by simp[Md.all])),h.off,h.nd,h.wo,h.wn⟩;have G:i<ks.length:=(pN.mp hk).1;by_cases e:i=j
 .subst e;rw[hi] at r;cases r;rw[getElem?_set_self G] at l;cases l;exact⟨q,a,b,c,d,rfl,E,na,nb,v hc,v hd,ak,kp _ _ (s _ _ ea) (nm (s _ _ ea)),kp _ _ (s _ _ eb) (nm (s _ _ eb)),kp _ _ ec (K hc),kp _ _ ed (K hd)⟩
 .rw[getElem?_set_ne e] at l;obtain⟨Q,a',b',X,d',N,n1,n2,n3,n4,n5,f1,I,P,J,U⟩:=(D j u k' r l).ex;have F:Q ∉ [q]:=λg=>by
   have e1:u=.ref q:=by rw[N,mem_singleton.mp g]
   rw[e1] at r;have y:i<us.length:=(pN.mp hi).1;exact e ((List.getElem?_inj y n).mp (hi.trans r.symm))
  exact⟨Q,a',b',X,d',N,n1,n2,n3,n4,n5,kp _ _ f1 F,kp _ _ I (nm I),kp _ _ P (nm P),kp _ _ J (T J),kp _ _ U (T U)⟩
theorem qN:∀ xs ys:Nms,vK (xs.map mkT) (ys.map mkT)=decide (xs=ys)
 | [],[]=>rfl
 | [],_::_=>rfl
 | _::_,[]=>rfl
 | x::xs,y::ys=>by
  show(eqV (mkT x) (mkT y) && vK (xs.map mkT) (ys.map mkT))=_;rw[qN xs ys,Bool.eq_iff_iff,Bool.and_eq_true,decide_eq_true_eq,decide_eq_true_eq,List.cons.injEq];refine and_congr_left λ_=>?_
  show((⟨x.toArray⟩:Str) == ⟨y.toArray⟩)=true↔_;rw[beq_iff_eq];exact⟨str_inj,λe=>by rw[e]⟩
theorem uX:∀ xs ys:List Int,vK (xs.map V.int) (ys.map V.int)=decide (xs=ys)
 | [],[]=>rfl
 | [],_::_=>rfl
 | _::_,[]=>rfl
 | x::xs,y::ys=>by
  show((x == y) && vK (xs.map V.int) (ys.map V.int))=_;rw[uX xs ys,Bool.eq_iff_iff,Bool.and_eq_true,decide_eq_true_eq,decide_eq_true_eq,List.cons.injEq,beq_iff_eq]
def O7(j k:Lnk):List Bool:=[vK (j.1.map mkT) (k.1.map mkT),vK (j.2.1.map mkT) (k.2.1.map mkT),eqV (.int j.2.2.1) (.int k.2.2.1),vK (j.2.2.2.1.map V.int) (k.2.2.2.1.map V.int),vK (j.2.2.2.2.map V.int) (k.2.2.2.2.map V.int)]
def Hg(j k:Lnk):(O7 j k).all id=decide (j=k):=by
 obtain⟨a,b,t,c,d⟩:=j;obtain⟨g,e,t',f,d'⟩:=k;unfold O7;simp only[qN,uX,all_cons,List.all_nil,id,Bool.and_true];rw[Bool.eq_iff_iff];simp only[Bool.and_eq_true,decide_eq_true_eq,Prod.mk.injEq];show a=g/\b=e/\(t == t')=true/\c=f/\d=d'↔_;simp only[beq_iff_eq]
def mU(xs:Nms):∀ v∈xs.map mkT,eX v=true:=all_eq_true.mp (cR xs)
def mO(xs:List Int):∀ v∈xs.map V.int,eX v=true:=λv a=>by
 obtain⟨x,_,rfl⟩:=mem_map.mp a
 rfl
def Nr{T:List Addr}{H:Hp}{q q':Addr}{j k:Lnk}(hj:Bl T H (.ref q') j)(hk:Bl T H (.ref q) k):∃ xs ys:List V,H q'=some (.lst xs)/\H q=some (.lst ys)/\xs.length=ys.length/\(O7 j k).length=xs.length/\∀(i:Nat)(u v:V),xs[i]?=some u->ys[i]?=some v->ItE H u v ((O7 j k).getD i true):=by
 obtain⟨A,a,b,c,d,e,_,_,_,_,_,h,s,o,y,x⟩:=hj.ex;cases e;obtain⟨B,p,z,m,d',e,_,_,_,_,_,t,l,r,w,n⟩:=hk.ex;cases e;refine⟨_,_,h,t,rfl,rfl,λi u v f g=>?_⟩
 match i,f,g with
 | 0,f,g=>cases f;cases g;exact .inr ⟨a,p,_,_,rfl,rfl,s,l,mU _,mU _,rfl⟩
 | 1,f,g=>cases f;cases g;exact .inr ⟨b,z,_,_,rfl,rfl,o,r,mU _,mU _,rfl⟩
 | 2,f,g=>cases f;cases g;exact .inl ⟨rfl,rfl,rfl⟩
 | 3,f,g=>cases f;cases g;exact .inr ⟨c,m,_,_,rfl,rfl,y,w,mO _,mO _,rfl⟩
 | 4,f,g=>cases f;cases g;exact .inr ⟨d,d',_,_,rfl,rfl,x,n,mO _,mO _,rfl⟩
 | i+5,f,_=>simp at f
def fH.relink{S:List Addr}{H H1:Hp}{M:Md}{L R:List Prt}{ks ks':List Lnk}{al:Nms}(h:fH S H M L R ks al)(hS:Liv S H)(s:Same H H1){lc:Addr}{us':List V}(r:H lc=none)(e:H1 lc=some (.lst us'))(hl:us'.length=ks'.length)(hnd:us'.Nodup)(hat:∀(i:Nat)(u:V)(k:Lnk),us'[i]?=some u->ks'[i]?=some k->Bl (M.all++M.W++S) H u k) :
  fH S (upd H1 M.m (.dK (putK (mdK M) (Sum.inr "links" : Key) (.ref lc)))) { M with lk:=lc } L R ks' al:=by
 have g:=h.same s;have v:lc ∉ M.all++M.W++S:=λf=>by
  rcases mem_append.mp f with f | f
  .obtain⟨o,p⟩:=h.live _ f;rw[r] at p;cases p
  .obtain⟨o,p⟩:=hS _ f;rw[r] at p;cases p
 have nl:∀ z∈M.all,z≠lc:=λz hz e=>v (Xx _ (Xx _ (e ▸ hz)))
 have kp:Keep [M.m] H1 (upd H1 M.m (.dK (putK (mdK M) (Sum.inr "links" : Key) (.ref lc)))):=λz o p hz=>by
  rw[aG (λe=>hz (by rw[e];exact .head _))];exact p
 have nd:=h.nd;have l:∀ z∈Md.all { M with lk:=lc },z∈M.all\/z=lc:=λz hz=>by
  simp only[Md.all,mem_cons,not_mem_nil,or_false] at hz ⊢;rcases hz with rfl | rfl | rfl | rfl | rfl | rfl | rfl | rfl <;> simp
 have x:(Md.all { M with lk:=lc }).Nodup:=by
  have C:=nl M.m (by simp[Md.all]);have A:=nl M.dt (by simp[Md.all]);have y:=nl M.dw (by simp[Md.all]);have D:=nl M.lr (by simp[Md.all]);have B:=nl M.l0 (by simp[Md.all]);have Y:=nl M.l1 (by simp[Md.all]);have T:=nl M.la (by simp[Md.all]);simp only[Md.all,nodup_cons,mem_cons,not_mem_nil,or_false,not_or] at nd ⊢;exact⟨⟨nd.1.1,nd.1.2.1,nd.1.2.2.1,nd.1.2.2.2.1,nd.1.2.2.2.2.1,C,nd.1.2.2.2.2.2.2⟩,⟨nd.2.1.1,nd.2.1.2.1,nd.2.1.2.2.1,nd.2.1.2.2.2.1,A,nd.2.1.2.2.2.2.2⟩,⟨nd.2.2.1.1,nd.2.2.1.2.1,nd.2.2.1.2.2.1,y,nd.2.2.1.2.2.2.2⟩,⟨nd.2.2.2.1.1,nd.2.2.2.1.2.1,D,nd.2.2.2.1.2.2.2⟩,⟨nd.2.2.2.2.1.1,B,nd.2.2.2.2.1.2.2⟩,⟨Y,nd.2.2.2.2.2.1.2⟩,λe=>T e.symm,nd.2.2.2.2.2.2.2⟩
 simp only[Md.all,nodup_cons,mem_cons,not_mem_nil,or_false,not_or] at nd;have ne:∀ {z:Addr},z≠M.m->z ∉ [M.m]:=λhz f=>hz (mem_singleton.mp f)
 obtain⟨kt,X,G,E⟩:=g.t.ex;have I:putK (mdK M) (Sum.inr "links" : Key) (.ref lc)=mdK { M with lk:=lc }:=by
  unfold putK mdK;rw[if_pos (by simp)];simp only[map_cons,map_nil];rw[if_neg mk3,if_neg mk6,if_neg mk8,if_pos trivial,if_neg (Ne.symm mk0)]
 have F:lc≠M.m:=λe=>nl M.m (by simp[Md.all]) e.symm
 refine⟨by rw[← I];exact ak,⟨kt,kp _ _ X (ne (λe=>nd.1.1 e.symm)),G,E⟩,g.w.keep kp (λz hz f=>(h.wo z hz).2 (by rw[mem_singleton.mp f];simp[Md.all])) (ne (λe=>nd.1.2.1 e.symm)),kp _ _ g.lr (ne (λe=>nd.1.2.2.1 e.symm)),kp _ _ g.l0 (ne (λe=>nd.1.2.2.2.1 e.symm)),kp _ _ g.l1 (ne (λe=>nd.1.2.2.2.2.1 e.symm)),⟨us',kp _ _ e (ne F),hl,hnd,λi u k Q U=>?_⟩,kp _ _ g.la (ne (λe=>nd.1.2.2.2.2.2.2 e.symm)),λz hz=>?_,x,λz hz=>⟨(h.wo z hz).1,λf=>?_⟩,h.wn⟩
 .obtain⟨q,a,b,c,d,Z,C,A,y,D,B,N,J,O,K,P⟩:=(hat i u k Q U).ex;have n:∀ {z:Addr}{o:HO},z ∉ M.all++M.W++S->H z=some o->z ∉ Md.all { M with lk:=lc }++M.W++S:=fun {z o} hz p f=>by
   rcases mem_append.mp f with f | f
   .rcases mem_append.mp f with f | f
    .rcases l z f with j | j
     .exact hz (Xx _ (Xx _ j))
     .rw[j,r] at p;cases p
    .exact hz (Xx _ (Xw _ f))
   .exact hz (Xw _ f)
  have nm:∀ {z:Addr},z ∉ M.all++M.W++S->z ∉ [M.m]:=λhz f=>hz (Xx _ (Xx _ (by rw[mem_singleton.mp f];simp[Md.all])))
  exact⟨q,a,b,c,d,Z,n C N,n A J,n y O,n D K,n B P,kp _ _ (s _ _ N) (nm C),kp _ _ (s _ _ J) (nm A),kp _ _ (s _ _ O) (nm y),kp _ _ (s _ _ K) (nm D),kp _ _ (s _ _ P) (nm B)⟩
 .rcases l z hz with j | j
  .exact h.off z j
  .rw[j];exact λf=>v (Xw _ f)
 .rcases l z f with j | j
  .exact(h.wo z hz).2 j
  .exact v (Xx _ (Xw _ (j ▸ hz)))
theorem yR{α:Type}[DecidableEq α]{x:α}:∀ {xs:List α},x∈xs->∃ j:Nat,xs[j]?=some x/\∀ i,i<j->xs[i]?≠some x
 | y::ys,h=>by
  by_cases e:y=x
  .exact⟨0,by rw[e];rfl,λi a=>absurd a (Nat.not_lt_zero i)⟩
  .obtain⟨j,b,c⟩:=yR (xs:=ys) ((mem_cons.mp h).resolve_left λz=>e z.symm);refine⟨j+1,b,λi a=>?_⟩
   match i,a with
   | 0,_=>exact λz=>e (Xn z)
   | i+1,a=>exact c i (by lia)
theorem nO{α β:Type}(f:α->β):∀(xs:List α)(j:Nat),(xs.map f).eraseIdx j=(xs.eraseIdx j).map f
 | [],_=>rfl
 | _::_,0=>rfl
 | x::xs,j+1=>by
  show f x::(xs.map f).eraseIdx j=f x::(xs.eraseIdx j).map f;rw[nO f xs j]
def jl{b:Bool}{A B:Prop}(h:b=false)(k:B):if b=true then A else B:=by
 rw[h,if_neg (by decide)];exact k
theorem PB{b:Bool}{A B:Prop}(h:b=true)(k:A):if b=true then A else B:=by
 rw[h,if_pos rfl];exact k
def fP{a b:Str}(h:a≠b):decide (V.str a=V.str b)=false:=Xp λe=>h (by injection e)
def lF:aU ["_law_model_here","_law_deed_here","_law_word","_law_t","_law_name","_law_link_here","_law_alone"] ["_law_model_here","_law_deed_here"] (aC tV):=⟨rfl,rfl,rfl,by decide +kernel,rfl,by decide +kernel,by decide +kernel⟩
def KJ(h:Has K mg "_law_stand" tV ["_law_model_here","_law_deed_here"])(Vr:Cal P w K mg base "_law_link" 1 ["_law_model_here","_law_name"] yG)(Vq:Cal P w K mg base "_law_side" 1 ["_law_model_here","_law_name"] yQ):Cal P w K mg base "_law_stand" 2 ["_law_model_here","_law_deed_here"] wJ:=by
 refine h.mk' lF (λvs H Q E hs=>?_) (λf cE A outer s H vs Q E hr hs=>?_)
 .obtain⟨S,M,L,R,ks,al,pd,t,x,d,rfl,_⟩:=hs
  rfl
 obtain⟨S,M,L,R,ks,al,pd,t,x,d,rfl,hM,hS,hd,cy,cm,k1,k2⟩:=hs;refine⟨_,(au (uY (pv 1) (lA (n:=3) rfl (bH (aK (i:=2) lF.nd rfl (Or.inl rfl)) (bH (aK (i:=3) lF.nd rfl (Or.inl rfl)) (bH (aK (i:=4) lF.nd rfl (Or.inl rfl)) jC)))))
  (au (aL (i:=5) lF.nd rfl (Or.inr rfl) (aN Vr hr (by decide) rfl (aj (pv 0) (aj (pv 4) aq))))
  (au (cB (aQ qR (aN Vq hr (by decide) rfl (aj (pv 0) (aj (pv 4) aq))) dF (bC _))
   (aB (aW aF))
   bf)
  (au (aL (i:=6) lF.nd rfl (Or.inl rfl) (eU cC (pv 4) (bx (bZ hr) (pv 0) aF (λ_ _=>rfl)) (by with_unfolding_all rfl)))
  (au (cB (PW.pt (vM (PW.pt (qw (aQ cC (pv 2) (bQ (aj aF (aj aF aq))) (by with_unfolding_all rfl)) (lG (aQ qR (pv 5) dF (bC _))))) (nG (PW.pt (qw (aQ gJ (pv 2) aF (bC _)) (lG (uK (jr (pv 6)))))))))
   (aB (aW aF))
   bf)
  (au (cB (PW.pt (qw (aQ gJ (pv 2) aF (bC _)) (lG (PW.pt (vM (aQ qX (pv 5) dF (bC _)) (nG (jr (pv 6))))))))
   (aB (aW aF))
   bf)
  (au (cB (aQ gJ (pv 2) aF (bC _))
   (aB (fW (bZ hr) (pv 0) aF (cH ["_law_model_here","_law_deed_here","_law_word","_law_t","_law_name","_law_link_here","_law_alone"] (aC tV) ["_law_link_here","_law_one"] [some 5,none] rfl rfl rfl (eG (bx (bZ hr) (pv 0) aF (λ_ _=>rfl))) rfl (by decide +kernel) (by decide +kernel) (by decide +kernel) (by decide +kernel) (hg:=λcl C s H ex pn E=>(aK (i:=1) (by decide +kernel:(["_law_link_here","_law_one"]:List Str).Nodup) rfl (Or.inl rfl))) (ht:=λcl C s H ex pn E=>(j5 (aQ (DK hr.units) (pv 1) (pv 0) (bC _)))) (he:=λcl C s H ex pn E=>(pv 1))) rfl))
   (aB (cB (aQ gJ (pv 2) aF (bC _))
   (aB (uY (bI (aj (pv 3) (aj (bI aq) (aj (bI aq) aq)))) (K7 (pv 5) (iu aA))))
   (aB (cB (aQ gJ (pv 2) aF (bC _))
   (aB (cN (dY PySem.F.plainAttrs_list PySem.F.slot_list_append PySem.F.type_list_append bJ (bx (bZ hr) (pv 0) aF (λ_ _=>rfl)) (aj (pv 4) aq))))
   (aB (cN (dY PySem.F.plainAttrs_list PySem.F.slot_list_remove PySem.F.type_list_remove zP (bx (bZ hr) (pv 0) aF (λ_ _=>rfl)) (aj (pv 4) aq)))))))))
  (aB (aW aF))))))))),?_⟩
 refine⟨_,rfl,pd,_,rfl,SqT.of hd,rfl,_,_,rfl,_,_,rfl,_,_,rfl,rfl,?_⟩;refine⟨_,rfl,_,rfl,S,M,L,R,ks,al,x,rfl,hM,λu hu=>?_⟩;refine⟨_,rfl,_,rfl,S,M,L,R,ks,al,x,rfl,hM,λH1 s1=>⟨rfl,_,rfl,?_⟩⟩;have b1:decide (dh L R x=.non)=!isP L R x:=by
  unfold dh isP;cases(cL (L++R) x).isSome <;> rfl
 rw[b1];tm_at"d"
 .have z:isP L R x=false:=by simpa using z
  exact k1 0 (by cases d <;> (simp only[vI,z];rfl)) H1 s1
 have hp:isP L R x=true:=by simpa using z
 have bj:=hM.same s1;have Z:(u=.non/\ks.all (λk=>!fK x k)=true)\/∃(i:Nat)(B:List V)(q:Addr)(k:Lnk),u=.ref q/\H1 M.lk=some (.lst B)/\B[i]?=some u/\ks[i]?=some k/\fK x k=true/\(∀ j∈ks.take i,fK x j=false):=by
  rcases hu with⟨e,h⟩ | ⟨i,B,k,h1,h2,h3,h4,h5⟩
  .exact .inl ⟨e,all_eq_true.mpr λk I=>by rw[h k I];rfl⟩
  .obtain⟨bb,e',_,_,U⟩:=hM.lk.ex;rw[h1] at e';cases e';obtain⟨q,_,_,_,_,ev,_⟩:=(U i u k h2 h3).ex;exact .inr ⟨i,B,q,k,ev,s1 _ _ h1,h2,h3,h4,h5⟩
 clear hu;have a1:∀ {k:Lnk}{i:Nat},ks[i]?=some k->fK x k=true->ks.all (λk=>!fK x k)=false:=λI hi=>List.all_eq_false.mpr ⟨_,Xu I,by rw[hi];decide⟩
 refine⟨_,rfl,_,rfl,M.m,_,rfl,kJ bj.m,M.la,_,rfl,.inl (SqL.of bj.la),rfl,cR _,?_⟩;rw[show(if false=true then !inV (mkT x) (al.map mkT) else inV (mkT x) (al.map mkT))=inV (mkT x) (al.map mkT) from rfl,gM];cases d with
 | lack =>
  tm_at"b";refine jl (show inV (.str (Sd.wd .lack)) [.str (Str.ofString "loose"),.str (Str.ofString "step")]=false by decide +kernel) ?_;refine⟨_,rfl,rfl,_,rfl,?_⟩;refine dO (λ_=>?_) (λz=>absurd (XD rfl) z);refine⟨_,rfl,_,rfl,?_⟩;tm_at"d"
  .have z:¬ x∈al:=by simpa using z
   exact k1 4 (by simp only[vI,hp,if_neg z];rfl) Y (s1.trans W)
  have z:x∈al:=by simpa using z
  tm_at"c";refine jl (fP (by decide +kernel)) ?_;tm_at"c";refine jl (fP (by decide +kernel)) ?_;have g:=s1.trans W;have r:=hM.same g;obtain⟨j,hj,aw⟩:=yR z;have ab:=r.la;rw[mV] at ab;refine⟨_,rfl,M.m,_,rfl,kJ r.m,.inl ⟨rfl,_,SqL.of ab⟩,_,rfl,M.la,_,⟨x.toArray⟩,j,rfl,rfl,ab,by rw[XC,hj];rfl,λi y hi hy e=>?_,?_⟩
  .rw[XC] at hy;cases hz:al[i]? with
   | none=>rw[hz] at hy;cases hy
   | some a =>
    rw[hz] at hy;have:(⟨a.toArray⟩:Str)=⟨x.toArray⟩:=(Xn hy).trans e;exact aw i hi (by rw[hz,str_inj this])
  rw[← mV,nO];exact k2 (by simp only[vI,hp,if_pos z];rfl) _ M ks _ ⟨rfl,rfl⟩ (yp g _) (hM.aloneTo g _) ⟨rfl,j,hj,aw,rfl⟩
 | alone =>
  tm_at"b";refine jl (show inV (.str (Sd.wd .alone)) [.str (Str.ofString "loose"),.str (Str.ofString "step")]=false by decide +kernel) ?_;tm_at"c";refine dO (λ_=>?_) (λz=>absurd (XD rfl) z);have g:=s1.trans W;have r:=hM.same g;refine⟨_,rfl,rfl,_,rfl,?_⟩;tm_at"d"
  .rcases Z with⟨e,_⟩ | ⟨i,B,q,k,_,_,_,I,O,_⟩
   .rw[e] at z;cases z
   .exact k1 3 (by
     have hf:gj ks al x=false:=by unfold gj;rw[a1 I O,Bool.false_and]
     simp only[vI,hp,hf]
     rfl) Y g
  have bz:ks.all (λk=>!fK x k)=true:=by
   rcases Z with⟨_,h⟩ | ⟨i,B,q,k,e,_⟩
   .exact h
   .rw[e] at z;exact absurd rfl z
  refine⟨_,rfl,_,rfl,?_⟩;refine dO (λz2=>?_) (λz2=>?_)
  .have z2:x∈al:=by simpa using z2
   exact k1 3 (by
     have hf:gj ks al x=false:=by unfold gj;rw[XD z2,Bool.not_true,Bool.and_false]
     simp only[vI,hp,hf]
     rfl) Y g
  have z2:¬ x∈al:=by simpa using z2
  have hf:gj ks al x=true:=by unfold gj;rw[bz,Xp z2];rfl
  tm_at"c";refine jl (fP (by decide +kernel)) ?_;refine⟨_,rfl,rfl,_,rfl,?_⟩;refine dO (λ_=>?_) (λz=>absurd (XD rfl) z);refine⟨_,rfl,M.m,_,rfl,kJ r.m,.inl ⟨rfl,_,SqL.of r.la⟩,_,rfl,M.la,_,mkT x,rfl,rfl,r.la,aH (by rw[XF];lia),?_⟩;rw[show al.map mkT++[mkT x]=(al++[x]).map mkT by rw[map_append];rfl];exact k2 (by simp only[vI,hp,hf];rfl) _ M ks _ ⟨rfl,rfl⟩ (yp g _) (hM.aloneTo g _) ⟨rfl,rfl⟩
 | loose =>
  tm_at"b";refine PB (show inV (.str (Sd.wd .loose)) [.str (Str.ofString "loose"),.str (Str.ofString "step")]=true by decide +kernel) ?_;have g:=s1.trans W;refine⟨_,rfl,rfl,_,rfl,?_⟩;tm_at"d"
  .rcases Z with⟨_,h⟩ | ⟨i,B,q,k,e,_⟩
   .exact k1 4 (by simp only[vI,hp,h];rfl) Y g
   .rw[e] at z;cases z
  rcases Z with⟨e,_⟩ | ⟨i,B,q,k,e,av,ar,I,O,aS⟩
  .rw[e] at z;exact absurd rfl z
  tm_at"c";refine jl (fP (by decide +kernel)) ?_;refine⟨_,rfl,rfl,_,rfl,?_⟩;refine dO (λ_=>?_) (λz=>absurd (XD rfl) z);subst e;have r:=hM.same g;have D:=W _ _ av;obtain⟨bb,ae,bq,ax,U⟩:=r.lk.ex;rw[D] at ae;cases ae;have hq:=U i _ k ar I;refine⟨_,rfl,M.m,_,rfl,rm r.m,M.lk,rfl,⟨_,SqL.of D⟩,λlc aT=>?_⟩;have b2:(B.zip ks).length=B.length:=by rw[length_zip,bq,Nat.min_self]
  refine cA (J:=Itl K0 M.lk) (l:=lc) B.length (λn σ' H'=>∃ v:Option V,σ'=[some (.ref q),v]/\Same Y H'/\H' lc=some (.lst ((((B.zip ks).take n).filter λp=>decide (p.2≠k)).map (·.1)))) ⟨none,rfl,ao aT _,ak⟩ ?_ ?_
  rotate_left
  .rintro n σ' H' hn ⟨v,rfl,s3,e3⟩;have bS:n<ks.length:=by lia
   have bE:n<(B.zip ks).length:=by lia
   refine⟨⟨_,_,SqL.of (s3 _ _ D),bK hn⟩,?_⟩;rintro N hN y cn ⟨rfl,hy⟩;have ey:y=B[n]:=Xn ((hy _ (SqL.of (s3 _ _ D))).symm.trans (bK hn));have ag:=take_one (bK bE);rw[getElem_zip] at ag;have hj:=U n B[n] ks[n] (bK hn) (bK bS);rw[← ey] at hj ag;generalize ks[n]=j at hj ag;obtain⟨q',a',b',c',d',ev,_⟩:=hj.ex;subst ev;obtain⟨b3,bP,g1,g2,g3,g4,g5⟩:=Nr (hj.keep (.of s3) (S:=[]) (λz hz=>nomatch hz)) (hq.keep (.of s3) (S:=[]) (λz hz=>nomatch hz));refine gN ⟨_,rfl,_,rfl,q',q,b3,bP,O7 j k,rfl,rfl,g1,g2,λ_=>⟨g4,g5⟩,_,rfl,?_⟩;rw[XD g3,Bool.true_and,Hg];tm_at"d"
   .have z:j≠k:=by simpa using z
    refine⟨_,rfl,_,e3,aH ?_,hN _ _ ⟨_,rfl,bO s3 aT,?_⟩⟩
    .rw[XF];refine Xz (length_filter_le _ _) ?_;rw[length_take];lia
    .rw[ak,ag,filter_append,map_append,filter_cons_of_pos (by simpa using z)]
     rfl
   .have z:j=k:=by simpa using z
    refine hN _ _ ⟨_,rfl,s3,?_⟩;rw[e3,ag,filter_append,filter_cons_of_neg (by simpa using z),filter_nil,append_nil]
  rintro σ' H3 ⟨v,rfl,s3,e3⟩;rw[← b2,take_length] at e3;refine⟨⟨_,SqL.of (s3 _ _ D),ql _⟩,?_⟩;refine⟨_,rfl,M.m,_,rfl,vJ.k (k:=(Sum.inr "links" : Key)) (s3 _ _ r.m) (aH (show 5<=1000 by lia)),?_⟩;have ay:((B.zip ks).filter λp=>decide (p.2≠k)).map (·.2)=ks.filter λj=>decide (j≠k):=by
   have h1:(B.zip ks).map (·.2)=ks:=List.map_snd_zip (by lia);have h2:=List.filter_map (p:=λj:Lnk=>decide (j≠k)) (f:=λp:V × Lnk=>p.2) (l:=B.zip ks);rw[h1] at h2;exact h2.symm
  have be:(((B.zip ks).filter λp=>decide (p.2≠k)).map (·.1)).Nodup:=by
   have h1:(B.zip ks).map (·.1)=B:=List.map_fst_zip (by lia);have h2:(((B.zip ks).filter λp=>decide (p.2≠k)).map (·.1)).Sublist B:=by
    have h3:=(filter_sublist (p:=λp:V × Lnk=>decide (p.2≠k)) (l:=B.zip ks)).map (·.1);rw[h1] at h3;exact h3
   exact h2.nodup ax
  have a0:=r.relink (ks':=ks.filter λj=>decide (j≠k)) (λz hz=>by obtain⟨u,hu⟩:=hS z hz;exact⟨u,g _ _ hu⟩) s3 aT e3 (by rw[← ay,XF,XF]) be (λn u j hu hj=>by
   rw[← ay,XC] at hj;rw[XC] at hu;cases hz:((B.zip ks).filter λp=>decide (p.2≠k))[n]? with
   | none=>rw[hz] at hu;cases hu
   | some p =>
    rw[hz] at hu hj;cases hu;cases hj;obtain⟨m,hm⟩:=mem_iff_getElem?.mp (mem_filter.mp (Xu hz)).1;obtain⟨h1,h2⟩:=List.getElem?_zip_eq_some.mp hm;exact U m _ _ h1 h2)
  refine k2 (by simp only[vI,hp,a1 I O];rfl) _ { M with lk:=lc } _ al ⟨rfl,rfl⟩ (λz o hz hn _=>?_) a0 ⟨rfl,λi' k' T af ai=>?_⟩
  .rw[aG (λe=>hn (by rw[e];simp[Md.all]))];exact s3 _ _ (g _ _ hz)
  .have:i'=i:=by
    rcases Nat.lt_trichotomy i' i with h | h | h
    .have:=aS k' (Xu (i:=i') (by rw[getElem?_take,if_pos h];exact T));rw[af] at this;cases this
    .exact h
    .have:=ai k (Xu (i:=i) (by rw[getElem?_take,if_pos h];exact I));rw[O] at this;cases this
   subst this;rw[I] at T;cases T
   rfl
 | step =>
  tm_at"b";refine PB (show inV (.str (Sd.wd .step)) [.str (Str.ofString "loose"),.str (Str.ofString "step")]=true by decide +kernel) ?_;have g:=s1.trans W;refine⟨_,rfl,rfl,_,rfl,?_⟩;tm_at"d"
  .rcases Z with⟨_,h⟩ | ⟨i,B,q,k,e,_⟩
   .exact k1 4 (by simp only[vI,hp,h];rfl) Y g
   .rw[e] at z;cases z
  rcases Z with⟨e,_⟩ | ⟨i,B,q,k,e,av,ar,I,O,aS⟩
  .rw[e] at z;exact absurd rfl z
  tm_at"c";refine jl (fP (by decide +kernel)) ?_;tm_at"c";refine dO (λ_=>?_) (λz=>absurd (XD rfl) z);subst e;have r:=hM.same g;obtain⟨bb,ae,_,ax,U⟩:=r.lk.ex;rw[W _ _ av] at ae;cases ae;obtain⟨q',a,b,c0,d0,ev,n1,n2,n3,_,_,f1,f2,f3,_,_⟩:=(U i _ k ar I).ex;cases ev;refine⟨_,rfl,smn 0,λc hc=>?_⟩;have g1:=ao hc (.lst []);have i1:(upd Y c (.lst [])) c=some (.lst []):=ak;generalize upd Y c (.lst [])=G1 at g1 i1 ⊢;refine⟨smn 0,λd bd=>?_⟩;have g2:=ao bd (.lst []);have i2:(upd G1 d (.lst [])) d=some (.lst []):=ak;generalize upd G1 d (.lst [])=G2 at g2 i2 ⊢;refine⟨smn 3,λl hl=>?_⟩;have g3:=ao hl (.lst [.int t,.ref c,.ref d]);have i3:(upd G2 l (.lst [.int t,.ref c,.ref d])) l=some (.lst [.int t,.ref c,.ref d]):=ak;generalize upd G2 l (.lst [.int t,.ref c,.ref d])=G3 at g3 i3 ⊢;have a2:=(g1.trans g2).trans g3;have bv:q≠l:=λe=>by
   have:=(g1.trans g2) _ _ f1;rw[e,hl] at this;cases this
  refine⟨_,rfl,2,rfl,q,l,_,_,2,rfl,rfl,rfl,a2 _ _ f1,i3,bv,by show 2<=5;lia,small (by show 5+3<=1000;lia),?_⟩;have bX:∀ {G:Hp}{z:Addr},Same Y G->G z=none->Y z=none:=fun {G z} sg hz=>by
   cases hh:Y z with
   | none=>rfl
   | some u=>rw[sg _ _ hh] at hz;cases hz
  have a0:=r.stepped (λz hz=>by obtain⟨u,hu⟩:=hS z hz;exact⟨u,g _ _ hu⟩) a2 (t:=t) (W _ _ av) ar I f1 n1 n2 n3 f2 f3 hc (bX g1 bd) ((g2.trans g3) _ _ i1) (g3 _ _ i2);refine k2 (by simp only[vI,hp,a1 I O];rfl) _ M _ al ⟨rfl,rfl⟩ (λz o hz hn bu=>?_) a0 ⟨rfl,λi' k' T af ai=>?_⟩
  .rw[aG (λe=>?_)]
   .exact a2 _ _ (g _ _ hz)
   .have:=g _ _ hz;rw[e,f1] at this;exact bu _ _ _ _ _ (Xn this).symm
  .have:i'=i:=by
    rcases Nat.lt_trichotomy i' i with h | h | h
    .have:=aS k' (Xu (i:=i') (by rw[getElem?_take,if_pos h];exact T));rw[af] at this;cases this
    .exact h
    .have:=ai k (Xu (i:=i) (by rw[getElem?_take,if_pos h];exact I));rw[O] at this;cases this
   subst this;rw[I] at T;cases T
   rfl
def J9:Sp:=λa H Q E=>sE a H Q E\/wJ a H Q E
def TY:aU ["_law_model_here","_law_deed_here"] ["_law_model_here","_law_deed_here"] (aC sDo):=⟨rfl,rfl,rfl,by decide +kernel,rfl,by decide +kernel,by decide +kernel⟩
def TQ(h:Has K mg "_law_do" sDo ["_law_model_here","_law_deed_here"])(i:Cal P w K mg base "_law_linked" 2 ["_law_model_here","_law_deed_here"] sE)(j:Cal P w K mg base "_law_stand" 2 ["_law_model_here","_law_deed_here"] wJ):Cal P w K mg base "_law_do" 3 ["_law_model_here","_law_deed_here"] J9:=by
 refine h.mk' TY (λl H Q E a=>?_) (λf m A outer s H l Q E e a=>?_)
 .rcases a with⟨S,M,L,R,ks,al,b,p,q,t,xs,ys,rfl,_⟩ | ⟨S,M,L,R,ks,al,b,t,x,d,rfl,_⟩ <;> rfl
 refine⟨_,(au (cB (aQ gJ (bA bG (pv 1) aA (λ_ _=>rfl)) aF (bC _))
   (aB (aW (aN i e (by decide) rfl (aj (pv 0) (aj (pv 1) aq)))))
   bf)
  (aB (aW (aN j e (by decide) rfl (aj (pv 0) (aj (pv 1) aq)))))),?_⟩
 rcases a with a | a
 .have c:=a;obtain⟨S,M,L,R,ks,al,b,p,q,t,xs,ys,rfl,g,k,hd,_⟩:=a;refine⟨_,rfl,ixT (p:=b) rfl rfl (SqT.of hd) (bF _ _) (⟨ rfl,_,rfl,?_⟩)⟩;refine dO (λ_=>?_) (λz=>absurd (XD rfl) z);exact⟨_,rfl,_,rfl,c⟩
 .have c:=a;obtain⟨S,M,L,R,ks,al,b,t,x,d,rfl,g,k,hd,_⟩:=a;refine⟨_,rfl,ixT (p:=b) rfl rfl (SqT.of hd) (bF _ _) (⟨ rfl,_,rfl,?_⟩)⟩;refine jl (fP (by cases d <;> decide +kernel)) ?_;exact⟨_,rfl,_,rfl,c⟩
inductive St3
 | all
 | linked
 | alone
 | lacking
def St3.wd:St3->Str
 | .all=>Str.ofString "all"
 | .linked=>Str.ofString "linked"
 | .alone=>Str.ofString "alone"
 | .lacking=>Str.ofString "lacking"
def lkB(ks:List Lnk)(x:List Nat):Bool:=ks.any (fK x)
def stB(ks:List Lnk)(al:Nms)(x:List Nat):St3->Bool
 | .all=>true
 | .linked=>lkB ks x
 | .alone=>!lkB ks x && decide (x∈al)
 | .lacking=>!lkB ks x && !decide (x∈al)
def kO:Sp:=λa H Q _=>∃(S:List Addr)(M:Md)(L R:List Prt)(ks:List Lnk)(al:Nms)(d:St3),a=[.ref M.m,.str d.wd]/\fH S H M L R ks al/\(L++R).length<=200/\∀(l:Addr)(H':Hp),Same H H'->H l=none->H' l=some (.lst ((((L++R).map (·.1)).filter λx=>stB ks al x d).map mkT))->Q (.ref l) H'
def stW(ks:List Lnk)(al:Nms)(x:List Nat):St3:=if lkB ks x then .linked else if x∈al then .alone else .lacking
def Qa(ks:List Lnk)(al:Nms)(x:List Nat)(d:St3):inV (.str d.wd) [.str (Str.ofString "all"),.str (stW ks al x).wd]=stB ks al x d:=by
 unfold stW stB;by_cases h1:lkB ks x=true
 .rw[if_pos h1,h1];generalize decide (x∈al)=b;cases b <;> cases d <;> decide +kernel
 .rw[if_neg h1,Bool.eq_false_iff.mpr h1];by_cases h2:x∈al
  .rw[if_pos h2,XD h2];cases d <;> decide +kernel
  .rw[if_neg h2,Xp h2];cases d <;> decide +kernel
def eY:aU ["_law_model_here","_law_which","_law_made","_law_name","_law_stands"] ["_law_model_here","_law_which"] (aC jL):=⟨rfl,rfl,rfl,by decide +kernel,rfl,by decide +kernel,by decide +kernel⟩
def zW(h:Has K mg "_law_standing" jL ["_law_model_here","_law_which"])(Vr:Cal P w K mg base "_law_link" 1 ["_law_model_here","_law_name"] yG):Cal P w K mg base "_law_standing" 2 ["_law_model_here","_law_which"] kO:=by
 refine h.mk' eY (λvs H Q E hs=>?_) (λf ba A outer s H vs Q E hr hs=>?_)
 .obtain⟨S,M,L,R,ks,al,d,rfl,_⟩:=hs
  rfl
 obtain⟨S,M,L,R,ks,al,d,rfl,hM,t,k⟩:=hs;refine⟨_,(au (aL (i:=2) eY.nd rfl (Or.inl rfl) (bI aq))
  (au (dJ PassesOwn.never rfl (eG (bB jw (bA bw (bx (bZ hr) (pv 0) aF (λ_ _=>rfl)) aA (λ_ _=>rfl)) (bA bw (bx (bZ hr) (pv 0) aF (λ_ _=>rfl)) aA (λ_ _=>rfl)))) (aK (i:=3) eY.nd rfl (Or.inl rfl))
   (au (aL (i:=4) eY.nd rfl (Or.inl rfl) aF)
  (au (cB (aQ cC (pv 3) (bx (bZ hr) (pv 0) aF (λ_ _=>rfl)) (by with_unfolding_all rfl))
   (aB (aL (i:=4) eY.nd rfl (Or.inl rfl) aF))
   bf)
  (au (cB (aQ qX (aN Vr hr (by decide) rfl (aj (pv 0) (aj (pv 3) aq))) dF (bC _))
   (aB (aL (i:=4) eY.nd rfl (Or.inl rfl) aF))
   bf)
  (aB (cB (aQ cC (pv 1) (bQ (aj aF (aj (pv 4) aq))) (by with_unfolding_all rfl))
   (aB (cN (dY PySem.F.plainAttrs_list PySem.F.slot_list_append PySem.F.type_list_append bJ (pv 2) (aj (pv 3) aq))))
   bf))))))
  (aB (aW (pv 2))))),?_⟩
 refine⟨smn 0,λl hl=>?_⟩;have s1:=ao hl (.lst []);have e1:(upd H l (.lst [])) l=some (.lst []):=ak;generalize upd H l (.lst [])=H1 at s1 e1 ⊢;have b:=hM.same s1;have X:∀ Z:List Prt,(cg Z).length=Z.length:=λZ=>by unfold cg;rw[XF]
 have I:=t;rw[Xr] at I;refine gN ⟨_,rfl,M.m,_,rfl,nR b.m,ixL (p:=M.lr) rfl rfl (SqL.of b.lr) (bF _ _) (⟨ _,rfl,M.m,_,rfl,nR b.m,ixL (p:=M.lr) rfl rfl (SqL.of b.lr) ((pG b (n:=1) (ql _)).1) (⟨ M.l0,M.l1,_,_,rfl,rfl,b.l0,b.l1,small (by rw[X,X];lia),λC Y=>?_⟩)⟩)⟩;rw[mj,mj,← map_append,← map_append];have a5:((L++R).map (·.1)).length<=200:=by rw[XF];exact t
 have s3:=ao Y (.lst (((L++R).map (·.1)).map mkT));have e3:(upd H1 C (.lst (((L++R).map (·.1)).map mkT))) C=some (.lst (((L++R).map (·.1)).map mkT)):=ak;have ac:l≠C:=λe=>by rw[e,Y] at e1;cases e1
 generalize upd H1 C (.lst (((L++R).map (·.1)).map mkT))=H3 at s3 e3 ⊢;generalize hnms:(L++R).map (·.1)=c at *;refine⟨C,rfl,⟨_,SqL.of e3⟩,?_⟩;refine jh (K:=K0) (a:=C) (xs:=c.map mkT) (λi σ v=>∃ v3 v4:Option V,σ=[some (.ref M.m),some (.str d.wd),some (.ref l),v3,v4]/\Same H v/\v C=some (.lst (c.map mkT))/\v l=some (.lst (((c.take i).filter λx=>stB ks al x d).map mkT))) ⟨_,_,rfl,s1.trans s3,e3,s3 _ _ e1⟩ ?_ ?_ ?_
 .rintro i σ v _ ⟨_,_,_,_,G,_⟩;exact SqL.of G
 .rintro i y σ v hi ⟨v3,v4,rfl,W,G,g⟩;have U:i<c.length:=by
   have:=(pN.mp hi).1
   rwa [XF] at this
  rw[XC,bK U] at hi;have ey:y=mkT c[i]:=(Xn hi).symm;have D:=take_one (bK U);generalize c[i]=x at ey D;subst ey;have q:=hM.same W;refine gN (gN ?_);refine gN ?_;refine nxP (λσ H'=>H'=v/\σ=[some (.ref M.m),some (.str d.wd),some (.ref l),some (mkT x),some (.str (if x∈al then St3.alone.wd else St3.lacking.wd))]) (λN T=>?_) ?_
  .refine⟨_,rfl,_,rfl,M.m,_,rfl,kJ q.m,M.la,_,rfl,.inl (SqL.of q.la),rfl,cR _,_,rfl,?_⟩;rw[show(if false=true then !inV (mkT x) (al.map mkT) else inV (mkT x) (al.map mkT))=inV (mkT x) (al.map mkT) from rfl,gM];tm_at"d"
   .have z:x∈al:=Xv z;exact gN (T _ _ ⟨rfl,by rw[if_pos z];rfl⟩)
   .have z:¬ x∈al:=λh=>z (XD h)
    exact T _ _ ⟨rfl,by rw[if_neg z];rfl⟩
  rintro σ' H' ⟨rfl,rfl⟩;refine rO (λσ r=>r=H'/\σ=[some (.ref M.m),some (.str d.wd),some (.ref l),some (mkT x),some (.str (stW ks al x).wd)]) (λN T=>?_) ?_
  .refine⟨_,rfl,_,rfl,S,M,L,R,ks,al,x,rfl,q,λu hu=>⟨rfl,_,rfl,?_⟩⟩;tm_at"d"
   .have z:u≠.non:=by simpa using z
    rcases hu with⟨e,_⟩ | ⟨j,us,O,_,_,hk,o,_⟩
    .exact absurd e z
    .have J:lkB ks x=true:=any_eq_true.mpr ⟨O,Xu hk,o⟩;exact gN (T _ _ ⟨rfl,by unfold stW;rw[if_pos J];rfl⟩)
   .have z:u=.non:=by simpa using z
    have J:¬ lkB ks x=true:=by
     rcases hu with⟨_,h⟩ | ⟨j,us,O,h1,h2,h3,_,_⟩
     .intro J;obtain⟨O,am,o⟩:=any_eq_true.mp J;rw[h O am] at o;cases o
     .obtain⟨a0,e',_,_,as⟩:=q.lk.ex;rw[h1] at e';cases e';obtain⟨_,_,_,_,_,ev,_⟩:=(as j u O h2 h3).ex;rw[z] at ev;cases ev
    refine T _ _ ⟨rfl,?_⟩;unfold stW;rw[if_neg J];split <;> rfl
  rintro σ' r ⟨rfl,rfl⟩;refine⟨_,rfl,_,rfl,smn 2,λpt ah=>?_⟩;have B:=ao ah (.tup [.str (Str.ofString "all"),.str (stW ks al x).wd]);have e5:(upd r pt (.tup [.str (Str.ofString "all"),.str (stW ks al x).wd])) pt=some (.tup [.str (Str.ofString "all"),.str (stW ks al x).wd]):=ak;generalize upd r pt (.tup [.str (Str.ofString "all"),.str (stW ks al x).wd])=H5 at B e5 ⊢;refine⟨pt,_,rfl,.inr (SqT.of e5),rfl,rfl,_,rfl,?_⟩;rw[show(if false=true then !inV (.str d.wd) [.str (Str.ofString "all"),.str (stW ks al x).wd] else inV (.str d.wd) [.str (Str.ofString "all"),.str (stW ks al x).wd])=inV (.str d.wd) [.str (Str.ofString "all"),.str (stW ks al x).wd] from rfl,Qa];tm_at"d"
  .refine⟨_,rfl,.inl ⟨rfl,_,SqL.of (B _ _ g)⟩,_,rfl,l,_,mkT x,rfl,rfl,B _ _ g,aH ?_,_,_,rfl,bO (W.trans B) hl,?_,?_⟩
   .rw[XF];refine Xz (length_filter_le _ _) ?_;rw[length_take];lia
   .rw[aG ac.symm];exact B _ _ G
   .rw[ak,D,filter_append,map_append,filter_cons_of_pos (by exact z)]
    rfl
  .refine⟨_,_,rfl,W.trans B,B _ _ G,?_⟩;rw[B _ _ g,D,filter_append,filter_cons_of_neg (by exact z),filter_nil,append_nil]
 .rintro σ v ⟨v3,v4,rfl,W,G,g⟩;rw[XF,take_length] at g;exact⟨_,rfl,k l v W hl g⟩
def lK{H:Hp}{a d:Addr}{vs:List V}{kv:List (Key × V)}(h1:H a=some (.lst vs))(h2:H d=some (.dK kv)):a≠d:=λe=>by
 rw[e,h2] at h1;cases h1
def Jv:Sp:=λa H Q _=>∃(d lo l1 l2:Addr)(xs ys:Nms),a=[.ref d,.ref l1,.ref l2]/\bh d lo H/\H l1=some (.lst (xs.map mkT))/\H l2=some (.lst (ys.map mkT))/\l1≠lo/\l2≠lo/\ys≠[]/\xs.length<=900/\ys.length<=900 /\
 ∀(z:List Nat)(H':Hp),z∈xs++ys->bh d lo H'->Old d lo H H'->Q (mkT z) H'
def iI{d lo l:Addr}{H:Hp}{vs:List V}(hp:bh d lo H)(h:H l=some (.lst vs)):l≠d:=by
 obtain⟨f,a,b,c,e,g,_⟩:=hp;exact lK h e
def Jo:aU ["_law_pot_here","_law_some_here","_law_others"] ["_law_pot_here","_law_some_here","_law_others"] (aC HW):=⟨rfl,rfl,rfl,by decide +kernel,rfl,by decide +kernel,by decide +kernel⟩
theorem Py(h:Has K mg "_law_pick" HW ["_law_pot_here","_law_some_here","_law_others"])(R:Cal P w K mg base "_law_next" 1 ["_law_pot_here","_law_many"] iD)(Z:mg "len" = none):Cal P w K mg base "_law_pick" 2 ["_law_pot_here","_law_some_here","_law_others"] Jv:=by
 refine h.mk' Jo (λvs H Q E G=>?_) (λf ad A outer s H vs Q E F G=>?_)
 .obtain⟨d,lo,C,m,xs,ys,rfl,_⟩:=G
  rfl
 obtain⟨d,lo,C,m,xs,ys,rfl,v,B,U,T,M,hy,D,I,k⟩:=G;refine⟨_,(au (cB (PW.pt (vM (aQ (JW F.units0) (pv 1) (bI aq) (bC _)) (nG (aQ gJ (aN R F (by decide) rfl (aj (pv 0) (aj aA aq))) aA (bC _)))))
   (aB (aL (i:=1) Jo.nd rfl (Or.inl rfl) (pv 2)))
   bf)
  (aB (aW (bA bw (pv 1) (aN R F (by decide) rfl (aj (pv 0) (aj (aR cM rfl Z PySem.boot_len (aj (pv 1) aq)) aq))) (λ_ _=>rfl))))),?_⟩
 refine rO (λσ a=>∃(l:Addr)(zs:Nms),σ=[some (.ref d),some (.ref l),some (.ref m)]/\bh d lo a/\Old d lo H a/\a l=some (.lst (zs.map mkT))/\l≠lo/\zs≠[]/\zs.length<=900/\∀ z∈zs,z∈xs++ys) (λN L=>?_) ?_
 .refine⟨_,rfl,smn 0,λt J=>?_⟩;have g:=ao J (.lst []);have c:(upd H t (.lst [])) t=some (.lst []):=ak;generalize upd H t (.lst [])=S at g c ⊢;have n:∀(a:Hp),bh d lo a->Old d lo H a->N [some (.ref d),some (.ref m),some (.ref m)] a:=λa p o=>L _ _ ⟨m,ys,rfl,p,o,o _ _ U (iI v U) M,M,hy,I,λz hz=>Xw _ hz⟩
  refine⟨C,t,_,rfl,rfl,g _ _ B,c,_,rfl,?_⟩;tm_at"d"
  .exact⟨_,rfl,n S (v.same g) (.of g)⟩
  .have hx:xs≠[]:=λe=>z (by rw[e];rfl)
   refine⟨_,rfl,d,lo,10,rfl,v.same g,by decide,by decide,λr q V W x u=>?_⟩;have b:Old d lo H q:=Old.trans (.of g) u;refine⟨rfl,_,rfl,?_⟩;tm_at"d"
   .exact⟨_,rfl,n q x b⟩
   .exact L _ _ ⟨C,xs,rfl,x,b,b _ _ B (iI v B) T,T,hx,D,λz hz=>Xx _ hz⟩
 rintro σ S ⟨l,zs,rfl,O,o1,c,nl,hz,ae,y⟩;have Y:=length_pos_iff.mpr hz;refine⟨_,rfl,_,rfl,_,rfl,l,_,rfl,.inl (SqL.of c),d,lo,_,rfl,O,by rw[XF];lia,by rw[XF];lia,λr q V W x u=>?_⟩;rw[XF] at W;obtain⟨j,rfl⟩:=Int.eq_ofNat_of_zero_le V;have X:j<zs.length:=by lia
 have e2:=u _ _ c (iI O c) nl;refine(ixL (p:=l) rfl rfl (SqL.of e2) (aZ (j:=j) (by rw[XC,bK X];rfl)) (k _ q (y _ (getElem_mem X)) x (o1.trans u)))
def qm:Sp:=λa H Q _=>∃(d lo l2:Addr)(M:Md)(L R:List Prt)(ks:List Lnk)(al ot:Nms)(t:Int),a=[.ref d,.ref M.m,.int t,.ref l2]/\bh d lo H/\fH [d,lo] H M L R ks al/\H l2=some (.lst (ot.map mkT))/\l2≠lo/\ot≠[]/\ot.length<=900/\(L++R).length<=200/\(∀ x∈(L++R).map (·.1),x∈ot) /\
 (∀(pd:Addr)(x:List Nat)(H':Hp),x∈ot->H' pd=some (.tup [.str (Str.ofString "loose"),.int t,mkT x])->bh d lo H'->Old d lo H H'->Q (.ref pd) H') /\
 ∀(pd p q:Addr)(xs ys:Nms)(H':Hp),H' pd=some (.tup [.str (Str.ofString "link"),.int t,.ref p,.ref q])->H' p=some (.tup (xs.map mkT))->H' q=some (.tup (ys.map mkT))->xs≠[]->xs.length<=60->ys.length<=60->(∀ x∈xs++ys,x∈ot)->bh d lo H'->Old d lo H H'->Q (.ref pd) H'
def cU:aU ["_law_pot_here","_law_model_here","_law_t","_law_others","_law_pair","_law_side_here","_law_row","_law_some_here","_law_many","_law_names_here","_law_odd","_law_wanted"] ["_law_pot_here","_law_model_here","_law_t","_law_others"] (aC fD):=⟨rfl,rfl,rfl,by decide +kernel,rfl,by decide +kernel,by decide +kernel⟩
def vW(h:Has K mg "_law_link_deed" fD ["_law_pot_here","_law_model_here","_law_t","_law_others"])(Vb:Cal P w K mg base "_law_standing" 2 ["_law_model_here","_law_which"] kO)(UJ:Cal P w K mg base "_law_next" 1 ["_law_pot_here","_law_many"] iD)(Vf:Cal P w K mg base "_law_taken" 2 ["_law_pot_here","_law_names_here"] tE)(V1:mg "min" = none)(Vl:mg "int" = none)(Vd:mg "len" = none)(UW:mg "range" = none)(Ux:mg "tuple" = none)(V0:mg "any" = none):Cal P w K mg base "_law_link_deed" 3 ["_law_pot_here","_law_model_here","_law_t","_law_others"] qm:=by
 refine h.mk' cU (λvs H Q E hs=>?_) (λf fd A outer s H vs Q E hr hs=>?_)
 .obtain⟨d,lo,l2,M,L,R,ks,al,ot,t,rfl,_⟩:=hs
  rfl
 obtain⟨d,lo,l2,M,L,R,ks,al,ot,t,rfl,hp,hM,ba,a5,cT,d6,bi,df,k1,k2⟩:=hs;refine⟨_,(au (aL (i:=4) cU.nd rfl (Or.inr rfl) (bI aq))
  (au (dJ PassesOwn.never rfl (cJ (bQ (aj aA (aj aA aq)))) (aK (i:=5) cU.nd rfl (Or.inl rfl))
   (au (aL (i:=6) cU.nd rfl (Or.inr rfl) (bA bw (bx (bZ hr) (pv 1) aF (λ_ _=>rfl)) (pv 5) (λ_ _=>rfl)))
  (au (aL (i:=7) cU.nd rfl (Or.inr rfl) (cH ["_law_pot_here","_law_model_here","_law_t","_law_others","_law_pair","_law_side_here","_law_row","_law_some_here","_law_many","_law_names_here","_law_odd","_law_wanted"] (aC fD) ["_law_row","_law_name"] [some 6,none] rfl rfl rfl (eG (aN Vb hr (by decide) rfl (aj (pv 1) (aj aF aq)))) rfl (by decide +kernel) (by decide +kernel) (by decide +kernel) (by decide +kernel) (hg:=λcl C s H ex pn E=>(aK (i:=1) (by decide +kernel:(["_law_row","_law_name"]:List Str).Nodup) rfl (Or.inl rfl))) (ht:=λcl C s H ex pn E=>(j5 (aQ (cC) (pv 1) (pv 0) (by with_unfolding_all rfl)))) (he:=λcl C s H ex pn E=>(pv 1))))
  (au (aL (i:=8) cU.nd rfl (Or.inl rfl) (aR (tU rfl) rfl V1 boot_min (aj (aR cM rfl Vd PySem.boot_len (aj (pv 7) aq)) (aj (bB gk aA (aN UJ hr (by decide) rfl (aj (pv 0) (aj (bA bw (bI (aj aA (aj aA aq))) (aP jV rfl Vl boot_int (aj (eU gJ (aN UJ hr (by decide) rfl (aj (pv 0) (aj aA aq))) aA (bC _)) aq)) (λ_ _=>rfl)) aq)))) aq))))
  (au (pL (ix:=9) cU.nd rfl rfl ["_law_pot_here","_law_model_here","_law_t","_law_others","_law_pair","_law_side_here","_law_row","_law_some_here","_law_many","_law_names_here","_law_odd","_law_wanted"] (aC fD) ["_law_pot_here","_law_some_here","_law_k"] [some 0,some 7,none] rfl rfl rfl (cX rfl UW (aj (pv 8) aq)) rfl (by decide +kernel) (by decide +kernel) (by decide +kernel) (by decide +kernel) (hg:=λcl C s H ex pn E=>(aK (i:=2) (by decide +kernel:(["_law_pot_here","_law_some_here","_law_k"]:List Str).Nodup) rfl (Or.inl rfl))) (ht:=λcl C s H ex pn E=>cu) (he:=λcl C s H ex pn E=>(aN Vf hr (by decide) rfl (aj (pv 0) (aj (pv 1) aq)))))
  (au (aL (i:=10) cU.nd rfl (Or.inl rfl) (bA bw (pv 3) (aN UJ hr (by decide) rfl (aj (pv 0) (aj (aR cM rfl Vd PySem.boot_len (aj (pv 3) aq)) aq))) (λ_ _=>rfl)))
  (au (aL (i:=11) cU.nd rfl (Or.inl rfl) (Np (eU (JW hr.units0) (pv 9) (bI aq) (bC _)) (uR (Bd (eU Rj (pv 8) aA (bC _)) (uR (eU gJ (aN UJ hr (by decide) rfl (aj (pv 0) (aj aA aq))) aA (bC _)))))))
  (au (cB (PW.pt (qw (jr (pv 11)) (lG (aQ gY (pv 10) (pv 9) (by with_unfolding_all rfl)))))
   (aB (cN (dY PySem.F.plainAttrs_list PySem.F.slot_list_append PySem.F.type_list_append bJ (pv 9) (aj (pv 10) aq))))
   bf)
  (aB (cN (dY PySem.F.plainAttrs_list PySem.F.slot_list_append PySem.F.type_list_append bJ (pv 4) (aj (aP aM rfl Ux boot_tuple (aj (pv 9) aq)) aq))))))))))))
  (au (cB (jr (aR (uh rfl) rfl V0 boot_any (aj (cH ["_law_pot_here","_law_model_here","_law_t","_law_others","_law_pair","_law_side_here","_law_row","_law_some_here","_law_many","_law_names_here","_law_odd","_law_wanted"] (aC fD) ["_law_pair","_law_name"] [some 4,none] rfl rfl rfl (cJ (bA bw (pv 4) aA (λ_ _=>rfl))) rfl (by decide +kernel) (by decide +kernel) (by decide +kernel) (by decide +kernel) (hg:=λcl C s H ex pn E=>(aK (i:=1) (by decide +kernel:(["_law_pair","_law_name"]:List Str).Nodup) rfl (Or.inl rfl))) (ht:=λcl C s H ex pn E=>cu) (he:=λcl C s H ex pn E=>(eU (cC) (pv 1) (bA (bw) (pv 0) aA (λ_ _=>rfl)) (by with_unfolding_all rfl)))) aq)))
   (aB (aW (bQ (aj aF (aj (pv 2) (aj (bA bw (pv 3) aA (λ_ _=>rfl)) aq))))))
   bf)
  (aB (aW (bQ (aj aF (aj (pv 2) (aj (bA bw (pv 4) aA (λ_ _=>rfl)) (aj (bA bw (pv 4) aA (λ_ _=>rfl)) aq)))))))))),?_⟩
 have du:=length_pos_iff.mpr cT;refine⟨smn 0,λG cz=>?_⟩;have s1:=ao cz (.lst []);have e1:(upd H G (.lst [])) G=some (.lst []):=ak;have av:=cz;generalize upd H G (.lst [])=H1 at s1 e1 ⊢;have p1:=hp.same s1;refine gN ⟨smn 2,λtt dx=>⟨tt,rfl,⟨_,SqT.of ak⟩,?_⟩⟩;have s2:=ao dx (.tup [.int 0,.int 1]);have e2:(upd H1 tt (.tup [.int 0,.int 1])) tt=some (.tup [.int 0,.int 1]):=ak;generalize upd H1 tt (.tup [.int 0,.int 1])=H2 at s2 e2 ⊢;have p2:=p1.same s2;have bq:G≠d:=(hp.ne av).1;have br:G≠lo:=(hp.ne av).2;refine iQ (K:=K0) (a:=tt) (xs:=[.int 0,.int 1]) (λi σ H3=>∃(v5 v6 v7 v8 v9 ab U:Option V)(ps:List Addr)(aa:List Nms),σ=[some (.ref d),some (.ref M.m),some (.int t),some (.ref l2),some (.ref G),v5,v6,v7,v8,v9,ab,U]/\bh d lo H3/\Old d lo H H3/\H3 tt=some (.tup [.int 0,.int 1])/\H3 G=some (.lst (ps.map V.ref))/\ps.length=i/\aa.length=i/\(∀(j:Nat)(p:Addr)(ns:Nms),ps[j]?=some p->aa[j]?=some ns->H3 p=some (.tup (ns.map mkT))/\ns≠[]/\ns.length<=60/\∀ x∈ns,x∈ot))
  ⟨_,_,_,_,_,_,_,[],[],rfl,p2,.of (s1.trans s2),e2,s2 _ _ e1,rfl,rfl,λj p ns h=>by simp at h⟩ ?_ ?_ ?_
 .rintro i σ H3 _ ⟨_,_,_,_,_,_,_,_,_,_,_,_,e3,_⟩;exact SqT.of e3
 .rintro i y σ H3 hi ⟨v5,v6,v7,v8,v9,ab,U,ps,aa,rfl,p3,o3,e3,S,a9,bg,bb⟩;obtain⟨dC,rfl⟩:i<=1/\y=.int (i:Nat):=by
   match i,hi with
   | 0,hi=>exact⟨by lia,(Xn hi).symm⟩
   | 1,hi=>exact⟨by lia,(Xn hi).symm⟩
  have a4:=hM.keep (.old o3);obtain⟨cn,cf⟩:=pG a4 dC;have a8:=o3 _ _ ba (iI hp ba) a5;have cF:∀ {z:Addr},H3 z=none->z≠d/\z≠lo:=λhz=>p3.ne hz
  refine gN ?_;refine rO (λσ k=>k=H3/\σ=[some (.ref d),some (.ref M.m),some (.int t),some (.ref l2),some (.ref G),some (.int (i:Nat)),some (.ref (M.ln i)),v7,v8,v9,ab,U]) (λN I=>?_) ?_
  .refine⟨_,rfl,M.m,_,rfl,nR a4.m,_,rfl,ixL (p:=M.lr) rfl rfl (SqL.of a4.lr) (cn) (gN (I _ _ ⟨rfl,rfl⟩))⟩
  rintro σ W ⟨rfl,rfl⟩;refine rO (λσ k=>∃(D:Addr)(zs:Nms),σ=[some (.ref d),some (.ref M.m),some (.int t),some (.ref l2),some (.ref G),some (.int (i:Nat)),some (.ref (M.ln i)),some (.ref D),v8,v9,ab,U]/\bh d lo k/\Old d lo W k/\W D=none/\k D=some (.lst (zs.map mkT))/\(∀ x∈zs,x∈ot)/\zs.length<=200) (λN I=>?_) ?_
  .refine⟨_,rfl,[d,lo],M,L,R,ks,al,.lacking,rfl,a4,bi,λls H5 s5 eS e5=>⟨ls,rfl,⟨_,SqL.of e5⟩,λD Y=>?_⟩⟩;have ad:∀ x∈((L++R).map (·.1)).filter λx=>stB ks al x .lacking,x∈ot:=λx hx=>df x (mem_filter.mp hx).1
   have b7:(((L++R).map (·.1)).filter λx=>stB ks al x .lacking).length<=200:=Xz (length_filter_le _ _) (by rw[XF];exact bi);generalize ((L++R).map (·.1)).filter (λx=>stB ks al x .lacking)=zs at e5 ad b7;have af:W D=none:=by
    cases hh:W D with
    | none=>rfl
    | some u=>rw[s5 _ _ hh] at Y;cases Y
   refine cA (J:=Itl K0 ls) (l:=D) zs.length (λn σ' k=>∃ v:Option V,σ'=[some (.ref (M.ln i)),v]/\Same H5 k/\k D=some (.lst (((zs.take n).filter λx=>decide (x∈(sdP i L R).map (·.1))).map mkT))) ⟨none,rfl,ao Y _,ak⟩ ?_ ?_
   .rintro σ' k ⟨v,rfl,s6,e6⟩;rw[take_length] at e6;refine⟨⟨_,SqL.of (s6 _ _ e5),by rw[XF];exact ql _⟩,gN (I _ _ ⟨D,_,rfl,p3.same (s5.trans s6),.of (s5.trans s6),af,e6,λx hx=>ad x (mem_filter.mp hx).1,Xz (length_filter_le _ _) b7⟩)⟩
   .rintro n σ' k hn ⟨v,rfl,s6,e6⟩;have T:(zs.map mkT)[n]?=some (mkT zs[n]):=by rw[XC,bK hn];rfl
    refine⟨⟨_,_,SqL.of (s6 _ _ e5),T⟩,?_⟩;rintro N2 bd y c4 ⟨rfl,hy⟩;have ey:y=mkT zs[n]:=Xn ((hy _ (SqL.of (s6 _ _ e5))).symm.trans T);have ai:=take_one (bK hn);generalize zs[n]=x at ey ai;subst ey;have d1:=s6 _ _ (s5 _ _ cf);refine gN ⟨_,rfl,_,rfl,M.ln i,_,rfl,.inl (SqL.of d1),rfl,by rw[mj];exact cR _,_,rfl,?_⟩;rw[show(if false=true then !inV (mkT x) (cg (sdP i L R)) else inV (mkT x) (cg (sdP i L R)))=inV (mkT x) (cg (sdP i L R)) from rfl,mj,gM];tm_at"d"
    .refine⟨_,rfl,_,e6,aH ?_,bd _ _ ⟨_,rfl,bO s6 Y,?_⟩⟩
     .rw[XF];refine Xz (length_filter_le _ _) ?_;rw[length_take];lia
     .rw[ak,ai,filter_append,map_append,filter_cons_of_pos (by exact z)]
      rfl
    .refine bd _ _ ⟨_,rfl,s6,?_⟩;rw[e6,ai,filter_append,filter_cons_of_neg (by exact z),filter_nil,append_nil]
  rintro σ H5 ⟨D,zs,rfl,p5,o5,af,e5,ad,b7⟩;obtain⟨ci,cw⟩:=cF af;have cy:∀ {k:Hp},Old d lo H5 k->k D=some (.lst (zs.map mkT)):=λo=>o _ _ e5 ci cw
  refine rO (λσ k=>∃ g:Nat,g<=zs.length/\g<=8/\σ=[some (.ref d),some (.ref M.m),some (.int t),some (.ref l2),some (.ref G),some (.int (i:Nat)),some (.ref (M.ln i)),some (.ref D),some (.int (g:Nat)),v9,ab,U]/\bh d lo k/\Old d lo H5 k) (λN I=>?_) ?_
  .refine⟨_,rfl,D,_,rfl,.inl (SqL.of e5),_,rfl,smn 2,λlq b4=>?_⟩;have dl:=p5.new (o:=HO.lst [.int 2,.int 8]) b4;obtain⟨dL,dj⟩:=p5.ne b4;refine⟨_,rfl,d,lo,8,rfl,dl,by decide,by decide,λr H6 r0 r1 p6 o6=>?_⟩;refine⟨rfl,.inr ⟨_,rfl,KY (o6 lq _ ak dL dj) λv hv=>?_⟩⟩;have en:2<=v/\v<=8:=by rcases hv with rfl | rfl <;> lia
   refine⟨d,lo,_,rfl,p6,(by lia),(by lia),λr3 H7 q0 q1 p7 o7=>?_⟩;refine⟨_,_,rfl,rfl,_,_,rfl,?_⟩;obtain⟨g,em,ct,cm⟩:∃ g:Nat,(if 1+r3<(((zs.map mkT).length:Nat):Int) then 1+r3 else (((zs.map mkT).length:Nat):Int))=(g:Int)/\g<=zs.length/\g<=8:=by
    rw[XF];by_cases hc:1+r3<(zs.length:Int)
    .rw[if_pos hc];exact⟨(1+r3).toNat,by lia,by lia,by lia⟩
    .rw[if_neg hc];exact⟨zs.length,rfl,ql _,by lia⟩
   rw[em];exact gN (I _ _ ⟨g,ct,cm,rfl,p7,((Old.of (ao b4 _)).trans o6).trans o7⟩)
  rintro σ H6 ⟨g,ct,cm,rfl,p6,o6⟩;have cr:=cy o6;have cd:Old d lo W H6:=o5.trans o6;refine rO (λσ k=>∃(ln:Addr)(q:Nms),σ=[some (.ref d),some (.ref M.m),some (.int t),some (.ref l2),some (.ref G),some (.int (i:Nat)),some (.ref (M.ln i)),some (.ref D),some (.int (g:Nat)),some (.ref ln),ab,U]/\bh d lo k/\Old d lo W k/\W ln=none/\k ln=some (.lst (q.map mkT))/\q.length=g/\∀ x∈q,x∈ot) (λN I=>?_) ?_
  .refine⟨_,rfl,_,rfl,by lia,by lia,λln ah=>?_⟩;obtain⟨Z,X⟩:=p6.ne ah;have b0:ln≠D:=(aD cr ah).symm;have O:W ln=none:=by
    cases hh:W ln with
    | none=>rfl
    | some u=>rw[cd _ _ hh Z X] at ah;cases ah
   refine cA (J:=Itr 0 g) (l:=ln) g (λn σ' k=>∃(v:Option V)(q B:Nms),σ'=[some (.ref d),some (.ref D),v]/\k ln=some (.lst (q.map mkT))/\k D=some (.lst (B.map mkT))/\q.length=n/\zs.Perm (q++B)/\bh d lo k/\Old d lo W k)
    ⟨none,[],zs,rfl,ak,(aG b0.symm).trans cr,rfl,List.Perm.refl _,p6.new ah,cd.trans (.of (ao ah _))⟩ ?_ ?_
   .rintro σ' k ⟨v,q,B,rfl,b2,cv,b1,be,p7,o7⟩;exact⟨ql _,gN (I _ _ ⟨ln,q,rfl,p7,o7,O,b2,b1,λx hx=>ad x (be.mem_iff.mpr (Xx _ hx))⟩)⟩
   .rintro n σ' k hn ⟨v,q,B,rfl,b2,cv,b1,be,p7,o7⟩;have dy:q.length+B.length=zs.length:=by
     have:=be.length_eq;rw[Xr] at this;lia
    refine⟨hn,?_⟩;rintro N2 bd y c4 ⟨rfl,rfl⟩;refine gN (uH (lQ ?_));refine⟨_,rfl,_,rfl,d,lo,D,B,rfl,p7,cv,ci,cw,(λz=>by subst z;simp at dy;lia),by lia,λj hj H8 e8 p8 o8=>?_⟩;have ch:H8 ln=some (.lst (q.map mkT)):=o8 ln _ b2 Z X b0;refine⟨_,ch,?_,bd _ _ ⟨_,q++[B[j]],B.eraseIdx j,rfl,?_,(aG b0.symm).trans e8,by rw[Xr,b1];rfl,?_,p8.upd Z X,?_⟩⟩
    .rw[XF];exact aH (by lia)
    .rw[ak,map_append]
     rfl
    .refine be.trans ?_;rw[append_assoc];exact(jM hj).append_left q
    .intro c o e h1 h2;rw[aG (aD e O)];exact o8 c o (o7 c o e h1 h2) h1 h2 (λz=>by rw[z,af] at e;cases e)
  rintro σ H7 ⟨ln,q,rfl,p7,o7,O,e7,dw,ax⟩;obtain⟨Z,X⟩:=cF O;refine rO (λσ k=>∃ od:List Nat,od∈ot/\σ=[some (.ref d),some (.ref M.m),some (.int t),some (.ref l2),some (.ref G),some (.int (i:Nat)),some (.ref (M.ln i)),some (.ref D),some (.int (g:Nat)),some (.ref ln),some (mkT od),U]/\bh d lo k/\Old d lo H7 k) (λN I=>?_) ?_
  .have bP:=o7 _ _ a8 (iI p3 a8) a5;refine⟨_,rfl,_,rfl,_,rfl,l2,_,rfl,.inl (SqL.of bP),d,lo,_,rfl,p7,by rw[XF];lia,by rw[XF];lia,λr H8 r0 r1 p8 o8=>?_⟩;rw[XF] at r1;obtain⟨j,rfl⟩:=Int.eq_ofNat_of_zero_le r0;have hj:j<ot.length:=by lia
   have e8:=o8 _ _ bP (iI p7 bP) a5;refine(ixL (p:=l2) rfl rfl (SqL.of e8) (aZ (j:=j) (by rw[XC,bK hj];rfl)) (gN (I _ _ ⟨_,getElem_mem hj,rfl,p8,o8⟩)))
  rintro σ H8 ⟨od,dr,rfl,p8,o8⟩;have e8:=o8 _ _ e7 Z X;have di:=o7.trans o8;refine rO (λσ k=>∃ b:Bool,(q=[]->b=true)/\σ=[some (.ref d),some (.ref M.m),some (.int t),some (.ref l2),some (.ref G),some (.int (i:Nat)),some (.ref (M.ln i)),some (.ref D),some (.int (g:Nat)),some (.ref ln),some (mkT od),some (.bl b)]/\bh d lo k/\Old d lo W k/\k ln=some (.lst (q.map mkT))) (λN I=>?_) ?_
  .refine⟨_,rfl,smn 0,λle dN=>?_⟩;have s9:=ao dN (.lst []);have e9:(upd H8 le (.lst [])) le=some (.lst []):=ak;generalize upd H8 le (.lst [])=H9 at s9 e9 ⊢;have p9:=p8.same s9;have b5:Old d lo W H9:=di.trans (.of s9);refine⟨ln,le,_,rfl,rfl,s9 _ _ e8,e9,_,rfl,?_⟩;tm_at"d"
   .exact gN (I _ _ ⟨true,λ_=>rfl,rfl,p9,b5,s9 _ _ e8⟩)
   have bc:q≠[]:=λe=>z (by rw[e];rfl)
   refine⟨_,rfl,_,_,rfl,rfl,_,rfl,?_⟩;refine dO (λ_=>?_) (λ_=>?_)
   .refine⟨_,rfl,d,lo,10,rfl,p9,by decide,by decide,λr HA r0 r1 pA oA=>?_⟩;exact⟨rfl,gN (I _ _ ⟨_,λe=>absurd e bc,rfl,pA,b5.trans oA,oA _ _ (s9 _ _ e8) Z X⟩)⟩
   .exact gN (I _ _ ⟨false,λe=>absurd e bc,rfl,p9,b5,s9 _ _ e8⟩)
  rintro σ H9 ⟨b,hb,rfl,p9,o9,e9⟩;refine rO (λσ k=>∃ us:Nms,us≠[]/\us.length<=60/\(∀ x∈us,x∈ot)/\σ=[some (.ref d),some (.ref M.m),some (.int t),some (.ref l2),some (.ref G),some (.int (i:Nat)),some (.ref (M.ln i)),some (.ref D),some (.int (g:Nat)),some (.ref ln),some (mkT od),some (.bl b)]/\bh d lo k/\Old d lo W k/\k ln=some (.lst (us.map mkT))) (λN I=>?_) ?_
  .refine⟨_,rfl,_,rfl,?_⟩;refine dO (λzb=>?_) (λzb=>?_)
   .refine⟨_,rfl,_,rfl,ln,_,rfl,.inl (SqL.of e9),rfl,cR _,_,rfl,?_⟩;rw[show(if true=true then !inV (mkT od) (q.map mkT) else inV (mkT od) (q.map mkT))=!inV (mkT od) (q.map mkT) from rfl,gM];tm_at"d"
    .refine⟨_,rfl,.inl ⟨rfl,_,SqL.of e9⟩,_,rfl,ln,_,mkT od,rfl,rfl,e9,aH (by rw[XF];lia),I _ _ ⟨q++[od],by simp,by rw[Xr,dw];show g+1<=60;lia,λx hx=>?_,rfl,p9.upd Z X,λc o e h1 h2=>?_,?_⟩⟩
     .rcases mem_append.mp hx with h | h
      .exact ax x h
      .rw[mem_singleton.mp h];exact dr
     .rw[aG (aD e O)];exact o9 c o e h1 h2
     .rw[ak,map_append]
      rfl
    .have z:od∈q:=by simpa using z
     exact I _ _ ⟨q,List.ne_nil_of_mem z,by lia,ax,rfl,p9,o9,e9⟩
   .have bc:q≠[]:=λe=>zb (hb e)
    exact I _ _ ⟨q,bc,by lia,ax,rfl,p9,o9,e9⟩
  rintro σ HB ⟨us,c0,ds,co,rfl,pB,oB,eB⟩;have as:∀ {c:Addr}{vs:List V},W c=some (.tup vs)->HB c=some (.tup vs):=fun {c vs} hc=>by
   obtain⟨cs,a,b',c',f1,f2,_⟩:=p3;exact oB _ _ hc (λe=>by rw[e,f1] at hc;cases hc) (λe=>by rw[e,f2] at hc;cases hc)
  have c3:=oB _ _ S bq br;refine⟨_,rfl,.inl ⟨rfl,_,SqL.of c3⟩,_,rfl,ln,_,rfl,.inl ⟨SqL.of eB,λpt dp=>?_⟩⟩;have sC:=ao dp (.tup (us.map mkT));have eC:(upd HB pt (.tup (us.map mkT))) pt=some (.tup (us.map mkT)):=ak;generalize upd HB pt (.tup (us.map mkT))=HC at sC eC ⊢;have c1:=sC _ _ c3;refine⟨G,_,.ref pt,rfl,rfl,c1,aH (by rw[XF];lia),?_⟩;have cE:∀ {c:Addr}{vs:List V},HC c=some (.tup vs)->c≠G:=λhc e=>by
   rw[e,c1] at hc;cases hc
  have ar:∀ {c:Addr}{vs:List V},HC c=some (.tup vs)->(upd HC G (.lst (ps.map V.ref++[.ref pt]))) c=some (.tup vs):=λhc=>(aG (cE hc)).trans hc
  refine⟨_,_,_,_,_,_,_,ps++[pt],aa++[us],rfl,(pB.same sC).upd bq br,λc o e h1 h2=>?_,ar (sC _ _ (as e3)),by rw[ak,map_append];rfl,by rw[Xr,a9];rfl,by rw[Xr,bg];rfl,λj p ns hj hn=>?_⟩
  .rw[aG (aD e av)];exact sC _ _ (oB _ _ (o3 c o e h1 h2) h1 h2)
  .by_cases hji:j<i
   .rw[getElem?_append_left (by lia)] at hj hn;obtain⟨g1,g2⟩:=bb j p ns hj hn;exact⟨ar (sC _ _ (as g1)),g2⟩
   .have dv:j=i:=by
     have:=(pN.mp hj).1;rw[Xr,length_singleton] at this;lia
    subst dv;rw[getElem?_append_right (by lia),a9,Nat.sub_self] at hj;rw[getElem?_append_right (by lia),bg,Nat.sub_self] at hn;cases hj;cases hn;exact⟨ar eC,c0,ds,co⟩
 .rintro σ H3 ⟨v5,v6,v7,v8,v9,ab,U,ps,aa,rfl,p3,o3,e3,S,a9,bg,bb⟩;obtain⟨q0,q1,rfl⟩:∃ a b,ps=[a,b]:=by
   match ps,a9 with
   | [a,b],_=>exact⟨a,b,rfl⟩
  obtain⟨n0,n1,rfl⟩:∃ a b,aa=[a,b]:=by
   match aa,bg with
   | [a,b],_=>exact⟨a,b,rfl⟩
  obtain⟨h0,z0,m0,i0⟩:=bb 0 q0 n0 rfl rfl;obtain⟨h1,z1,m1,i1⟩:=bb 1 q1 n1 rfl rfl;have S:H3 G=some (.lst [.ref q0,.ref q1]):=S;have a1:=aZ (xs:=[V.ref q0,V.ref q1]) (j:=1) rfl;have a8:=o3 _ _ ba (iI hp ba) a5;refine⟨_,rfl,ixL (p:=G) rfl rfl (SqL.of S) (a1) (⟨ q1,rfl,⟨_,SqT.of h1⟩,λD Y=>?_⟩)⟩;refine cA (J:=Itt K0 q1) (l:=D) n1.length (λn σ' k=>∃ v:Option V,σ'=[some (.ref G),v]/\Same H3 k/\k D=some (.lst (((n1.take n).map λx=>decide (x∈n0)).map V.bl))) ⟨none,rfl,ao Y _,ak⟩ ?_ ?_
  rotate_left
  .rintro n σ' k hn ⟨v,rfl,s4,e4⟩;have T:(n1.map mkT)[n]?=some (mkT n1[n]):=by rw[XC,bK hn];rfl
   refine⟨⟨_,_,SqT.of (s4 _ _ h1),T⟩,?_⟩;rintro N I y c4 ⟨rfl,hy⟩;have ey:y=mkT n1[n]:=Xn ((hy _ (SqT.of (s4 _ _ h1))).symm.trans T);have ai:=take_one (bK hn);generalize n1[n]=x at ey ai;subst ey;refine gN (uH (lQ ⟨_,rfl,_,rfl,ixL (p:=G) rfl rfl (SqL.of (s4 _ _ S)) (bF _ _) (⟨ q0,_,rfl,.inr (SqT.of (s4 _ _ h0)),rfl,cR _,?_⟩)⟩));rw[show(if false=true then !inV (mkT x) (n0.map mkT) else inV (mkT x) (n0.map mkT))=inV (mkT x) (n0.map mkT) from rfl,gM];refine⟨_,e4,aH (by rw[XF,XF,length_take];lia),I _ _ ⟨_,rfl,bO s4 Y,?_⟩⟩;rw[ak,ai,map_append,map_append]
   rfl
  rintro σ' W ⟨v,rfl,s4,e4⟩;rw[take_length] at e4;refine⟨⟨_,SqT.of (s4 _ _ h1),by rw[XF];exact ql _⟩,D,_,rfl,SqL.of e4,_,rfl,?_⟩;have o4:Old d lo H W:=o3.trans (.of s4);refine dO (λ_=>?_) (λ_=>?_)
  .cases hoc:ot with
   | nil=>exact absurd hoc cT
   | cons x0 xr =>
    have dQ:(ot.map mkT)[0]?=some (mkT x0):=by rw[hoc];rfl
    refine⟨_,rfl,_,rfl,ixL (p:=l2) rfl rfl (SqL.of (s4 _ _ a8)) (aZ (j:=0) dQ) (⟨ smn 3,λpd aT=>?_⟩)⟩;exact k1 pd x0 _ (by rw[hoc];exact .head _) ak ((p3.same s4).same (ao aT _)) (o4.trans (.of (ao aT _)))
  .refine⟨_,rfl,_,rfl,ixL (p:=G) rfl rfl (SqL.of (s4 _ _ S)) (bF _ _) (⟨ _,rfl,ixL (p:=G) rfl rfl (SqL.of (s4 _ _ S)) (a1) (⟨ smn 4,λpd aT=>?_⟩)⟩)⟩;have s5:=ao aT (.tup [.str (Str.ofString "link"),.int t,.ref q0,.ref q1]);exact k2 pd q0 q1 n0 n1 _ ak (s5 _ _ (s4 _ _ h0)) (s5 _ _ (s4 _ _ h1)) z0 m0 m1 (λx hx=>(mem_append.mp hx).elim (i0 x) (i1 x)) ((p3.same s4).same s5) (o4.trans (.of s5))
def JB:Sp:=λa H Q _=>∃(d lo ls:Addr)(M:Md)(L R:List Prt)(ks:List Lnk)(al sp:Nms),a=[.ref d,.ref M.m,.ref ls]/\bh d lo H/\fH [d,lo] H M L R ks al/\H ls=some (.lst (sp.map mkT))/\ls≠lo/\sp≠[]/\sp.length<=100/\(L++R).length<=200 /\
 (∀(pd:Addr)(t:Int)(x:List Nat)(s:Sd)(H':Hp),x∈(L++R).map (·.1)++sp->H' pd=some (.tup [.str s.wd,.int t,mkT x])->0<=t->t<=1000000000000->bh d lo H'->Old d lo H H'->Q (.ref pd) H') /\
 ∀(pd p q:Addr)(t:Int)(xs ys:Nms)(H':Hp),H' pd=some (.tup [.str (Str.ofString "link"),.int t,.ref p,.ref q])->H' p=some (.tup (xs.map mkT))->H' q=some (.tup (ys.map mkT))->xs≠[]->xs.length<=60->ys.length<=60->(∀ x∈xs++ys,x∈(L++R).map (·.1)++sp)->0<=t->t<=1000000000000->bh d lo H'->Old d lo H H'->Q (.ref pd) H'
def Uh(xs:List V)(r:Nat):vZ xs none (some (r:Int))=xs.take r:=by
 rcases Nat.le_total r xs.length with h | h
 .exact Sh h
 .unfold vZ;rw[HT.wO,HT.sJ,Nat.min_eq_right h,take_of_length_le (show xs.length<=r from h)];simp
def xR{d lo l:Addr}{H H':Hp}{vs:List V}(hp:bh d lo H)(o:Old d lo H H')(h:H l=some (.lst vs))(n:l≠lo):H' l=some (.lst vs):=o _ _ h (iI hp h) n
def wOf:Option Sd->Str
 | none=>Str.ofString "link"
 | some s=>s.wd
def WL:List V:=[.str (Str.ofString "link"),.str (Str.ofString "link"),.str (Str.ofString "loose"),.str (Str.ofString "step"),.str (Str.ofString "alone"),.str (Str.ofString "lack")]
def Q6{j:Nat}(h:j<6):∃ w:Option Sd,atI WL (j:Nat)=some (.str (wOf w)):=by
 match j,h with
 | 0,_=>exact⟨none,bF _ _⟩
 | 1,_=>exact⟨none,aZ (xs:=WL) (j:=1) rfl⟩
 | 2,_=>exact⟨some .loose,aZ (xs:=WL) (j:=2) rfl⟩
 | 3,_=>exact⟨some .step,aZ (xs:=WL) (j:=3) rfl⟩
 | 4,_=>exact⟨some .alone,aZ (xs:=WL) (j:=4) rfl⟩
 | 5,_=>exact⟨some .lack,aZ (xs:=WL) (j:=5) rfl⟩
def whD:Sd->St3
 | .loose=>.linked
 | .step=>.linked
 | .alone=>.lacking
 | .lack=>.alone
def whK:List (Key × V):=[((Sum.inr "loose" : Key),.str (Str.ofString "linked")),((Sum.inr "step" : Key),.str (Str.ofString "linked")),((Sum.inr "alone" : Key),.str (Str.ofString "lacking")),((Sum.inr "lack" : Key),.str (Str.ofString "alone"))]
def wk1:(Sum.inr "loose" : Key)≠(Sum.inr "step" : Key):=by decide +kernel
def wk2:(Sum.inr "loose" : Key)≠(Sum.inr "alone" : Key):=by decide +kernel
def wk3:(Sum.inr "loose" : Key)≠(Sum.inr "lack" : Key):=by decide +kernel
def wk4:(Sum.inr "step" : Key)≠(Sum.inr "alone" : Key):=by decide +kernel
def wk5:(Sum.inr "step" : Key)≠(Sum.inr "lack" : Key):=by decide +kernel
def wk6:(Sum.inr "alone" : Key)≠(Sum.inr "lack" : Key):=by decide +kernel
def Oh(s:Sd):gQ whK (Sum.inr s.wd:Key)=some (.str (whD s).wd):=by
 cases s with
 | loose=>exact bD rfl
 | step=>exact(aV wk1).trans (bD rfl)
 | alone=>exact(aV wk2).trans ((aV wk4).trans (bD rfl))
 | lack=>exact(aV wk3).trans ((aV wk5).trans ((aV wk6).trans (bD rfl)))
def El:iB [] whK=whK:=by
 have d:Str.ofString "loose" ≠ Str.ofString "step":=by decide +kernel
 have f:Str.ofString "loose" ≠ Str.ofString "alone":=by decide +kernel
 have c:Str.ofString "loose" ≠ Str.ofString "lack":=by decide +kernel
 have a:Str.ofString "step" ≠ Str.ofString "alone":=by decide +kernel
 have b:Str.ofString "step" ≠ Str.ofString "lack":=by decide +kernel
 have e:Str.ofString "alone" ≠ Str.ofString "lack":=by decide +kernel
 unfold whK;simp[iB,putK,d,f,c,a,b,e,d.symm,f.symm,c.symm,a.symm,b.symm,e.symm]
def uO:aU ["_law_pot_here","_law_model_here","_law_spare","_law_word","_law_t","_law_others","_law_which"] ["_law_pot_here","_law_model_here","_law_spare"] (aC Ip):=⟨rfl,rfl,rfl,by decide +kernel,rfl,by decide +kernel,by decide +kernel⟩
def Qi(h:Has K mg "_law_deed" Ip ["_law_pot_here","_law_model_here","_law_spare"])(UJ:Cal P w K mg base "_law_next" 1 ["_law_pot_here","_law_many"] iD)(U0:Cal P w K mg base "_law_moments" 2 ["_law_pot_here","_law_many"] jJ)(Vy:Cal P w K mg base "_law_link_deed" 3 ["_law_pot_here","_law_model_here","_law_t","_law_others"] qm)(Wm:Cal P w K mg base "_law_pick" 2 ["_law_pot_here","_law_some_here","_law_others"] Jv)(Vb:Cal P w K mg base "_law_standing" 2 ["_law_model_here","_law_which"] kO):Cal P w K mg base "_law_deed" 4 ["_law_pot_here","_law_model_here","_law_spare"] JB:=by
 refine h.mk' uO (λvs H Q E hs=>?_) (λf b8 A outer s H vs Q E C hs=>?_)
 .obtain⟨d,lo,V,M,L,R,ks,al,sp,rfl,_⟩:=hs
  rfl
 obtain⟨d,lo,V,M,L,R,ks,al,sp,rfl,hp,hM,a2,a4,aw,be,e,k1,k2⟩:=hs;refine⟨_,(au (aL (i:=3) uO.nd rfl (Or.inl rfl) (bA bw (bI (aj aF (aj aF (aj aF (aj aF (aj aF (aj aF aq))))))) (aN UJ C (by decide) rfl (aj (pv 0) (aj aA aq))) (λ_ _=>rfl)))
  (au (aL (i:=4) uO.nd rfl (Or.inl rfl) (bA bG (aN U0 C (by decide) rfl (aj (pv 0) (aj aA aq))) aA (λ_ _=>rfl)))
  (au (aL (i:=5) uO.nd rfl (Or.inl rfl) (bB jw (bB jw (bA bw (bx (bZ C) (pv 1) aF (λ_ _=>rfl)) aA (λ_ _=>rfl)) (bA bw (bx (bZ C) (pv 1) aF (λ_ _=>rfl)) aA (λ_ _=>rfl))) (gD K9 (pv 2) jy (iu aA))))
  (au (cB (aQ gJ (pv 3) aF (bC _))
   (aB (aW (aN Vy C (by decide) rfl (aj (pv 0) (aj (pv 1) (aj (pv 4) (aj (pv 5) aq)))))))
   bf)
  (au (aL (i:=6) uO.nd rfl (Or.inl rfl) (xu (eV aF aF (eV aF aF (eV aF aF (eV aF aF vN)))) rfl rfl (by simp) (by decide +kernel)))
  (aB (aW (bQ (aj (pv 3) (aj (pv 4) (aj (aN Wm C (by decide) rfl (aj (pv 0) (aj (aN Vb C (by decide) rfl (aj (pv 1) (aj (bx (bZ C) (pv 6) (pv 3) (λ_ _=>rfl)) aq))) (aj (pv 5) aq)))) aq))))))))))),?_⟩
 refine rO (λσ H1=>∃ w:Option Sd,σ=[some (.ref d),some (.ref M.m),some (.ref V),some (.str (wOf w)),none,none,none]/\bh d lo H1/\Old d lo H H1) (λN T=>?_) ?_
 .refine⟨smn 6,λlw ae=>?_⟩;have s1:=ao ae (.lst WL);have e1:(upd H lw (.lst WL)) lw=some (.lst WL):=ak;have aE:lw≠lo:=(hp.ne ae).2;have p1:=hp.same s1;refine⟨_,rfl,d,lo,6,rfl,p1,by decide,by decide,λr I r0 r1 p2 D=>?_⟩;obtain⟨j,rfl⟩:=Int.eq_ofNat_of_zero_le r0;obtain⟨w',ax⟩:=Q6 (j:=j) (by lia);have e2:=xR p1 D e1 aE;exact(ixL (p:=lw) rfl rfl (SqL.of e2) (ax) (gN (T _ _ ⟨w',rfl,p2,(Old.of s1).trans D⟩)))
 rintro σ H1 ⟨w',rfl,p1,o1⟩;refine rO (λσ I=>∃ t:Int,0<=t/\t<=1000000000000/\σ=[some (.ref d),some (.ref M.m),some (.ref V),some (.str (wOf w')),some (.int t),none,none]/\bh d lo I/\Old d lo H I) (λN T=>?_) ?_
 .refine⟨_,rfl,d,lo,1,rfl,p1,by decide,λq ms I e2 g1 bb p2 D=>?_⟩;obtain⟨t,rfl⟩:∃ t,ms=[t]:=by
   match ms,bb with
   | [t],_=>exact⟨t,rfl⟩
  have ht:=g1.1 t (.head _);exact(ixT (p:=q) rfl rfl (SqT.of e2) (bF _ _) (gN (T _ _ ⟨t,ht.1,ht.2,rfl,p2,o1.trans D⟩)))
 rintro σ I ⟨t,S,O,rfl,p2,D⟩;have c:=hM.keep (.old D);have ad:=e;rw[Xr] at ad;have y:∀ Z:List Prt,(cg Z).length=Z.length:=λZ=>by unfold cg;rw[XF]
 refine rO (λσ G=>∃(J:Addr),σ=[some (.ref d),some (.ref M.m),some (.ref V),some (.str (wOf w')),some (.int t),some (.ref J),none]/\bh d lo G/\Old d lo H G/\J≠lo/\G J=some (.lst (((L++R).map (·.1)++sp.take 2).map mkT))) (λN T=>?_) ?_
 .refine⟨_,rfl,M.m,_,rfl,nR c.m,ixL (p:=M.lr) rfl rfl (SqL.of c.lr) (bF _ _) (⟨ _,rfl,M.m,_,rfl,nR c.m,ixL (p:=M.lr) rfl rfl (SqL.of c.lr) ((pG c (n:=1) (ql _)).1) (⟨ M.l0,M.l1,_,_,rfl,rfl,c.l0,c.l1,small (by rw[y,y];lia),λl3 bc=>?_⟩)⟩)⟩;have s3:=ao bc (.lst (cg L++cg R));have e3:(upd I l3 (.lst (cg L++cg R))) l3=some (.lst (cg L++cg R)):=ak;generalize upd I l3 (.lst (cg L++cg R))=G at s3 e3 ⊢;have ah:=s3 _ _ (xR hp D a2 a4);refine⟨_,rfl,_,rfl,V,_,rfl,SqL.of ah,λl4 a1=>?_⟩;rw[show(2:Int)=((2:Nat):Int) from rfl,Uh];have v:=ao a1 (.lst ((sp.map mkT).take 2));have B:(upd G l4 (.lst ((sp.map mkT).take 2))) l4=some (.lst ((sp.map mkT).take 2)):=ak;generalize upd G l4 (.lst ((sp.map mkT).take 2))=l at v B ⊢;refine⟨l3,l4,_,_,rfl,rfl,v _ _ e3,B,small (by rw[Xr,y,y,length_take];lia),λl5 ac=>?_⟩;have aI:cg L++cg R++(sp.map mkT).take 2=((L++R).map (·.1)++sp.take 2).map mkT:=by
   rw[mj,mj,map_append,map_append,map_append,List.map_take]
  rw[aI];have s5:=ao ac (.lst (((L++R).map (·.1)++sp.take 2).map mkT));have u:=(p2.same s3).same v;exact gN (T _ _ ⟨l5,rfl,u.same s5,D.trans (.of ((s3.trans v).trans s5)),(u.ne ac).2,ak⟩)
 rintro σ G ⟨J,rfl,p3,o3,X,e3⟩;have W:=hM.keep (.old o3);have ai:(L++R).map (·.1)++sp.take 2≠[]:=λz=>by
  have:=(List.append_eq_nil_iff.mp z).2;cases sp with
  | nil=>exact aw rfl
  | cons a b=>cases this
 have F:((L++R).map (·.1)++sp.take 2).length<=900:=by
  rw[Xr,XF,length_take];lia
 have g:∀ x∈(L++R).map (·.1)++sp.take 2,x∈(L++R).map (·.1)++sp:=λx U=>by
  rcases mem_append.mp U with h | h
  .exact Xx _ h
  .exact Xw _ (List.mem_of_mem_take h)
 cases w' with
 | none =>
  refine⟨_,rfl,rfl,_,rfl,?_⟩;refine dO (λ_=>?_) (λz=>absurd (XD rfl) z);refine⟨_,rfl,_,rfl,_,rfl,_,rfl,d,lo,J,M,L,R,ks,al,_,t,rfl,p3,W,e3,X,ai,F,e,λx U=>Xx _ U,λpd x l U B u o4=>?_,λpd p q xs ys l B f1 f2 g1 g2 g3 g4 u o4=>?_⟩
  .exact k1 pd t x .loose l (g x U) B S O u (o3.trans o4)
  .exact k2 pd p q t xs ys l B f1 f2 g1 g2 g3 (λx U=>g x (g4 x U)) S O u (o3.trans o4)
 | some sd =>
  refine⟨_,rfl,rfl,_,rfl,?_⟩;refine jl (fP (by cases sd <;> decide +kernel)) ?_;refine nxP (λσ l=>∃ pw:Addr,σ=[some (.ref d),some (.ref M.m),some (.ref V),some (.str sd.wd),some (.int t),some (.ref J),some (.ref pw)]/\Same G l/\l pw=some (.dK whK)) (λN T=>?_) ?_
  .refine λpw Y=>⟨ak,whK,rfl,by decide,gN ?_⟩
   rw[El];exact T _ _ ⟨pw,rfl,λa o ha=>(aG (aD ha Y)).trans (ao Y _ _ _ ha),ak⟩
  rintro σ l ⟨pw,rfl,v,B⟩;have aT:=W.same v;have u:=p3.same v;have hg:iH l pw (.str sd.wd) (some (.str (whD sd).wd)):=by
   have:=iH.k (k:=(Sum.inr sd.wd:Key)) B;rw[Oh] at this;exact this
  refine⟨_,rfl,_,rfl,_,rfl,_,rfl,_,rfl,_,rfl,pw,_,rfl,hg,[d,lo],M,L,R,ks,al,whD sd,rfl,aT,e,λl6 H6 s6 a8 e6=>?_⟩;have p6:=u.same s6;have a5:(((L++R).map (·.1)).filter λx=>stB ks al x (whD sd)).length<=900:=Xz (length_filter_le _ _) (by rw[XF];lia);refine⟨_,rfl,d,lo,l6,J,_,_,rfl,p6,e6,s6 _ _ (v _ _ e3),(u.ne a8).2,X,ai,a5,F,λz H7 hz p7 o7=>⟨smn 3,λpd az=>?_⟩⟩;have s8:=ao az (.tup [.str sd.wd,.int t,mkT z]);refine k1 pd t z sd _ ?_ ak S O (p7.same s8) ((o3.trans (.of (v.trans s6))).trans (o7.trans (.of s8)));rcases mem_append.mp hz with h | h
  .exact Xx _ (mem_filter.mp h).1
  .exact g z h
def nQ:bootBuiltins "ValueError" = some (.type "ValueError"):=by decide +kernel
def a7(a b c d e f g:Addr):Nat->Addr
 | 0=>a
 | 1=>b
 | 2=>c
 | 3=>d
 | 4=>e
 | 5=>f
 | _=>g
structure KB(K:W.Frag)(c te:Addr):Prop where
 ek:HJ K c
 un:W.subIn K (.ref c) (.ref te)=some true
 ii:W.isIn K (.ref c) c=true
 iv:W.subIn K (.ref c) (.type "ValueError")=some true
structure KC(K:W.Frag)(te:Addr)(A:Nat->Addr)(e:Nat):Prop where
 ek:HJ K (A e)
 un:W.subIn K (.ref (A e)) (.ref te)=some true
 ii:W.isIn K (.ref (A e)) (A e)=true
 iv:W.subIn K (.ref (A e)) (.type "ValueError")=some true
 no:∀ i,i<7->i≠e->W.kin_not K (A e) (A i)=true
def KC.isx{K:W.Frag}{te:Addr}{A:Nat->Addr}{e:Nat}(h:KC K te A e){i:Nat}(hi:i<7):IsX K (A e) (.ref (A i)) (decide (i=e)):=by
 by_cases z:i=e
 .rw[XD z,z];exact .inl ⟨_,rfl,.inl ⟨rfl,h.ii⟩⟩
 .rw[Xp z];exact .inl ⟨_,rfl,.inr ⟨rfl,h.ek,h.no i hi z⟩⟩
def mks(e:Nat):List V:=[.bl (decide (0=e)),.bl (decide (1=e)),.bl (decide (2=e)),.bl (decide (3=e)),.bl (decide (4=e)),.bl (decide (5=e)),.bl (decide (6=e))]
def wds:List V:=[.str "NoPart",.str "NoPlace",.str "Twice",.str "Linked",.str "Apart",.str "NoDeed",.str "NoText"]
def Qm{e:Nat}(h:e<=4):(mks e).all eX=true/\(mks e).countP (λz=>eqV z (.bl true))=1/\(mks e)[e]?=some (.bl true)/\(∀ i z,i<e->(mks e)[i]?=some z->eqV z (.bl true)=false)/\atI wds (e:Nat)=some (.str (wdE (some e))):=by
 have no:∀(e i:Nat)(z:V),e<=4->i<e->(mks e)[i]?=some z->eqV z (.bl true)=false:=λe i z he a hz=>by
  match e,i,he,a,hz with
  | 1,0,_,_,hz=>cases hz;rfl
  | 2,0,_,_,hz=>cases hz;rfl
  | 2,1,_,_,hz=>cases hz;rfl
  | 3,0,_,_,hz=>cases hz;rfl
  | 3,1,_,_,hz=>cases hz;rfl
  | 3,2,_,_,hz=>cases hz;rfl
  | 4,0,_,_,hz=>cases hz;rfl
  | 4,1,_,_,hz=>cases hz;rfl
  | 4,2,_,_,hz=>cases hz;rfl
  | 4,3,_,_,hz=>cases hz;rfl
 match e,h with
 | 0,_=>exact⟨rfl,rfl,rfl,λi z a hz=>no 0 i z (by decide) a hz,aZ (xs:=wds) (j:=0) rfl⟩
 | 1,_=>exact⟨rfl,rfl,rfl,λi z a hz=>no 1 i z (by decide) a hz,aZ (xs:=wds) (j:=1) rfl⟩
 | 2,_=>exact⟨rfl,rfl,rfl,λi z a hz=>no 2 i z (by decide) a hz,aZ (xs:=wds) (j:=2) rfl⟩
 | 3,_=>exact⟨rfl,rfl,rfl,λi z a hz=>no 3 i z (by decide) a hz,aZ (xs:=wds) (j:=3) rfl⟩
 | 4,_=>exact⟨rfl,rfl,rfl,λi z a hz=>no 4 i z (by decide) a hz,aZ (xs:=wds) (j:=4) rfl⟩
def BZ(K:W.Frag)(te:Addr)(A:Nat->Addr)(C:Nat->Addr):Sp:=λd H Q _=>∃(v:V)(pd:Addr)(o:Option Nat)(c:D->Prop),d=[v,.ref pd]/\(∀ e,o=some e->e<=4/\KC K te A e/\C e=A e) /\
 (∀ a b,(o=none->∀(u:V)(B:D)(H':Hp),Same H H'->Den H' u B->c B->a u H')->(∀ e,o=some e->cP (C e) H b)->uE C d H a b) /\
 (o=none->∀(t:Addr)(u:V)(B:D)(H':Hp),Same H H'->H' t=some (.tup [u,.str (wdE none)])->Den H' u B->c B->Q (.ref t) H')/\(∀ e,o=some e->∀(t:Addr)(H':Hp),Same H H'->H' t=some (.tup [.non,.str (wdE (some e))])->Q (.ref t) H')
section
variable {Us Uw Ur Uv Ut Uu Uy Uz:Addr}
def fZ:aU ["_law_book_here","_law_deed_here","_law_caught","_law_made","e","_law_words","_law_marks"] ["_law_book_here","_law_deed_here"] (aC yt):=⟨rfl,rfl,rfl,by decide +kernel,rfl,by decide +kernel,by decide +kernel⟩
def M7(h:Has K mg "_law_tried" yt ["_law_book_here","_law_deed_here"])(Vs:mg "TwainError" = some (.ref Uw))(x_TwainError:W.excIn K Uw vBm "ValueError.__new__" = true)(V7:mg "Twice" = some (.ref Uv))(Vj:mg "NoPlace" = some (.ref Ur))(Vm:mg "NoPart" = some (.ref Us))(Ve:mg "Apart" = some (.ref Uu))(U7:mg "Linked" = some (.ref Ut))(VL:mg "NoText" = some (.ref Uz))(VN:mg "NoDeed" = some (.ref Uy))(Wn:jj P w K mg base "done" 7 ["book","deed"] (uE (c5 Us Ur Uv Ut Uu)))(d:mg "isinstance" = none)(Vt:mg "ValueError" = none):Cal P w K mg base "_law_tried" 8 ["_law_book_here","_law_deed_here"] (BZ K Uw (a7 Us Ur Uv Ut Uu Uy Uz) (c5 Us Ur Uv Ut Uu)):=by
 refine h.mk' fZ (λvs H Q E hs=>?_) (λf bz A outer s H vs Q E hr hs=>?_)
 .obtain⟨v,pd,o,Bp,rfl,_⟩:=hs
  rfl
 obtain⟨v,pd,o,Bp,rfl,hc,Z,k1,k2⟩:=hs;refine⟨_,(au (aL (i:=2) fZ.nd rfl (Or.inl rfl) dF)
  (au (aL (i:=3) fZ.nd rfl (Or.inl rfl) dF)
  (au (Ej (i:=4) (λa0 R=>(aB (aL (i:=3) fZ.nd rfl (Or.inl rfl) (HS Wn hr (by decide) rfl (aj (pv 0) (aj (pv 1) aq)))))) (λe=>(aB (aL (i:=2) fZ.nd rfl (Or.inl rfl) (pv 4)))) rfl Vs x_TwainError fZ.nd rfl rfl rfl rfl)
  (au (cB (aQ qR (pv 2) dF (bC _))
   (aB (aW (bQ (aj (pv 3) (aj aF aq)))))
   bf)
  (au (aL (i:=5) fZ.nd rfl (Or.inl rfl) (bI (aj aF (aj aF (aj aF (aj aF (aj aF (aj aF (aj aF aq)))))))))
  (au (aL (i:=6) fZ.nd rfl (Or.inl rfl) (bI (aj (aR cD rfl d boot_isinstance (aj (pv 2) (aj (iW (v:=.ref Us) rfl Vm rfl) aq))) (aj (aR cD rfl d boot_isinstance (aj (pv 2) (aj (iW (v:=.ref Ur) rfl Vj rfl) aq))) (aj (aR cD rfl d boot_isinstance (aj (pv 2) (aj (iW (v:=.ref Uv) rfl V7 rfl) aq))) aq)))))
  (au (aL (i:=6) fZ.nd rfl (Or.inl rfl) (bB jw (pv 6) (bI (aj (aR cD rfl d boot_isinstance (aj (pv 2) (aj (iW (v:=.ref Ut) rfl U7 rfl) aq))) (aj (aR cD rfl d boot_isinstance (aj (pv 2) (aj (iW (v:=.ref Uu) rfl Ve rfl) aq))) aq)))))
  (au (aL (i:=6) fZ.nd rfl (Or.inl rfl) (bB jw (pv 6) (bI (aj (aR cD rfl d boot_isinstance (aj (pv 2) (aj (iW (v:=.ref Uy) rfl VN rfl) aq))) (aj (aR cD rfl d boot_isinstance (aj (pv 2) (aj (iW (v:=.ref Uz) rfl VL rfl) aq))) aq)))))
  (au (cB (PW.pt (vM (aQ Fp (dY PySem.F.plainAttrs_list PySem.F.slot_list_count PySem.F.type_list_count Em (pv 6) (aj zV aq)) aA (bC _)) (nG (uK (jr (aR cD rfl d boot_isinstance (aj (pv 2) (aj (nA (v:=.ty "ValueError") rfl Vt nQ rfl) aq))))))))
   (aB (aW (bQ (aj dF (aj aF aq)))))
   bf)
  (aB (aW (bQ (aj dF (aj (bA bw (pv 5) (dY PySem.F.plainAttrs_list PySem.F.slot_list_index PySem.F.type_list_index Dc (pv 6) (aj zV aq)) (λ_ _=>rfl)) aq)))))))))))))),?_⟩
 refine⟨_,rfl,_,rfl,Z _ _ (λG u B D s1 d1 hB=>?_) (λe G=>Ak λex T D s1 M hx=>?_)⟩
 .refine⟨_,rfl,rfl,_,rfl,lQ ⟨_,rfl,smn 2,λt ht=>?_⟩⟩;have s2:=ao ht (.tup [u,.str (wdE none)]);exact k1 G t u B _ (s1.trans s2) ak (d1.same s2) hB
 obtain⟨Y,c,S⟩:=hc e G;rw[S] at hx ⊢;refine⟨⟨_,rfl,c.un⟩,λb hT' hn=>?_⟩;have sx:Same H (xH D b ex (.ref (a7 Us Ur Uv Ut Uu Uy Uz e))):=wG s1 M hn;have ee:xH D b ex (.ref (a7 Us Ur Uv Ut Uu Uy Uz e)) ex=some (mZ (.ref (a7 Us Ur Uv Ut Uu Uy Uz e)) b ex):=ak;generalize xH D b ex (.ref (a7 Us Ur Uv Ut Uu Uy Uz e))=X at sx ee;refine⟨_,rfl,_,rfl,rfl,_,rfl,?_⟩;refine dO (λz=>by have:=Xv z;cases this) (λ_=>?_);refine⟨smn 7,λq U=>?_⟩;have L:=ao U (.lst wds);have ew:(upd X q (.lst wds)) q=some (.lst wds):=ak;have a:=L _ _ ee;generalize k:upd X q (.lst wds)=H3 at L ew a;have k:upd X q (.lst [.str "NoPart",.str "NoPlace",.str "Twice",.str "Linked",.str "Apart",.str "NoDeed",.str "NoText"])=H3:=k;rw[k];obtain⟨m1,m2,m3,m4,m5⟩:=Qm Y;refine⟨_,rfl,ex,b,_,_,_,rfl,a,c.isx (i:=0) (by lia),_,rfl,ex,b,_,_,_,rfl,a,c.isx (i:=1) (by lia),_,rfl,ex,b,_,_,_,rfl,a,c.isx (i:=2) (by lia),smn 3,λJ ai=>?_⟩;have V:=ao ai (.lst [.bl (decide (0=e)),.bl (decide (1=e)),.bl (decide (2=e))]);have e1:(upd H3 J (.lst [.bl (decide (0=e)),.bl (decide (1=e)),.bl (decide (2=e))])) J=some (.lst [.bl (decide (0=e)),.bl (decide (1=e)),.bl (decide (2=e))]):=ak;generalize upd H3 J (.lst [.bl (decide (0=e)),.bl (decide (1=e)),.bl (decide (2=e))])=H4 at V e1 ⊢;have l:=V _ _ a;refine⟨_,rfl,_,rfl,ex,b,_,_,_,rfl,l,c.isx (i:=3) (by lia),_,rfl,ex,b,_,_,_,rfl,l,c.isx (i:=4) (by lia),smn 2,λx ac=>?_⟩;have C:=ao ac (.lst [.bl (decide (3=e)),.bl (decide (4=e))]);have e2:(upd H4 x (.lst [.bl (decide (3=e)),.bl (decide (4=e))])) x=some (.lst [.bl (decide (3=e)),.bl (decide (4=e))]):=ak;generalize upd H4 x (.lst [.bl (decide (3=e)),.bl (decide (4=e))])=H5 at C e2 ⊢;refine⟨J,x,_,_,rfl,rfl,C _ _ e1,e2,smn 5,λI an=>?_⟩;have w3:=ao an (.lst ([.bl (decide (0=e)),.bl (decide (1=e)),.bl (decide (2=e))]++[.bl (decide (3=e)),.bl (decide (4=e))]));have e3:(upd H5 I (.lst ([.bl (decide (0=e)),.bl (decide (1=e)),.bl (decide (2=e))]++[.bl (decide (3=e)),.bl (decide (4=e))]))) I=some (.lst ([.bl (decide (0=e)),.bl (decide (1=e)),.bl (decide (2=e))]++[.bl (decide (3=e)),.bl (decide (4=e))])):=ak;generalize upd H5 I (.lst ([.bl (decide (0=e)),.bl (decide (1=e)),.bl (decide (2=e))]++[.bl (decide (3=e)),.bl (decide (4=e))]))=H6 at w3 e3 ⊢;have r:=w3 _ _ (C _ _ l);refine⟨_,rfl,_,rfl,ex,b,_,_,_,rfl,r,c.isx (i:=5) (by lia),_,rfl,ex,b,_,_,_,rfl,r,c.isx (i:=6) (by lia),smn 2,λy O=>?_⟩;have N:=ao O (.lst [.bl (decide (5=e)),.bl (decide (6=e))]);have e4:(upd H6 y (.lst [.bl (decide (5=e)),.bl (decide (6=e))])) y=some (.lst [.bl (decide (5=e)),.bl (decide (6=e))]):=ak;generalize upd H6 y (.lst [.bl (decide (5=e)),.bl (decide (6=e))])=H7 at N e4 ⊢;refine⟨I,y,_,_,rfl,rfl,N _ _ e3,e4,smn 7,λm ab=>?_⟩;have w5:=ao ab (.lst (mks e));have n:(upd H7 m (.lst (mks e))) m=some (.lst (mks e)):=ak;generalize j:upd H7 m (.lst (mks e))=H8 at w5 n;have j:upd H7 m (.lst (([.bl (decide (0=e)),.bl (decide (1=e)),.bl (decide (2=e))]++[.bl (decide (3=e)),.bl (decide (4=e))])++[.bl (decide (5=e)),.bl (decide (6=e))]))=H8:=j;rw[j];have g:=V.trans (C.trans (w3.trans (N.trans w5)));have ae:=g _ _ a;have ah:=g _ _ ew;refine⟨_,rfl,.inl ⟨rfl,_,SqL.of n⟩,m,_,.bl true,rfl,rfl,n,rfl,m1,?_⟩;rw[m2];refine⟨rfl,_,rfl,?_⟩;refine dO (λz=>absurd z (by decide)) (λ_=>?_);refine⟨_,rfl,ex,b,_,_,_,rfl,ae,.inr ⟨_,rfl,rfl,by kernel_rfl,c.iv⟩,_,rfl,?_⟩;refine dO (λz=>absurd z (by decide)) (λ_=>?_);refine⟨_,rfl,_,rfl,.inl ⟨rfl,_,SqL.of n⟩,m,_,.bl true,.bl true,e,rfl,rfl,n,rfl,m1,m3,rfl,m4,ixL (p:=q) rfl rfl (SqL.of ah) (m5) (⟨ smn 2,λt ht=>?_⟩)⟩;have s9:=ao ht (.tup [.non,.str (wdE (some e))]);exact k2 e G t _ ((sx.trans (L.trans g)).trans s9) ak
end
def Pl:Nat->D->Prop
 | _,.int _=>True
 | _,.str _=>True
 | n+1,.tup a=>a.length<=1000/\∀ d∈a,Pl n d
 | _,_=>False
theorem Ed:∀ n:Nat,(List.replicate n true).all id=true
 | 0=>rfl
 | n+1=>by rw[replicate_succ,all_cons,Ed n];rfl
def CQ:Nat->Sp
 | 0=>λ_ _ _ _=>False
 | n+1=>λb H Q _=>∃(v:V)(d:D),b=[v]/\Den H v d/\Pl n d/\∀ a,Same H a->Q (.bl true) a
def M8:aU ["_law_thing"] ["_law_thing"] (aC uZ):=⟨rfl,rfl,rfl,by decide +kernel,rfl,by decide +kernel,by decide +kernel⟩
theorem Fb(h:Has K mg "_law_kinds" uZ ["_law_thing"])(j:mg "isinstance" = none)(Y:mg "tuple" = none)(O:mg "all" = none)(U:mg "bool" = none)(S:mg "int" = none)(L:mg "str" = none) :
  ∀ n:Nat,Cal P w K mg base "_law_kinds" n ["_law_thing"] (CQ n)
 | 0=>h.never λ_ _ _ _ z=>z
 | n+1=>by
  have Vz:=Fb h j Y O U S L n;refine h.mk' M8 (λt H Q E a=>?_) (λf ag A outer s H t Q E hr a=>?_)
  .obtain⟨v,d,rfl,_⟩:=a
   rfl
  obtain⟨v,d,rfl,F,c,k⟩:=a;refine⟨_,(au (cB (jr (aR gK rfl j boot_isinstance (aj (pv 0) (aj (nA (v:=.ty "tuple") rfl Y boot_tuple rfl) aq))))
   (aB (aW (aR (vo rfl) rfl O boot_all (aj (cH ["_law_thing"] (aC uZ) ["_law_one"] [none] rfl rfl rfl (cJ (pv 0)) rfl (by decide +kernel) (by decide +kernel) (by decide +kernel) (by decide +kernel) (hg:=λcl C s H ex pn E=>(aK (i:=0) (by decide +kernel:(["_law_one"]:List Str).Nodup) rfl (Or.inl rfl))) (ht:=λcl C s H ex pn E=>cu) (he:=λcl C s H ex pn E=>(aN Vz hr (ql _) rfl (aj (pv 0) aq)))) aq))))
   bf)
  (aB (aW (Np (aR gK rfl j boot_isinstance (aj (pv 0) (aj (nA (v:=.ty "str") rfl L boot_str rfl) aq))) (uR (Bd (aR gK rfl j boot_isinstance (aj (pv 0) (aj (nA (v:=.ty "int") rfl S boot_int rfl) aq))) (uR (QD (aR gK rfl j boot_isinstance (aj (pv 0) (aj (nA (v:=.ty "bool") rfl U boot_bool rfl) aq))))))))))),?_⟩
  cases d with
  | non=>cases n <;> exact c.elim
  | bl b=>cases n <;> exact c.elim
  | int i =>
   have o:v=.int i:=F;subst o;refine⟨_,rfl,_,_,_,false,rfl,.int _,rW K,_,rfl,Gw ?_⟩;refine⟨_,rfl,_,_,_,false,rfl,.int _,wR K,?_⟩;refine⟨_,rfl,Gw ⟨_,rfl,_,_,_,true,rfl,.int _,xK K,_,rfl,lQ ⟨_,rfl,_,_,_,false,rfl,.int _,tR K,?_⟩⟩⟩;exact⟨_,rfl,k H (Same.refl _)⟩
  | str x =>
   have o:v=.str x:=F;subst o;refine⟨_,rfl,_,_,_,false,rfl,.str _,rK K,_,rfl,Gw ?_⟩;refine⟨_,rfl,_,_,_,true,rfl,.str _,xQ K,?_⟩;exact⟨_,rfl,lQ (k H (Same.refl _))⟩
  | tup R =>
   obtain⟨p,t,rfl,r,u⟩:=aO F;cases n with
   | zero=>exact c.elim
   | succ m =>
   obtain⟨M,B⟩:=c;have l1:=u.len;refine⟨_,rfl,_,_,_,true,rfl,.tup r,pJ K,_,rfl,lQ ?_⟩;refine⟨_,rfl,p,rfl,⟨_,SqT.of r⟩,λl X=>?_⟩;refine cA (J:=Itt K0 p) (l:=l) R.length (λi D q=>∃ G:Option V,D=[G]/\Same H q/\q l=some (.lst ((List.replicate i true).map V.bl))) ⟨none,rfl,ao X _,ak⟩ ?_ ?_
   .rintro D q ⟨G,rfl,a,e⟩;refine⟨⟨_,SqT.of (a _ _ r),by rw[l1];exact ql _⟩,l,List.replicate R.length true,rfl,SqL.of e,?_⟩;rw[Ed];exact k q a
   .rintro i D q hi ⟨G,rfl,a,e⟩;have g:t[i]?=some t[i]:=n6 (by lia);refine⟨⟨_,_,SqT.of (a _ _ r),g⟩,?_⟩;rintro N hN y ah ⟨rfl,h1⟩;have o:y=t[i]:=Xn ((h1 _ (SqT.of (a _ _ r))).symm.trans g);obtain⟨W,g1,T⟩:=u.at_ g;rw[← o] at T;refine gN (uH (lQ ⟨_,rfl,_,W,rfl,T.same a,B W (Xu g1),λH3 Z=>?_⟩));have I:=Z _ _ e;refine⟨_,I,by rw[XF,length_replicate];exact aH (by lia),hN _ _ ⟨_,rfl,bO (a.trans Z) X,?_⟩⟩;rw[ak,List.replicate_succ',map_append]
    rfl
def Bl.keepL{T:List Addr}{H H':Hp}{v:V}{k:Lnk}(h:Bl T H v k)(s:∀(a:Addr)(vs:List V),H a=some (.lst vs)->a ∉ T->H' a=some (.lst vs)):Bl T H' v k:=by
 obtain⟨q,a,b,c,d,e,g,l,i,j,f,m,n,o,p,r⟩:=h.ex;exact⟨q,a,b,c,d,e,g,l,i,j,f,s _ _ m g,s _ _ n l,s _ _ o i,s _ _ p j,s _ _ r f⟩
def But(a:Addr)(H H':Hp):Prop:=∀ c o,H c=some o->c≠a->H' c=some o
def But.keep{a:Addr}{S:List Addr}{H H':Hp}(h:But a H H'):Keep (a::S) H H':=λc o e n=>h c o e λz=>n (by rw[z];exact .head _)
def But.tup{a:Addr}{H H':Hp}{us:List V}(h:But a H H')(ha:H a=some (.lst us)):∀(b:Addr)(c:List V),H b=some (.tup c)->H' b=some (.tup c):=λb c e=>h b _ e (mH e ha (by intro z;cases z))
def But.trans{a:Addr}{H H1 H2:Hp}(h:But a H H1)(g:But a H1 H2):But a H H2:=λc o e n=>g c o (h c o e n) n
def But.of{a:Addr}{H H':Hp}(s:Same H H'):But a H H':=λc o e _=>s c o e
def But.upd{a:Addr}{H:Hp}(o:HO):But a H (upd H a o):=λc u e n=>by rw[aG n];exact e
def But.same{a:Addr}{H0 H H':Hp}(s:Same H0 H)(ha:H0 a=none)(h:But a H H'):Same H0 H':=λc o e=>h c o (s c o e) (aD e ha)
def zu{κ:Type}[DecidableEq κ](kvs:List (κ × V))(k:κ)(v:V):(putK kvs k v).length<=kvs.length+1:=by
 unfold putK;split
 .rw[XF];lia
 .rw[Xr];exact ql _
structure WhN(S T:List Addr)(H:Hp)(dw:Addr)(W:List Addr)(P:List Prt):Prop where
 w:RD H dw W 60 P
 nd:W.Nodup
 fr:∀ a∈W,a ∉ S/\a ∉ T
def RD.row{H:Hp}{dw:Addr}{W:List Addr}{B:Nat}{P:List Prt}(h:RD H dw W B P){a:Addr}(ha:a∈W):∃ k,H a=some (.lst k):=by
 obtain⟨p,e,m,j,f⟩:=h.ex;obtain⟨i,d⟩:=mem_iff_getElem?.mp ha;have b:i<P.length:=by rw[← j];exact(pN.mp d).1
 obtain⟨l,o,c,n,g,_⟩:=f i _ (bK b);rw[d] at c;exact⟨_,by rw[Xn c];exact g⟩
def Dg:Sp:=λc H Q _=>∃(S:List Addr)(v:V)(L R:List Prt)(ks:List Lnk)(al:Nms),c=[v]/\Den H v (fG L R ks al)/\(∀ a∈S,∃ o,H a=some o)/\L.length<=60/\R.length<=60/\ks.length<=900/\((L++R).map (·.1)).Nodup/\(∀ p∈L++R,p.2.2.length<=60) /\
 ∀(M:Md)(H':Hp),Same H H'->M.b=60->fH S H' M L R ks al->Q (.ref M.m) H'
def md0(dt dw:Addr):List (Key × V):=[(Sum.inr "text",.ref dt),(Sum.inr "when",.ref dw)]
def md1(dt dw lr:Addr):List (Key × V):=[(Sum.inr "text",.ref dt),(Sum.inr "when",.ref dw),(Sum.inr "rows",.ref lr)]
def R5:Str.ofString "when" ≠ Str.ofString "text":=by decide +kernel
def Gz(dt dw:Addr):iB [] (md0 dt dw)=md0 dt dw:=by
 unfold md0;simp[iB,putK,R5,Ne.symm R5]
def xM{kvs:List (Key × V)}{k:Key}{v:V}(h:∀ a∈kvs,a.1≠k):putK kvs k v=kvs++[(k,v)]:=by
 unfold putK;rw[if_neg];intro z;rw[any_eq_true] at z;obtain⟨a,c,b⟩:=z;exact h a c (Xv b)
def LR(dt dw lr:Addr):gQ (md1 dt dw lr) (Sum.inr "text" : Key)=some (V.ref dt):=bD rfl
def Mi(dt dw lr:Addr):gQ (md1 dt dw lr) (Sum.inr "when" : Key)=some (V.ref dw):=(aV mk1).trans (bD rfl)
def Ln{H:Hp}{m dt dw lr:Addr}(h:H m=some (.dK (md1 dt dw lr))):iH H m (.str "text") (some (.ref dt)):=by
 rw[← LR dt dw lr];exact iH.k (k:=(Sum.inr _:Key)) h
def M4{H:Hp}{m dt dw lr:Addr}(h:H m=some (.dK (md1 dt dw lr))):iH H m (.str "when") (some (.ref dw)):=by
 rw[← Mi dt dw lr];exact iH.k (k:=(Sum.inr _:Key)) h
def md2(dt dw lr lk:Addr):List (Key × V):=[(Sum.inr "text",.ref dt),(Sum.inr "when",.ref dw),(Sum.inr "rows",.ref lr),(Sum.inr "links",.ref lk)]
def Es(dt dw lr lk:Addr):putK (md1 dt dw lr) (Sum.inr "links" : Key) (.ref lk)=md2 dt dw lr lk:=by
 rw[xM]
 .rfl
 .intro a h;unfold md1 at h;simp only[mem_cons,not_mem_nil,or_false] at h;rcases h with rfl | rfl | rfl
  .exact mk3
  .exact mk6
  .exact mk8
def CP(M:Md):putK (md2 M.dt M.dw M.lr M.lk) (Sum.inr "alone" : Key) (.ref M.la)=mdK M:=by
 rw[xM]
 .rfl
 .intro a h;unfold md2 at h;simp only[mem_cons,not_mem_nil,or_false] at h;rcases h with rfl | rfl | rfl | rfl
  .exact mk4
  .exact mk7
  .exact mk9
  .exact mk0
def Hi(dt dw lr lk:Addr):gQ (md2 dt dw lr lk) (Sum.inr "links" : Key)=some (V.ref lk):=(aV mk3).trans ((aV mk6).trans ((aV mk8).trans (bD rfl)))
def Ht{H:Hp}{m dt dw lr lk:Addr}(h:H m=some (.dK (md2 dt dw lr lk))):iH H m (.str "links") (some (.ref lk)):=by
 rw[← Hi dt dw lr lk];exact iH.k (k:=(Sum.inr _:Key)) h
def Nf(k:Lnk):Nat->List Int
 | 0=>k.2.2.2.1
 | _=>k.2.2.2.2
structure MdN(H0:Hp)(H:Hp)(m dt dw lr l0 l1:Addr)(L R:List Prt):Prop where
 er:H lr=some (.lst [.ref l0,.ref l1])
 e0:H l0=some (.lst (cg L))
 e1:H l1=some (.lst (cg R))
 nd:[m,dt,dw,lr,l0,l1].Nodup
 fr:∀ a∈[m,dt,dw,lr,l0,l1],H0 a=none
def MdN.keep{H0 H H':Hp}{m dt dw lr l0 l1:Addr}{L R:List Prt}(h:MdN H0 H m dt dw lr l0 l1 L R)(k:∀(a:Addr)(vs:List V),H a=some (.lst vs)->H' a=some (.lst vs)):MdN H0 H' m dt dw lr l0 l1 L R:=⟨k _ _ h.er,k _ _ h.e0,k _ _ h.e1,h.nd,h.fr⟩
def iC:aU ["_law_book_here","_law_model_here","_law_part","_law_ones","_law_others","_law_told","_law_lost","_law_link_here"] ["_law_book_here"] (aC qC):=⟨rfl,rfl,rfl,by decide +kernel,rfl,by decide +kernel,by decide +kernel⟩
def Ms(h:Has K mg "_law_model" qC ["_law_book_here"])(Vk:mg "list" = none):Cal P w K mg base "_law_model" 1 ["_law_book_here"] Dg:=by
 refine h.mk' iC (λT H Q E hs=>?_) (λf iA A outer s H T Q E O hs=>?_)
 .obtain⟨S,v,L,R,ks,al,rfl,_⟩:=hs
  rfl
 obtain⟨S,v,L,R,ks,al,rfl,hv,hS,hL,hR,hK,gd,gh,k⟩:=hs;refine qex ⟨_,(gH (JC (i:=1) iC.nd rfl (Or.inl rfl) (Mp (yc JM ⟨yU⟩ (yc JM ⟨yU⟩ Kw)) rfl rfl (by simp) (by decide)))
  (gH ⟨(fW (bZ O) (pv 1) aF (cH ["_law_book_here","_law_model_here","_law_part","_law_ones","_law_others","_law_told","_law_lost","_law_link_here"] (aC qC) ["_law_side_here"] [none] rfl rfl rfl (cJ (gD xJ (pv 0) jy (iu aA))) rfl (by decide +kernel) (by decide +kernel) (by decide +kernel) (by decide +kernel) (hg:=λcl C s H ex pn E=>(aK (i:=0) (by decide +kernel:(["_law_side_here"]:List Str).Nodup) rfl (Or.inl rfl))) (ht:=λcl C s H ex pn E=>cu) (he:=λcl C s H ex pn E=>(cH ["_law_side_here"] _ ["_law_part"] [none] rfl rfl rfl (cJ (pv 0)) rfl (by decide +kernel) (by decide +kernel) (J1 (by decide +kernel)) (by decide +kernel) (hg:=λcl C s H ex pn E=>(aK (i:=0) (by decide +kernel:(["_law_part"]:List Str).Nodup) rfl (Or.inl rfl))) (ht:=λcl C s H ex pn E=>cu) (he:=λcl C s H ex pn E=>(bA (bG) (pv 0) aA (λ_ _=>rfl)))))) rfl)⟩
  (gH ⟨(dJ PassesOwn.never rfl (cJ (bB gF (bA bG (pv 0) aA (λ_ _=>rfl)) (bA bG (pv 0) aA (λ_ _=>rfl)))) (aK (i:=2) iC.nd rfl (Or.inl rfl))
   (au (fW (bZ O) (bx (bZ O) (pv 1) aF (λ_ _=>rfl)) (bA bG (pv 2) aA (λ_ _=>rfl)) (bA bG (pv 2) aA (λ_ _=>rfl)) rfl)
  (aB (fW (bZ O) (bx (bZ O) (pv 1) aF (λ_ _=>rfl)) (bA bG (pv 2) aA (λ_ _=>rfl)) (aP cO rfl Vk boot_list (aj (bA bG (pv 2) aA (λ_ _=>rfl)) aq)) rfl))))⟩
  (gH ⟨(fW (bZ O) (pv 1) aF (bI aq) rfl)⟩
  (gH ⟨(dJ PassesOwn.never rfl (cJ (bA bG (pv 0) aA (λ_ _=>rfl))) (lA (n:=4) rfl (bH (aK (i:=3) iC.nd rfl (Or.inl rfl)) (bH (aK (i:=4) iC.nd rfl (Or.inl rfl)) (bH (aK (i:=5) iC.nd rfl (Or.inl rfl)) (bH (aK (i:=6) iC.nd rfl (Or.inl rfl)) jC)))))
   (au (aL (i:=7) iC.nd rfl (Or.inl rfl) (bI (aj (aP cO rfl Vk boot_list (aj (pv 3) aq)) (aj (aP cO rfl Vk boot_list (aj (pv 4) aq)) (aj (pv 5) aq)))))
  (aB (cN (dY PySem.F.plainAttrs_list PySem.F.slot_list_append PySem.F.type_list_append bJ (bx (bZ O) (pv 1) aF (λ_ _=>rfl)) (aj (bB jw (pv 7) (cH ["_law_book_here","_law_model_here","_law_part","_law_ones","_law_others","_law_told","_law_lost","_law_link_here"] (aC qC) ["_law_one"] [none] rfl rfl rfl (cJ (pv 6)) rfl (by decide +kernel) (by decide +kernel) (by decide +kernel) (by decide +kernel) (hg:=λcl C s H ex pn E=>(aK (i:=0) (by decide +kernel:(["_law_one"]:List Str).Nodup) rfl (Or.inl rfl))) (ht:=λcl C s H ex pn E=>cu) (he:=λcl C s H ex pn E=>(aP (sI (K:=K) rfl) rfl Vk boot_list (aj (pv 0) aq))))) aq))))))⟩
  (gH ⟨(fW (bZ O) (pv 1) aF (aP cO rfl Vk boot_list (aj (bA bG (pv 0) aA (λ_ _=>rfl)) aq)) rfl)⟩
  (Kr ⟨(aW (pv 1))⟩))))))),?_⟩
 obtain⟨p,pl,pr,pk,pa,ls,rs,us,rfl,a1,a2,a3,a4,a5,a6,a7,a8⟩:=jR hv;have el:=a3.len;have eS:=a5.len;have eC:=a7.len;rw[XF] at el eS eC;have at_:∀ {j:Nat}{y:V},[V.ref pl,.ref pr,.ref pk,.ref pa][j]?=some y->atI [V.ref pl,.ref pr,.ref pk,.ref pa] (j:Nat)=some y:=λh=>aZ h
 refine rO (λσ t=>∃(m dt dw:Addr),σ=[some (.ref p),some (.ref m),none,none,none,none,none,none]/\Same H t/\t m=some (.dK (md0 dt dw))/\t dt=some (.dK [])/\t dw=some (.dK [])/\[m,dt,dw].Nodup/\∀ a∈[m,dt,dw],H a=none) (λN hN=>?_) ?_
 .intro m hm;intro dt c8;intro dw cf;have n1:m≠dt:=aD ak c8;have s2:=ao c8 (.dK []);have n2:m≠dw:=aD (s2 _ _ ak) cf;have n3:dt≠dw:=aD ak cf;have Y:=(ao hm (.dK [])).trans (s2.trans (ao cf (.dK [])));have em:(upd (upd (upd H m (.dK [])) dt (.dK [])) dw (.dK [])) m=some (.dK []):=by rw[aG n2,aG n1];exact ak
  have et:(upd (upd (upd H m (.dK [])) dt (.dK [])) dw (.dK [])) dt=some (.dK []):=by rw[aG n3];exact ak
  have ew:(upd (upd (upd H m (.dK [])) dt (.dK [])) dw (.dK [])) dw=some (.dK []):=ak;have f2:H dt=none:=(ao hm (.dK [])).free c8;have f3:H dw=none:=((ao hm (.dK [])).trans s2).free cf;generalize upd (upd (upd H m (.dK [])) dt (.dK [])) dw (.dK [])=H1 at Y em et ew ⊢;refine⟨em,md0 dt dw,rfl,(by show 2<=15;decide),hN _ _ ⟨m,dt,dw,rfl,?_,?_,by rw[aG (Ne.symm n1)];exact et,by rw[aG (Ne.symm n2)];exact ew,?_,?_⟩⟩
  .exact λc o e=>by rw[aG (aD e hm)];exact Y c o e
  .rw[ak,Gz]
  .simp[n1,n2,n3]
  .intro a ha;simp only[mem_cons,not_mem_nil,or_false] at ha;rcases ha with rfl | rfl | rfl
   .exact hm
   .exact f2
   .exact f3
 rintro σ H1 ⟨m,dt,dw,rfl,s1,em,et,ew,ad,b8⟩;refine rO (λσ t=>∃(lr I M:Addr),σ=[some (.ref p),some (.ref m),none,none,none,none,none,none]/\Same H t/\t m=some (.dK (md1 dt dw lr))/\t dt=some (.dK [])/\t dw=some (.dK [])/\MdN H t m dt dw lr I M L R) (λN hN=>?_) ?_
 .refine⟨_,rfl,_,rfl,p,_,rfl,s1 _ _ a1,λq2 H2 s2 e2=>?_⟩;have e2:H2 q2=some (.tup [.ref pl,.ref pr]):=e2;have b2:=s1.trans s2;refine⟨q2,rfl,⟨_,SqT.of e2⟩,λlr b9=>?_⟩;have eW:∀ {a:Addr}{o:HO},H2 a=some o->a≠lr:=λe=>aD e b9
  refine cA (J:=Itt K0 q2) (l:=lr) 2 (λi σ' t=>∃(v0:Option V)(as:List Addr),σ'=[v0]/\Same H2 t/\t lr=some (.lst (as.map V.ref))/\as.length=i/\as.Nodup/\(∀ a∈as,H2 a=none/\a≠lr)/\∀(j:Nat)(a:Addr),as[j]?=some a->t a=some (.lst (cg (sdP j L R)))) ⟨none,[],rfl,ao b9 _,ak,rfl,.nil,(λa h=>nomatch h),λj a h=>nomatch h⟩ ?_ ?_
  rotate_left
  .rintro i σ' H3 hi ⟨v0,as,rfl,Y,e3,ba,bg,X,D⟩;obtain⟨iO,pq,bu,bX,cy,e9⟩:i<=1/\∃(pq:Addr)(bu:List V),[V.ref pl,V.ref pr][i]?=some (.ref pq)/\H pq=some (.tup bu)/\bW H bu ((sdP i L R).map bN):=by
    match i,hi with
    | 0,_=>exact⟨by lia,pl,ls,rfl,a2,a3⟩
    | 1,_=>exact⟨by lia,pr,rs,rfl,a4,a5⟩
   refine⟨⟨_,_,SqT.of (Y _ _ e2),bX⟩,?_⟩;rintro N2 be y H4 ⟨rfl,hy⟩;have ey:y=.ref pq:=Xn ((hy _ (SqT.of (Y _ _ e2))).symm.trans bX);subst ey;have cm:=b2.trans Y;have bi:=cm _ _ cy;have eL:=e9.len;rw[XF] at eL;refine gN (uH (lQ ⟨_,rfl,pq,rfl,⟨_,SqT.of bi⟩,λli aa=>?_⟩));have cc:li≠lr:=(aD e3 aa).symm;have fh:H2 li=none:=Y.free aa;have fg:li ∉ as:=λz=>by
    obtain⟨j,hj⟩:=mem_iff_getElem?.mp z;rw[D j li hj] at aa;cases aa
   refine cA (J:=Itt K0 pq) (l:=li) bu.length (λz dr fa=>∃ v:Option V,dr=[v]/\Same H4 fa/\fa li=some (.lst (cg ((sdP i L R).take z)))) ⟨none,rfl,ao aa _,ak⟩ ?_ ?_
   .rintro dr H5 ⟨v5,rfl,s5,e5⟩;rw[eL,take_length] at e5;refine⟨⟨_,SqT.of (s5 _ _ bi),ql _⟩,?_⟩;have gm:=s5 _ _ e3;refine⟨_,gm,aH (by rw[XF];lia),be _ _ ⟨_,as++[li],rfl,bO (Y.trans s5) b9,by rw[ak,map_append];rfl,by rw[Xr,ba];rfl,?_,λa ha=>?_,λj a hj=>?_⟩⟩
    .rw[nodup_append];refine⟨bg,by simp,λx g y hy z=>?_⟩;rw[mem_singleton.mp hy] at z;exact fg (by rw[← z];exact g)
    .rcases mem_append.mp ha with h | h
     .exact X a h
     .rw[mem_singleton.mp h];exact⟨fh,cc⟩
    .rcases Nat.lt_or_ge j as.length with h | h
     .rw[getElem?_append_left h] at hj;rw[aG (X a (Xu hj)).2];exact s5 _ _ (D j a hj)
     .rw[getElem?_append_right h] at hj;have dL:j - as.length=0:=by
       have:=(pN.mp hj).1;rw[length_singleton] at this;lia
      rw[dL] at hj;have ea:li=a:=Xn hj;have ej:j=i:=by lia
      rw[← ea,ej,aG cc];exact e5
   .rintro z dr H5 hz ⟨v5,rfl,s5,e5⟩;have en:z<(sdP i L R).length:=by lia
    refine⟨⟨_,_,SqT.of (s5 _ _ bi),bK hz⟩,?_⟩;rintro N3 av y H6 ⟨rfl,hy⟩;have ey:y=bu[z]:=Xn ((hy _ (SqT.of (s5 _ _ bi))).symm.trans (bK hz));have dy:Den H bu[z] (bN (sdP i L R)[z]):=at_of e9 (bK hz) (by rw[XC,bK en];rfl);have U:=take_one (bK en);rw[← ey] at dy;generalize (sdP i L R)[z]=r at dy U;obtain⟨c,pm,rfl,hc,i5⟩:=rY (dy.same (cm.trans s5));refine gN (uH (lQ ⟨_,rfl,ixT (p:=c) rfl rfl (SqT.of hc) (bF _ _) (⟨ _,e5,aH (by unfold cg sdP;rw[XF,length_take];split <;> lia),av _ _ ⟨_,rfl,bO s5 aa,?_⟩⟩)⟩));rw[ak,U];unfold cg;rw[map_append]
    rfl
  rintro σ' H3 ⟨v0,as,rfl,Y,e3,ba,bg,X,D⟩;obtain⟨I,M,rfl⟩:∃ I M,as=[I,M]:=by
   match as,ba with
   | [I,M],_=>exact⟨I,M,rfl⟩
  have dd:=s2.trans Y;have fC:=dd _ _ em;have gy:∀ kv∈md0 dt dw,kv.1≠(Sum.inr "rows" : Key):=λkv h=>by
   unfold md0 at h;simp only[mem_cons,not_mem_nil,or_false] at h;rcases h with rfl | rfl
   .exact mk2
   .exact mk5
  refine⟨⟨_,SqT.of (Y _ _ e2),ql _⟩,_,rfl,m,_,rfl,vJ.k (k:=(Sum.inr "rows" : Key)) fC (aH (show 2<=1000 by lia)),hN _ _ ⟨lr,I,M,rfl,?_,?_,?_,?_,?_⟩⟩
  .exact λc o e=>by rw[aG (aD e (b8 m (by simp)))];exact(b2.trans Y) c o e
  .rw[ak,xM gy]
   rfl
  .have b1:dt≠m:=by simp only[nodup_cons,mem_cons,not_or] at ad;exact Ne.symm ad.1.1
   rw[aG b1];exact dd _ _ et
  .have b1:dw≠m:=by simp only[nodup_cons,mem_cons,not_or] at ad;exact Ne.symm ad.1.2.1
   rw[aG b1];exact dd _ _ ew
  .have q0:=X I (.head _);have q1:=X M (.tail _ (.head _));have ae:=s2 _ _ em;have ay:=s2 _ _ et;have ar:=s2 _ _ ew;have nm0:I≠m:=λz=>by rw[← z,q0.1] at ae;cases ae
   have nm1:M≠m:=λz=>by rw[← z,q1.1] at ae;cases ae
   have fc:lr≠m:=λz=>by rw[← z,b9] at ae;cases ae
   refine⟨by rw[aG fc];exact e3,by rw[aG nm0];exact D 0 I rfl,by rw[aG nm1];exact D 1 M rfl,?_,?_⟩
   .have t0:dt≠lr:=eW ay;have t1:dw≠lr:=eW ar;have t2:dt≠I:=λz=>by rw[z,q0.1] at ay;cases ay
    have t3:dt≠M:=λz=>by rw[z,q1.1] at ay;cases ay
    have t4:dw≠I:=λz=>by rw[z,q0.1] at ar;cases ar
    have t5:dw≠M:=λz=>by rw[z,q1.1] at ar;cases ar
    simp only[nodup_cons,mem_cons,not_mem_nil,or_false,not_or,not_false_eq_true,and_true] at ad bg ⊢;exact⟨⟨ad.1.1,ad.1.2,Ne.symm fc,Ne.symm nm0,Ne.symm nm1⟩,⟨ad.2.1,t0,t2,t3⟩,⟨t1,t4,t5⟩,⟨Ne.symm q0.2,Ne.symm q1.2⟩,bg.1,trivial,nodup_nil⟩
   .intro a ha;simp only[mem_cons,not_mem_nil,or_false] at ha;rcases ha with rfl | rfl | rfl | rfl | rfl | rfl
    .exact b8 _ (by simp)
    .exact b8 _ (by simp)
    .exact b8 _ (by simp)
    .exact b2.free b9
    .exact b2.free q0.1
    .exact b2.free q1.1
 rintro σ H2 ⟨lr,I,M,rfl,s2,ae,ay,ar,be⟩;have ct:=be.nd;simp only[nodup_cons,mem_cons,not_mem_nil,or_false,not_or,not_false_eq_true,and_true] at ct;obtain⟨⟨m1,m2,m3,m4,m5⟩,⟨t1,t2,t3,t4⟩,⟨w1,w2,w3⟩,⟨r1,r2⟩,fI,_⟩:=ct;clear em et ew s1 ad b8 H1;refine rO (λσ t=>∃ v2:Option V,σ=[some (.ref p),some (.ref m),v2,none,none,none,none,none]/\Same H t/\t m=some (.dK (md1 dt dw lr))/\MdN H t m dt dw lr I M L R/\Rp t dt (L++R)/\∃ W,WhN S [m,dt,dw,lr,I,M] t dw W (L++R)) (λN hN=>?_) ?_
 .refine⟨_,rfl,ixT (p:=p) rfl rfl (SqT.of (s2 _ _ a1)) (bF _ _) (⟨ _,rfl,ixT (p:=p) rfl rfl (SqT.of (s2 _ _ a1)) (at_ (j:=1) rfl) (⟨ pl,pr,_,_,rfl,rfl,s2 _ _ a2,s2 _ _ a4,small (by lia),λq3 H3 Y e3=>⟨q3,rfl,⟨_,SqT.of e3⟩,?_⟩⟩)⟩)⟩;have cm:=s2.trans Y;have dA:bW H (ls++rs) ((L++R).map bN):=by
   rw[map_append];exact dU a3 a5
  have hPl:(L++R).length=(ls++rs).length:=by rw[Xr,Xr,el,eS]
  have hO:(L++R).length<=120:=by rw[Xr];lia
  refine iQ (K:=K0) (a:=q3) (xs:=ls++rs) (λi σ t=>∃ v2:Option V,σ=[some (.ref p),some (.ref m),v2,none,none,none,none,none]/\Same H t/\t q3=some (.tup (ls++rs))/\t m=some (.dK (md1 dt dw lr))/\MdN H t m dt dw lr I M L R/\Rp t dt ((L++R).take i)/\∃ W,WhN S [m,dt,dw,lr,I,M] t dw W ((L++R).take i)) ⟨_,rfl,cm,e3,Y _ _ ae,be.keep λa T h=>Y _ _ h,⟨[],Y _ _ ay,Nat.zero_le _,λp hp=>(by cases hp),λk v hv=>(by cases hv)⟩,[],⟨[],Y _ _ ar,Nat.zero_le _,rfl,λi p hp=>(by rw[take_zero] at hp;cases hp)⟩,nodup_nil,λa h=>nomatch h⟩ ?_ ?_ ?_
  .rintro i σ H4 _ ⟨_,_,_,e4,_⟩;exact SqT.of e4
  .rintro i y σ H4 hi ⟨v2,rfl,s4,e4,aw,ap,ch,W,bd⟩;have bv:i<(L++R).length:=by
    have:=(pN.mp hi).1;lia
   have dy:Den H y (bN (L++R)[i]):=at_of dA hi (by rw[XC,bK bv];rfl);have U:=take_one (bK bv);have b3:∀ r∈(L++R).take i,r.1≠(L++R)[i].1:=λr O z=>by
    have cs:(((L++R).take (i+1)).map (·.1)).Nodup:=gd.sublist ((List.take_sublist _ _).map _);rw[U,map_append,nodup_append] at cs;exact cs.2.2 r.1 (mem_map_of_mem O) _ (mem_map_of_mem (List.mem_singleton_self _)) z
   have iS:((L++R).take i).length=i:=by rw[length_take];lia
   have fi:=gh _ (getElem_mem bv);generalize (L++R)[i]=q at dy U b3 fi;obtain⟨c,pm,rfl,fb,eI⟩:=rY dy;obtain⟨kt,et,b4,bm,f5⟩:=ch.ex;obtain⟨kw,ew,bn,am,bp⟩:=bd.w.ex;have hc:=s4 _ _ fb;refine Nj λE1 dP=>gN ⟨_,rfl,ixT (p:=c) rfl rfl (SqT.of hc) (aZ (xs:=[mkT q.1,mkT q.2.1,V.ref pm]) (j:=1) rfl) (⟨ _,rfl,m,_,rfl,Ln aw,_,rfl,ixT (p:=c) rfl rfl (SqT.of hc) (bF _ _) (⟨ dt,_,rfl,vJ.k (k:=nk q.1) et (aH (by lia)),?_⟩)⟩)⟩
   have b0:But dt H4 (upd H4 dt (.dK (putK kt (nk q.1) (mkT q.2.1)))):=.upd _;have bt:(upd H4 dt (.dK (putK kt (nk q.1) (mkT q.2.1)))) dt=some (.dK (putK kt (nk q.1) (mkT q.2.1))):=ak;generalize upd H4 dt (.dK (putK kt (nk q.1) (mkT q.2.1)))=H5 at b0 bt;have kL:∀(a:Addr)(T:List V),H4 a=some (.lst T)->H5 a=some (.lst T):=λa T h=>b0 _ _ h (lK h et)
   have gr:=ap.fr dt (by simp);have s5:Same H H5:=But.same s4 gr b0;have ag:=b0 _ _ aw m1;have c9:=b0 _ _ ew (Ne.symm t1);have eg:=s5 _ _ fb;have eo:=s5 _ _ eI;refine⟨_,rfl,ixT (p:=c) rfl rfl (SqT.of eg) (aZ (xs:=[mkT q.1,mkT q.2.1,V.ref pm]) (j:=2) rfl) (⟨ pm,_,rfl,.inr (SqT.of eo),λl hl=>?_⟩)⟩;have s6:=ao hl (.lst (q.2.2.map V.int));have e6:(upd H5 l (.lst (q.2.2.map V.int))) l=some (.lst (q.2.2.map V.int)):=ak;generalize upd H5 l (.lst (q.2.2.map V.int))=H6 at s6 e6 ⊢;refine⟨_,rfl,m,_,rfl,M4 (s6 _ _ ag),_,rfl,ixT (p:=c) rfl rfl (SqT.of (s6 _ _ eg)) (bF _ _) (⟨ dw,_,rfl,vJ.k (k:=nk q.1) (s6 _ _ c9) (aH (by lia)),?_⟩)⟩;have hlS:l ∉ S:=λz=>by
    obtain⟨o,ho⟩:=hS l z;rw[s5 _ _ ho] at hl;cases hl
   have hlT:l ∉ [m,dt,dw,lr,I,M]:=λz=>by
    simp only[mem_cons,not_mem_nil,or_false] at z;rcases z with z | z | z | z | z | z
    .rw[z,ag] at hl;cases hl
    .rw[z,bt] at hl;cases hl
    .rw[z,c9] at hl;cases hl
    .rw[z,kL _ _ ap.er] at hl;cases hl
    .rw[z,kL _ _ ap.e0] at hl;cases hl
    .rw[z,kL _ _ ap.e1] at hl;cases hl
   have fE:l ∉ W:=λz=>by
    obtain⟨T,h⟩:=bd.w.row z;rw[kL _ _ h] at hl;cases hl
   have kp:∀(a:Addr)(o:HO),H5 a=some o->a≠dw->(upd H6 dw (.dK (putK kw (nk q.1) (.ref l)))) a=some o:=λa o h b1=>by
    rw[aG b1];exact s6 _ _ h
   refine dP.n _ _ ⟨_,rfl,λa o h=>?_,?_,kp _ _ ag m2,ap.keep λa T h=>kp _ _ (kL _ _ h) (lK h ew),⟨_,kp _ _ bt t1,?_,λr O=>?_,λk v hv=>?_⟩,W++[l],⟨_,ak,?_,?_,λj r O=>?_⟩,?_,λa ha=>?_⟩
   .exact kp _ _ (s5 _ _ h) (aD h (ap.fr dw (by simp)))
   .exact kp _ _ (b0 _ _ e4 (mH e4 et (by intro z;cases z))) (mH e4 ew (by intro z;cases z))
   .rw[U,Xr,length_singleton];have:=zu kt (nk q.1) (mkT q.2.1);lia
   .rw[tH];rw[U] at O;rcases mem_append.mp O with h | h
    .rw[if_neg λz=>b3 r h (Jm z)];exact bm r h
    .rw[mem_singleton.mp h,if_pos rfl]
   .rw[tH] at hv;rw[U];by_cases c:k=nk q.1
    .rw[if_pos c] at hv;exact⟨q,Xw _ (List.mem_singleton_self _),c,(Xn hv).symm⟩
    .rw[if_neg c] at hv;obtain⟨r,O,e⟩:=f5 k v hv;exact⟨r,Xx _ O,e⟩
   .rw[U,Xr,length_singleton];have:=zu kw (nk q.1) (.ref l);lia
   .rw[U,Xr,Xr,am]
    rfl
   .rw[U] at O;rw[tH];rcases Nat.lt_or_ge j ((L++R).take i).length with h | h
    .rw[getElem?_append_left h] at O;have gX:=Xu O;obtain⟨l',cb,y0,x1,x3,x4,x5⟩:=bp j r O;rw[if_neg λz=>b3 r gX (Jm z)];exact⟨l',cb,by rw[getElem?_append_left (by rw[am];exact h)];exact y0,x1,kp _ _ (kL _ _ x3) (lK x3 ew),x4,x5⟩
    .rw[getElem?_append_right h] at O;have h0:j - ((L++R).take i).length=0:=by
      have:=(pN.mp O).1;rw[length_singleton] at this;lia
     rw[h0] at O;have er:q=r:=Xn O;rw[← er,if_pos rfl];exact⟨l,q.2.2,by rw[getElem?_append_right (by rw[am];exact h),am,h0];rfl,rfl,by rw[aG (Ne.symm (aD c9 hl))];exact e6,fi,λk=>Iff.rfl⟩
   .rw[nodup_append];exact⟨bd.nd,by simp,λa ha b hb z=>fE (by rw[← mem_singleton.mp hb,← z];exact ha)⟩
   .rcases mem_append.mp ha with h | h
    .exact bd.fr a h
    .rw[mem_singleton.mp h];exact⟨hlS,hlT⟩
  .rintro σ H4 ⟨v2,rfl,s4,e4,aw,ap,ch,W,bd⟩;rw[← hPl,take_length] at ch bd;exact hN _ _ ⟨_,rfl,s4,aw,ap,ch,W,bd⟩
 rintro σ H3 ⟨v2,rfl,Y,cn,av,ei,W,bS⟩;clear s2 ae ay ar be H2;obtain⟨kt,et,b4,bm⟩:=ei.ex;obtain⟨kw,ew,bn,am,bp⟩:=bS.w.ex;refine⟨smn 0,λlk cr=>?_⟩;have s4:=ao cr (.lst []);have e4:(upd H3 lk (.lst [])) lk=some (.lst []):=ak;have az:∀ {a:Addr}{o:HO},H3 a=some o->a≠lk:=λe=>aD e cr
 have dv:H lk=none:=Y.free cr;generalize upd H3 lk (.lst [])=H4 at s4 e4 ⊢;refine⟨_,rfl,m,_,rfl,vJ.k (k:=(Sum.inr "links" : Key)) (s4 _ _ cn) (aH (show 3<=1000 by lia)),?_⟩;rw[Es];have b5:But m H4 (upd H4 m (.dK (md2 dt dw lr lk))):=.upd _;have ag:(upd H4 m (.dK (md2 dt dw lr lk))) m=some (.dK (md2 dt dw lr lk)):=ak;generalize upd H4 m (.dK (md2 dt dw lr lk))=H5 at b5 ag;have aw:=s4 _ _ cn;have di:∀(a:Addr)(T:List V),H3 a=some (.lst T)->H5 a=some (.lst T):=λa T h=>b5 _ _ (s4 _ _ h) (lK (s4 _ _ h) aw)
 have e5:H5 lk=some (.lst []):=b5 _ _ e4 (lK e4 aw);have s5:Same H H5:=But.same (Y.trans s4) (av.fr m (by simp)) b5;have B:=av.keep di;have hT5:Rp H5 dt (L++R):=⟨kt,b5 _ _ (s4 _ _ et) (Ne.symm m1),b4,bm⟩
 have a0:WhN S [m,dt,dw,lr,I,M] H5 dw W (L++R):=⟨⟨kw,b5 _ _ (s4 _ _ ew) (Ne.symm m2),bn,am,λj r O=>by
  obtain⟨l',cb,y0,x1,x3,cz⟩:=bp j r O;exact⟨l',cb,y0,x1,di _ _ x3,cz⟩⟩,bS.nd,bS.fr⟩
 have bl:∀ a∈W,a≠lk:=λa ha=>by
  obtain⟨T,h⟩:=bS.w.row ha;exact az h
 have k0:I≠lk:=az av.e0;have k1:M≠lk:=az av.e1;have k2:lr≠lk:=az av.er;have k3:m≠lk:=az cn;have k4:dt≠lk:=az et;have k5:dw≠lk:=az ew;clear b5 aw s4 e4 av ei bS di az bm bp b4 bn et ew cn Y cr H4 H3 kt kw;refine⟨_,rfl,ixT (p:=p) rfl rfl (SqT.of (s5 _ _ a1)) (at_ (j:=2) rfl) (⟨ pk,rfl,⟨_,SqT.of (s5 _ _ a6)⟩,?_⟩)⟩;have ec:=s5 _ _ a6;have nT:pk≠lk:=mH ec e5 (by intro z;cases z);refine iQ (K:=K0) (a:=pk) (xs:=us) (λi σ t=>∃(v3 v4 v5 v6 v7:Option V)(ws:List V),σ=[some (.ref p),some (.ref m),v2,v3,v4,v5,v6,v7]/\But lk H5 t/\t lk=some (.lst ws)/\ws.length=i/\ws.Nodup/\∀(j:Nat)(u:V)(G:Lnk),ws[j]?=some u->ks[j]?=some G->Bl (m::dt::dw::lr::I::M::lk::(W++S)) t u G) ⟨_,_,_,_,_,[],rfl,.of (Same.refl _),e5,rfl,.nil,λj u G h=>nomatch h⟩ ?_ ?_ ?_
 .rintro i σ H6 _ ⟨_,_,_,_,_,_,_,Z,_⟩;exact SqT.of (Z _ _ ec nT)
 .rintro i y σ H6 hi ⟨v3,v4,v5,v6,v7,ws,rfl,Z,e6,bn,bP,ck⟩;have bv:i<ks.length:=by
   have:=(pN.mp hi).1;lia
  have dy:Den H y (aX ks[i]):=at_of a7 hi (by rw[XC,bK bv];rfl);have eT:=bK bv;generalize ks[i]=G at dy eT;obtain⟨q,p0,p1,p3,p4,p5,hZ,i4,rfl,c0,c1,c2,c3,c4,c5,c6,c7⟩:=rB dy;have gE:=Cd c2;have gp:=Cd c4;subst gE;subst gp;have ab:Same H H6:=But.same s5 dv Z;refine Nj λE1 dP=>⟨q,_,rfl,SqT.of (ab _ _ c0),rfl,_,_,rfl,_,_,rfl,_,_,rfl,_,_,rfl,rfl,?_⟩
  refine⟨_,rfl,p0,_,rfl,.inr (SqT.of (ab _ _ c1)),λa ha=>?_⟩;have s7:=ao ha (.lst (G.1.map mkT));have f7:(upd H6 a (.lst (G.1.map mkT))) a=some (.lst (G.1.map mkT)):=ak;generalize upd H6 a (.lst (G.1.map mkT))=H7 at s7 f7 ⊢;refine⟨_,rfl,p1,_,rfl,.inr (SqT.of (s7 _ _ (ab _ _ c3))),λb hb=>?_⟩;have s8:=ao hb (.lst (G.2.1.map mkT));have f8:(upd H7 b (.lst (G.2.1.map mkT))) b=some (.lst (G.2.1.map mkT)):=ak;generalize upd H7 b (.lst (G.2.1.map mkT))=H8 at s8 f8 ⊢;refine⟨_,rfl,smn 3,λq0 gO=>?_⟩;have s9:=ao gO (.lst [.ref a,.ref b,.int G.2.2.1]);have f9:(upd H8 q0 (.lst [.ref a,.ref b,.int G.2.2.1])) q0=some (.lst [.ref a,.ref b,.int G.2.2.1]):=ak;generalize upd H8 q0 (.lst [.ref a,.ref b,.int G.2.2.1])=H9 at s9 f9 ⊢;have ax:=(s7.trans s8).trans s9;have cF:=ab.trans ax;have ga:=ax _ _ (Z _ _ ag k3);have gg:=ax _ _ e6;refine⟨_,rfl,m,_,rfl,Ht ga,.inl ⟨rfl,_,SqL.of gg⟩,_,rfl,_,rfl,p3,rfl,⟨_,SqT.of (cF _ _ c5)⟩,λlc eH=>?_⟩;refine cA (J:=Itt K0 p3) (l:=lc) 2 (λj σ' t=>∃(v0:Option V)(as:List Addr),σ'=[v0]/\Same H9 t/\t lc=some (.lst (as.map V.ref))/\as.length=j/\(∀ x∈as,H9 x=none/\x≠lc)/\∀(z:Nat)(x:Addr),as[z]?=some x->t x=some (.lst ((Nf G z).map V.int))) ⟨none,[],rfl,ao eH _,ak,rfl,(λx h=>nomatch h),λz x h=>nomatch h⟩ ?_ ?_
  rotate_left
  .rintro j σ' Ha hj ⟨v0,as,rfl,sa,ea,ba,X,D⟩;obtain⟨hX,pq,bX,cy⟩:j<=1/\∃ pq:Addr,[V.ref p4,V.ref p5][j]?=some (.ref pq)/\H pq=some (.tup ((Nf G j).map V.int)):=by
    match j,hj with
    | 0,_=>exact⟨by lia,p4,rfl,c6⟩
    | 1,_=>exact⟨by lia,p5,rfl,c7⟩
   have dm:=cF.trans sa;refine⟨⟨_,_,SqT.of (dm _ _ c5),bX⟩,?_⟩;rintro N2 be y Hb ⟨rfl,hy⟩;have ey:y=.ref pq:=Xn ((hy _ (SqT.of (dm _ _ c5))).symm.trans bX);subst ey;refine gN (uH (lQ ⟨_,rfl,pq,_,rfl,.inr (SqT.of (dm _ _ cy)),λli aa=>?_⟩));have cc:li≠lc:=(aD ea aa).symm;have sb:=ao aa (.lst ((Nf G j).map V.int));have eb:(upd Hb li (.lst ((Nf G j).map V.int))) li=some (.lst ((Nf G j).map V.int)):=ak;generalize upd Hb li (.lst ((Nf G j).map V.int))=Hc at sb eb ⊢;refine⟨_,sb _ _ ea,aH (by rw[XF];lia),be _ _ ⟨_,as++[li],rfl,bO (sa.trans sb) eH,by rw[ak,map_append];rfl,by rw[Xr,ba];rfl,λx g=>?_,λz x hz=>?_⟩⟩
   .rcases mem_append.mp g with h | h
    .exact X x h
    .rw[mem_singleton.mp h];exact⟨sa.free aa,cc⟩
   .rcases Nat.lt_or_ge z as.length with h | h
    .rw[getElem?_append_left h] at hz;rw[aG (X x (Xu hz)).2];exact sb _ _ (D z x hz)
    .rw[getElem?_append_right h] at hz;have gC:z - as.length=0:=by
      have:=(pN.mp hz).1;rw[length_singleton] at this;lia
     rw[gC] at hz;have ex:li=x:=Xn hz;have ez:z=j:=by lia
     rw[← ex,ez,aG cc];exact eb
  rintro σ' Ha ⟨v0,as,rfl,sa,ea,ba,X,D⟩;obtain⟨c,d,rfl⟩:∃ c d,as=[c,d]:=by
   match as,ba with
   | [c,d],_=>exact⟨c,d,rfl⟩
  refine⟨⟨_,SqT.of (sa _ _ (cF _ _ c5)),ql _⟩,q0,lc,_,_,rfl,rfl,sa _ _ f9,ea,smn 5,λqn ds=>?_⟩;have sb:=ao ds (.lst [.ref a,.ref b,.int G.2.2.1,.ref c,.ref d]);have eb:(upd Ha qn (.lst [.ref a,.ref b,.int G.2.2.1,.ref c,.ref d])) qn=some (.lst [.ref a,.ref b,.int G.2.2.1,.ref c,.ref d]):=ak;generalize dj:upd Ha qn (.lst [.ref a,.ref b,.int G.2.2.1,.ref c,.ref d])=Hb at sb eb;have dj:upd Ha qn (.lst ([.ref a,.ref b,.int G.2.2.1]++[c,d].map V.ref))=Hb:=dj;rw[dj];have dq:=sa.trans sb;have cE:=ax.trans dq;have gT:=cE _ _ e6;have bb:But lk H5 (upd Hb lk (.lst (ws++[.ref qn]))):=(Z.trans (.of cE)).trans (.upd _);have nb:∀ {x:Addr},H6 x=none->x ∉ m::dt::dw::lr::I::M::lk::(W++S):=fun {x} g z=>by
   obtain⟨hY,gS,_⟩:=hT5.ex;obtain⟨i3,f0,_⟩:=a0.w.ex;simp only[mem_cons] at z;rcases z with z | z | z | z | z | z | z | z
   .rw[z,Z _ _ ag k3] at g;cases g
   .rw[z,Z _ _ gS k4] at g;cases g
   .rw[z,Z _ _ f0 k5] at g;cases g
   .rw[z,Z _ _ B.er k2] at g;cases g
   .rw[z,Z _ _ B.e0 k0] at g;cases g
   .rw[z,Z _ _ B.e1 k1] at g;cases g
   .rw[z,e6] at g;cases g
   .rcases mem_append.mp z with z | z
    .obtain⟨T,h⟩:=a0.w.row z;rw[Z _ _ h (bl x z)] at g;cases g
    .obtain⟨o,ho⟩:=hS x z;rw[ab _ _ ho] at g;cases g
  have na:=nb ha;have d6:=nb (s7.free hb);have gv:=X c (.head _);have fT:=X d (.tail _ (.head _));have nc:=nb (ax.free gv.1);have ep:=nb (ax.free fT.1);have nq:=nb ((ax.trans sa).free ds);have kb:∀ {x:Addr}{T:List V},Hb x=some (.lst T)->x ∉ m::dt::dw::lr::I::M::lk::(W++S)->(upd Hb lk (.lst (ws++[.ref qn]))) x=some (.lst T):=λh n=>by
   rw[aG λz=>n (by rw[z];simp)];exact h
  refine⟨lk,ws,_,rfl,rfl,gT,aH (by lia),dP.n _ _ ⟨_,_,_,_,_,ws++[.ref qn],rfl,bb,ak,by rw[Xr,bn];rfl,?_,λj u k' hu cS=>?_⟩⟩
  .rw[nodup_append];refine⟨bP,by simp,λx g y hy e=>?_⟩;rw[mem_singleton.mp hy] at e;obtain⟨j,hj,gl⟩:=mem_iff_getElem.mp g;obtain⟨q',_,_,_,_,ev,_,_,_,_,_,f1,_⟩:=(ck j x ks[j] (by rw[n6 hj,gl]) (n6 (by lia))).ex;rw[e] at ev;cases ev;have:=(ax.trans sa) _ _ f1;rw[ds] at this;cases this
  rcases Nat.lt_or_ge j ws.length with h | h
  .rw[getElem?_append_left h] at hu;exact(ck j u k' hu cS).keepL λx T g hn=>kb (cE _ _ g) hn
  .rw[getElem?_append_right h] at hu;have dL:j - ws.length=0:=by
    have:=(pN.mp hu).1;rw[length_singleton] at this;lia
   rw[dL] at hu;have ej:j=i:=by lia
   have ek:k'=G:=by
    rw[ej,eT] at cS;exact(Xn cS).symm
   rw[← Xn hu,ek];exact⟨qn,a,b,c,d,rfl,nq,na,d6,nc,ep,kb eb nq,kb (dq _ _ ((s8.trans s9) _ _ f7)) na,kb (dq _ _ (s9 _ _ f8)) d6,kb (sb _ _ (D 0 c rfl)) nc,kb (sb _ _ (D 1 d rfl)) ep⟩
 .rintro σ H6 ⟨v3,v4,v5,v6,v7,ws,rfl,Z,e6,bn,bP,ck⟩;have ab:Same H H6:=But.same s5 dv Z;refine⟨_,rfl,ixT (p:=p) rfl rfl (SqT.of (ab _ _ a1)) (at_ (j:=3) rfl) (⟨ pa,_,rfl,.inr (SqT.of (ab _ _ a8)),λla dp=>?_⟩)⟩;have s7:=ao dp (.lst (al.map mkT));have e7:(upd H6 la (.lst (al.map mkT))) la=some (.lst (al.map mkT)):=ak;have af:∀ {x:Addr}{o:HO},H6 x=some o->x≠la:=λe=>aD e dp
  have gx:H la=none:=ab.free dp;generalize upd H6 la (.lst (al.map mkT))=H7 at s7 e7 ⊢;have dc:=Z _ _ ag k3;have fN:=s7 _ _ dc;refine⟨_,rfl,m,_,rfl,vJ.k (k:=(Sum.inr "alone" : Key)) fN (aH (show 4<=1000 by lia)),_,rfl,?_⟩;obtain⟨kt,et,b4,bm⟩:=hT5.ex;obtain⟨kw,ew,eu,am,bp⟩:=a0.w.ex;have pe:=CP ⟨m,dt,dw,lr,I,M,lk,la,W,60⟩;have pe:putK (md2 dt dw lr lk) (Sum.inr "alone" : Key) (.ref la)=mdK ⟨m,dt,dw,lr,I,M,lk,la,W,60⟩:=pe;rw[pe];have kp:∀ {x:Addr}{o:HO},H5 x=some o->x≠lk->x≠m->(upd H7 m (.dK (mdK ⟨m,dt,dw,lr,I,M,lk,la,W,60⟩))) x=some o:=λh h1 h2=>by
   rw[aG h2];exact s7 _ _ (Z _ _ h h1)
  have bo:∀ {x:Addr}{T:List V},H6 x=some (.lst T)->(upd H7 m (.dK (mdK ⟨m,dt,dw,lr,I,M,lk,la,W,60⟩))) x=some (.lst T):=λh=>by
   rw[aG (lK h dc)];exact s7 _ _ h
  have off:∀ {x:Addr},H x=none->x ∉ S:=fun {x} g z=>by
   obtain⟨o,ho⟩:=hS x z;rw[ho] at g;cases g
  have tt:∀ {x:Addr}{T:List V},x ∉ m::dt::dw::lr::I::M::lk::(W++S)->H6 x=some (.lst T)->x ∉ Md.all ⟨m,dt,dw,lr,I,M,lk,la,W,60⟩++W++S:=fun {x T} n g z=>by
   rw[append_assoc] at z;rcases mem_append.mp z with z | z
   .simp only[Md.all,mem_cons,not_mem_nil,or_false] at z;rcases z with z | z | z | z | z | z | z | z
    .exact n (by rw[z];simp)
    .exact n (by rw[z];simp)
    .exact n (by rw[z];simp)
    .exact n (by rw[z];simp)
    .exact n (by rw[z];simp)
    .exact n (by rw[z];simp)
    .exact n (by rw[z];simp)
    .exact af g z
   .exact n (by simp only[mem_cons];exact .inr (.inr (.inr (.inr (.inr (.inr (.inr z)))))))
  have q0:=af (Z _ _ B.e0 k0);have q1:=af (Z _ _ B.e1 k1);have q2:=af (Z _ _ B.er k2);have q3:=af dc;have q4:=af (Z _ _ et k4);have q5:=af (Z _ _ ew k5);have q6:=af e6;have js:us.length=ks.length:=eC;refine k ⟨m,dt,dw,lr,I,M,lk,la,W,60⟩ _ (λx o h=>?_) rfl ⟨ak,⟨kt,kp et k4 (Ne.symm m1),Xz b4 (by rw[Xr];lia),bm.1⟩,⟨kw,kp ew k5 (Ne.symm m2),Xz eu (by rw[Xr];lia),am,λj r O=>?_⟩,kp B.er k2 (Ne.symm m3),kp B.e0 k0 (Ne.symm m4),kp B.e1 k1 (Ne.symm m5),⟨ws,bo e6,by lia,bP,λj u G hu hk=>?_⟩,by rw[aG (Ne.symm q3)];exact e7,λx g=>?_,?_,λx g=>⟨(a0.fr x g).1,λz=>?_⟩,a0.nd⟩
  .rw[aG (aD h (B.fr m (by simp)))];exact s7 _ _ (ab _ _ h)
  .obtain⟨l',cb,y0,x1,x3,cz⟩:=bp j r O;exact⟨l',cb,y0,x1,kp x3 (bl l' (Xu y0)) (lK x3 ag),cz⟩
  .obtain⟨y,y1,y2,y3,y4,z0,z1,z2,z3,z4,z5,z6,z7,z8,z9,za⟩:=((ck j u G hu hk)).ex;exact⟨y,y1,y2,y3,y4,z0,tt z1 z6,tt z2 z7,tt z3 z8,tt z4 z9,tt z5 za,bo z6,bo z7,bo z8,bo z9,bo za⟩
  .simp only[Md.all,mem_cons,not_mem_nil,or_false] at g;rcases g with rfl | rfl | rfl | rfl | rfl | rfl | rfl | rfl
   .exact off (B.fr _ (by simp))
   .exact off (B.fr _ (by simp))
   .exact off (B.fr _ (by simp))
   .exact off (B.fr _ (by simp))
   .exact off (B.fr _ (by simp))
   .exact off (B.fr _ (by simp))
   .exact off dv
   .exact off gx
  .unfold Md.all;simp only[nodup_cons,mem_cons,not_mem_nil,or_false,not_or,not_false_eq_true,and_true];exact⟨⟨m1,m2,m3,m4,m5,k3,q3⟩,⟨t1,t2,t3,t4,k4,q4⟩,⟨w1,w2,w3,k5,q5⟩,⟨r1,r2,k2,q2⟩,⟨fI,k0,q0⟩,⟨k1,q1⟩,q6,trivial,nodup_nil⟩
  .have h6:=(a0.fr x g).2;obtain⟨T,hv⟩:=a0.w.row g;have e8:=af (Z _ _ hv (bl x g));simp only[Md.all,mem_cons,not_mem_nil,or_false,not_or] at z h6;rcases z with z | z | z | z | z | z | z | z
   .exact h6.1 z
   .exact h6.2.1 z
   .exact h6.2.2.1 z
   .exact h6.2.2.2.1 z
   .exact h6.2.2.2.2.1 z
   .exact h6.2.2.2.2.2 z
   .exact bl x g z
   .exact e8 z
structure Nrm(k j:Lnk):Prop where
 p1:j.1.Perm k.1
 u1:UpD (j.1.map sD)
 p2:j.2.1.Perm k.2.1
 u2:UpD (j.2.1.map sD)
 t:j.2.2.1=k.2.2.1
 s3:j.2.2.2.1.Pairwise (· < ·)
 m3:∀ n,n∈j.2.2.2.1↔n∈k.2.2.2.1
 s4:j.2.2.2.2.Pairwise (· < ·)
 m4:∀ n,n∈j.2.2.2.2↔n∈k.2.2.2.2
theorem map_inj{α β:Type}{f:α->β}(hf:∀ {x y},f x=f y->x=y):∀ {xs ys:List α},xs.map f=ys.map f->xs=ys
 | [],[],_=>rfl
 | x::xs,y::ys,h=>by
  rw[map_cons,map_cons] at h;injection h with h1 h2;rw[hf h1,map_inj hf h2]
 | [],_::_,h=>by cases h
 | _::_,[],h=>by cases h
def rN{xs a b:Nms}(ha:a.Perm xs)(ua:UpD (a.map sD))(hb:b.Perm xs)(ub:UpD (b.map sD)):a=b:=map_inj yE (qy ua ub ((ha.trans hb.symm).map sD))
def BR{a b:List Int}(ha:a.Pairwise (· < ·))(hb:b.Pairwise (· < ·))(h:∀ k,k∈a↔k∈b):a=b:=Er hb (ha.imp λh=>Int.le_of_lt h) (ha.imp λh=>Int.ne_of_lt h) h
def Nrm.uniq{k i j:Lnk}(h:Nrm k i)(g:Nrm k j):i=j :=
 Prod.ext (rN h.p1 h.u1 g.p1 g.u1) (Prod.ext (rN h.p2 h.u2 g.p2 g.u2) (Prod.ext (h.t.trans g.t.symm) (Prod.ext (BR h.s3 g.s3 λn=>(h.m3 n).trans (g.m3 n).symm) (BR h.s4 g.s4 λn=>(h.m4 n).trans (g.m4 n).symm))))
def vA{a b:Lnk}(h:aX a=aX b):a=b:=by
 unfold aX fM FZ at h;injection h with h;injection h with h1 h;injection h with h2 h;injection h with h3 h;injection h with h4 _;injection h1 with h1;injection h2 with h2;injection h3 with h3;injection h4 with h4;injection h4 with h5 h4;injection h4 with h6 _;injection h5 with h5;injection h6 with h6;have i:∀ {x y:Int},D.int x=D.int y->x=y:=λh=>by injection h
 exact Prod.ext (map_inj yE h1) (Prod.ext (map_inj yE h2) (Prod.ext h3 (Prod.ext (map_inj i h5) (map_inj i h6))))
def mF:List Lnk->List Lnk->Prop
 | [],[]=>True
 | k::ks,j::a=>Nrm k j/\mF ks a
 | _,_=>False
def mF.uniq:∀ {ks is js:List Lnk},mF ks is->mF ks js->is=js
 | [],[],[],_,_=>rfl
 | _::_,_::_,_::_,h,g=>by rw[h.1.uniq g.1,h.2.uniq g.2]
 | [],_::_,_,h,_=>h.elim
 | _::_,[],_,h,_=>h.elim
 | [],[],_::_,_,g=>g.elim
 | _::_,_::_,[],_,g=>g.elim
def mF.app:∀ {ks js ks' js':List Lnk},mF ks js->mF ks' js'->mF (ks++ks') (js++js')
 | [],[],_,_,_,g=>g
 | _::_,_::_,_,_,h,g=>⟨h.1,h.2.app g⟩
 | [],_::_,_,_,h,_=>h.elim
 | _::_,[],_,_,h,_=>h.elim
def mF.mem:∀ {ks js:List Lnk}{j:Lnk},mF ks js->j∈js->∃ k∈ks,Nrm k j
 | _::_,_::_,j,h,a=>by
  rcases mem_cons.mp a with e | a
  .exact⟨_,.head _,by rw[e];exact h.1⟩
  .obtain⟨k,c,b⟩:=h.2.mem a;exact⟨k,.tail _ c,b⟩
 | [],_::_,_,h,_=>h.elim
 | _,[],_,_,a=>nomatch a
def mF.has:∀ {ks js:List Lnk}{k:Lnk},mF ks js->k∈ks->∃ j∈js,Nrm k j
 | _::_,_::_,k,h,a=>by
  rcases mem_cons.mp a with e | a
  .exact⟨_,.head _,by rw[e];exact h.1⟩
  .obtain⟨j,c,b⟩:=h.2.has a;exact⟨j,.tail _ c,b⟩
 | _::_,[],_,h,_=>h.elim
 | [],_,_,_,a=>nomatch a
def mF.len:∀ {ks js:List Lnk},mF ks js->js.length=ks.length
 | [],[],_=>rfl
 | _::_,_::_,h=>by rw[length_cons,length_cons,h.2.len]
 | [],_::_,h=>h.elim
 | _::_,[],h=>h.elim
def mF.perm{ks ks':List Lnk}(h:ks.Perm ks'):∀ {c:List Lnk},mF ks c->∃ d:List Lnk,c.Perm d/\mF ks' d:=by
 induction h with
 | nil=>exact fun {c} h=>⟨c,.refl _,h⟩
 | cons x _ n =>
  intro c h
  match c,h with
  | j::c,h =>
   obtain⟨d,p,g⟩:=n h.2;exact⟨j::d,p.cons j,h.1,g⟩
 | swap x y l =>
  intro c h
  match c,h with
  | a::b::c,h=>exact⟨b::a::c,.swap b a c,h.2.1,h.1,h.2.2⟩
 | trans _ _ f e =>
  intro c h;obtain⟨r,q,o⟩:=f h;obtain⟨m,k,i⟩:=e o;exact⟨m,q.trans k,i⟩
def mF.filter{p q:Lnk->Bool}:∀ {ks a:List Lnk},mF ks a->(∀ k∈ks,∀ j,Nrm k j->p k=q j)->mF (ks.filter p) (a.filter q)
 | [],[],_,_=>trivial
 | k::ks,j::a,h,g=>by
  have e:=g k (.head _) j h.1;have b:=h.2.filter λk c=>g k (.tail _ c)
  rw[List.filter_cons,List.filter_cons,e];split
  .exact⟨h.1,b⟩
  .exact b
 | [],_::_,h,_=>h.elim
 | _::_,[],h,_=>h.elim
def mF.pw{r:Lnk->Lnk->Prop}{s:Lnk->Lnk->Prop}(hr:∀ a b c d,Nrm a c->Nrm b d->r a b->s c d):∀ {ks i:List Lnk},mF ks i->ks.Pairwise r->i.Pairwise s
 | [],[],_,_=>.nil
 | k::ks,j::i,h,g=>by
  obtain⟨n,m⟩:=List.pairwise_cons.mp g;refine .cons (λp f=>?_) (h.2.pw hr m);obtain⟨o,e,l⟩:=h.2.mem f;exact hr _ _ _ _ h.1 l (n o e)
 | [],_::_,h,_=>h.elim
 | _::_,[],h,_=>h.elim
structure pY(ks kb:List Lnk):Prop where
 ex:∃ js,mF ks js/\kb.Perm js
 up:UpD (kb.map aX)
def pY.uniq{ks a b:List Lnk}(h:pY ks a)(g:pY ks b):a=b:=by
 obtain⟨i,f,e⟩:=h.ex;obtain⟨is,d,c⟩:=g.ex;rw[← f.uniq d] at c;exact map_inj vA (qy h.up g.up ((e.trans c.symm).map aX))
def pY.perm{ks ks' kb:List Lnk}(h:pY ks kb)(p:ks.Perm ks'):pY ks' kb:=by
 obtain⟨f,e,d⟩:=h.ex;obtain⟨a,b,c⟩:=e.perm p;exact⟨⟨a,c,d.trans b⟩,h.up⟩
def pY.put{ks kb kb':List Lnk}{k j:Lnk}(h:pY ks kb)(hn:Nrm k j)(p:kb'.Perm (kb++[j]))(u:UpD (kb'.map aX)):pY (ks++[k]) kb':=by
 obtain⟨c,b,a⟩:=h.ex;exact⟨⟨c++[j],b.app ⟨hn,trivial⟩,p.trans (a.append_right _)⟩,u⟩
def pY.mem{ks kb:List Lnk}{j:Lnk}(h:pY ks kb)(hj:j∈kb):∃ k∈ks,Nrm k j:=by
 obtain⟨c,b,a⟩:=h.ex;exact b.mem (a.mem_iff.mp hj)
def pY.has{ks kb:List Lnk}{k:Lnk}(h:pY ks kb)(hk:k∈ks):∃ j∈kb,Nrm k j:=by
 obtain⟨e,d,c⟩:=h.ex;obtain⟨j,b,a⟩:=d.has hk;exact⟨j,c.mem_iff.mpr b,a⟩
def pY.len{ks kb:List Lnk}(h:pY ks kb):kb.length=ks.length:=by
 obtain⟨c,b,a⟩:=h.ex;rw[a.length_eq,b.len]
def pY.cut{ks kb:List Lnk}{p q:Lnk->Bool}(h:pY ks kb)(e:∀ k∈ks,∀ j,Nrm k j->p k=q j):pY (ks.filter p) (kb.filter q):=by
 obtain⟨c,b,a⟩:=h.ex;exact⟨⟨c.filter q,b.filter e,a.filter q⟩,List.Pairwise.sublist (filter_sublist.map _) h.up⟩
structure Ng(al ab:Nms):Prop where
 p:ab.Perm al
 up:UpD (ab.map sD)
def Ng.uniq{al a b:Nms}(h:Ng al a)(g:Ng al b):a=b:=rN h.p h.up g.p g.up
structure Wk(L R:List Prt)(ks:List Lnk)(al:Nms)(kb:List Lnk)(ab sp:Nms):Prop where
 mo:∀ p∈L++R,p.2.2.Pairwise (· < ·)/\p.2.2.length<=60/\p.1.length<=400
 nd:((L++R).map (·.1)).Nodup
 lL:L.length<=12
 lR:R.length<=12
 sl:sp≠[]
 su:sp.length<=70
 sm:∀ x∈sp,x.length<=400
 sd:∀ x∈sp,x ∉ (L++R).map (·.1)
 on:∀ k∈ks,∀ x∈k.1,x∈L.map (·.1)
 off:∀ k∈ks,∀ x∈k.2.1,x∈R.map (·.1)
 ne:∀ k∈ks,k.1≠[]
 p0:ks.Pairwise λa b=>∀ x∈a.1,x ∉ b.1
 p1:ks.Pairwise λa b=>∀ x∈a.2.1,x ∉ b.2.1
 kn:∀ k∈ks,k.1.length<=60/\k.2.1.length<=60/\k.2.2.2.1.length<=60/\k.2.2.2.2.length<=60
 an:al.Nodup
 ai:∀ x∈al,x∈(L++R).map (·.1)
 nl:pY ks kb
 na:Ng al ab
theorem jZ{α:Type}[DecidableEq α]:∀ {xs ys:List α},xs.Nodup->(∀ x∈xs,x∈ys)->xs.length<=ys.length
 | [],_,_,_=>Nat.zero_le _
 | x::xs,ys,h,s=>by
  obtain⟨c,h'⟩:=nodup_cons.mp h;have b:=s x (.head _);have:=jZ (xs:=xs) (ys:=ys.erase x) h' λy a=>(List.mem_erase_of_ne (λe:y=x=>c (by rw[← e];exact a))).mpr (s y (.tail _ a))
  rw[List.length_erase_of_mem b] at this;have:=length_pos_of_mem b;rw[length_cons];lia
def Cg{ks:List Lnk}{xs:Nms}(hn:∀ k∈ks,k.1≠[])(hp:ks.Pairwise λa b=>∀ x∈a.1,x ∉ b.1)(hi:∀ k∈ks,∀ x∈k.1,x∈xs):ks.length<=xs.length:=by
 have d:∀ k∈ks,k.1.headD []∈k.1:=λk c=>by
  cases z:k.1 with
  | nil=>exact absurd z (hn k c)
  | cons x r=>exact .head _
 have:=jZ (xs:=ks.map λk=>k.1.headD []) (ys:=xs) (by
  rw[nodup_iff_pairwise_ne,pairwise_map];exact hp.imp_of_mem fun {a b} f g h e=>h _ (d a f) (by rw[e];exact d b g)) λx i=>by
   obtain⟨k,c,rfl⟩:=mem_map.mp i;exact hi k c _ (d k c)
 rwa [XF] at this
def Wk.lk{L R:List Prt}{ks kb:List Lnk}{al ab sp:Nms}(h:Wk L R ks al kb ab sp):ks.length<=12:=by
 have:=Cg h.ne h.p0 h.on;rw[XF] at this;have:=h.lL;lia
def Wk.la{L R:List Prt}{ks kb:List Lnk}{al ab sp:Nms}(h:Wk L R ks al kb ab sp):al.length<=24:=by
 have:=jZ h.an h.ai;rw[XF,Xr] at this;have:=h.lL;have:=h.lR;lia
def Wk.sides{L R:List Prt}{ks kb:List Lnk}{al ab sp:Nms}(h:Wk L R ks al kb ab sp){x:List Nat}(h0:x∈L.map (·.1))(h1:x∈R.map (·.1)):False:=by
 have:=h.nd;rw[map_append,nodup_append] at this;exact this.2.2 x h0 x h1 rfl
def xV{x:List Nat}{k:Lnk}(h:fK x k=true):x∈k.1\/x∈k.2.1:=by
 unfold fK at h;rw[Bool.or_eq_true,decide_eq_true_eq,decide_eq_true_eq] at h;exact h
def in_of{x:List Nat}{k:Lnk}(h:x∈k.1\/x∈k.2.1):fK x k=true:=by
 unfold fK;rw[Bool.or_eq_true,decide_eq_true_eq,decide_eq_true_eq];exact h
def Wk.one{L R:List Prt}{ks kb:List Lnk}{al ab sp:Nms}(h:Wk L R ks al kb ab sp){x:List Nat}{a b:Lnk}(ha:a∈ks)(hb:b∈ks)(d:fK x a=true)(c:fK x b=true):a=b:=Classical.byContradiction λe=>by
 rcases xV d with d | d
 .rcases xV c with c | c
  .rcases xX h.p0 ha hb e with g | g
   .exact g x d c
   .exact g x c d
  .exact h.sides (h.on a ha x d) (h.off b hb x c)
 .rcases xV c with c | c
  .exact h.sides (h.on b hb x c) (h.off a ha x d)
  .rcases xX h.p1 ha hb e with g | g
   .exact g x d c
   .exact g x c d
def BJ{L:List Prt}{x:List Nat}(h:x∈L.map (·.1)):iy L x=0:=by
 unfold iy;rw[dI,XD h]
 rfl
def yJ{L:List Prt}{x:List Nat}(h:x ∉ L.map (·.1)):iy L x=1:=by
 unfold iy;rw[dI,Xp h]
 rfl
def Nrm.inl{k j:Lnk}(h:Nrm k j)(x:List Nat):fK x j=fK x k:=by
 unfold fK;rw[decide_eq_decide.mpr h.p1.mem_iff,decide_eq_decide.mpr h.p2.mem_iff]
def Wk.found{L R:List Prt}{ks kb:List Lnk}{al ab sp:Nms}(h:Wk L R ks al kb ab sp){x:List Nat}{l:Lnk}(hl:eE L kb x=some l):∃ k∈ks,Nrm k l/\fK x k=true:=by
 obtain⟨k,c,b⟩:=h.nl.mem (pR hl);refine⟨k,c,b,?_⟩;have a:x∈dR (iy L x) l:=by
  have:=find?_some (p:=λk=>decide (x∈dR (iy L x) k)) hl;exact Xv this
 rw[← b.inl];unfold dR at a;split at a
 .exact in_of (.inl a)
 .exact in_of (.inr a)
def Wk.find{L R:List Prt}{ks kb:List Lnk}{al ab sp:Nms}(h:Wk L R ks al kb ab sp)(x:List Nat):(eE L kb x).isSome=ks.any (fK x):=by
 cases hl:eE L kb x with
 | some l =>
  obtain⟨k,c,_,a⟩:=h.found hl;exact(any_eq_true.mpr ⟨k,c,a⟩).symm
 | none =>
  refine(Bool.eq_false_iff.mpr λz=>?_).symm;obtain⟨k,c,a⟩:=any_eq_true.mp z;obtain⟨j,e,d⟩:=h.nl.has c;have b:=qP hl e;rcases xV a with a | a
  .rw[BJ (h.on k c x a)] at b;exact b (d.p1.mem_iff.mpr a)
  .rw[yJ (λz=>h.sides z (h.off k c x a))] at b;exact b (d.p2.mem_iff.mpr a)
def DN{α:Type}(f:α->Bool)(xs:List α):xs.all (λx=>!f x)=!xs.any f:=by
 induction xs with
 | nil=>rfl
 | cons x xs a=>rw[all_cons,any_cons,a,Bool.not_or]
def Wk.lack{L R:List Prt}{ks kb:List Lnk}{al ab sp:Nms}(h:Wk L R ks al kb ab sp)(x:List Nat):fX L kb ab x=gj ks al x:=by
 unfold fX gj;rw[DN,← h.find x,decide_eq_decide.mpr (h.na.p.mem_iff (a:=x))];cases eE L kb x <;> rfl
def mE(L R:List Prt)(ks:List Lnk)(al:Nms):Dd->Option Nat
 | .link xs ys=>jo L R ks al xs ys
 | .loose x=>vI L R ks al x .loose
 | .step x=>vI L R ks al x .step
 | .alone x=>vI L R ks al x .alone
 | .lack x=>vI L R ks al x .lack
def MAf(ks:List Lnk)(al:Nms)(t:Int)(ks':List Lnk)(a:Nms):Dd->Prop
 | .link xs ys=>ks'=ks++[(xs,ys,t,[],[])]/\a=al
 | .loose x=>StA ks al x t ks' a .loose
 | .step x=>StA ks al x t ks' a .step
 | .alone x=>StA ks al x t ks' a .alone
 | .lack x=>StA ks al x t ks' a .lack
def Wk.err{L R:List Prt}{ks kb:List Lnk}{al ab sp:Nms}(h:Wk L R ks al kb ab sp)(d:Dd):dE L R kb ab d=mE L R ks al d:=by
 have a:∀ x,(if (eE L kb x).isSome=true then none else some 4:Option Nat)=if (ks.all λk=>!fK x k)=true then some 4 else none:=λx=>by
  rw[DN,← h.find x];cases(eE L kb x).isSome <;> rfl
 cases d with
 | link xs ys =>
  show mz L R kb ab xs ys=jo L R ks al xs ys;unfold mz jo;rw[show fX L kb ab=gj ks al from funext h.lack]
 | loose x =>
  show(if isP L R x=true then (if (eE L kb x).isSome=true then none else some 4) else some 0)=(if isP L R x=true then (if (ks.all λk=>!fK x k)=true then some 4 else none) else some 0);rw[a]
 | step x =>
  show(if isP L R x=true then (if (eE L kb x).isSome=true then none else some 4) else some 0)=(if isP L R x=true then (if (ks.all λk=>!fK x k)=true then some 4 else none) else some 0);rw[a]
 | alone x =>
  show(if isP L R x=true then (if fX L kb ab x=true then none else some 3) else some 0)=(if isP L R x=true then (if gj ks al x=true then none else some 3) else some 0);rw[h.lack]
 | lack x =>
  show(if isP L R x=true then (if x∈ab then none else some 4) else some 0)=(if isP L R x=true then (if x∈al then none else some 4) else some 0);by_cases hx:x∈al
  .rw[if_pos hx,if_pos (h.na.p.mem_iff.mpr hx)]
  .rw[if_neg hx,if_neg λz=>hx (h.na.p.mem_iff.mp z)]
def Wk.fit{L R:List Prt}{ks kb:List Lnk}{al ab sp:Nms}(h:Wk L R ks al kb ab sp):Fit L R kb ab:=by
 have s:=h.lL;have t:=h.lR;have B:=h.lk;have z:=h.la;refine⟨⟨by lia,by lia,λp u=>by have:=(h.mo p u).2.1;lia⟩,λk o=>?_,λk o e=>?_,?_,by rw[h.nl.len];lia,h.na.p.nodup_iff.mpr h.an,by rw[h.na.p.length_eq];lia⟩
 .obtain⟨l,i,f⟩:=h.nl.mem o;have:=h.kn l i;have A:k.2.2.2.1.length<=l.2.2.2.1.length:=jZ (nodup_iff_pairwise_ne.mpr (f.s3.imp λh=>Int.ne_of_lt h)) λn j=>(f.m3 n).mp j
  have y:k.2.2.2.2.length<=l.2.2.2.2.length:=jZ (nodup_iff_pairwise_ne.mpr (f.s4.imp λh=>Int.ne_of_lt h)) λn j=>(f.m4 n).mp j
  exact⟨by rw[f.p1.length_eq];lia,by rw[f.p2.length_eq];lia,by lia,by lia⟩
 .obtain⟨l,i,f⟩:=h.nl.mem o;have:=f.p1.length_eq;rw[e] at this;exact h.ne l i (List.eq_nil_of_length_eq_zero this.symm)
 .obtain⟨w,s,t⟩:=h.nl.ex;have:w.Pairwise λa b=>∀ x∈a.1,x ∉ b.1:=s.pw (r:=λa b=>∀ x∈a.1,x ∉ b.1) (λa b c d v hd g x q m=>g x (v.p1.mem_iff.mp q) (hd.p1.mem_iff.mp m)) h.p0
  exact(t.pairwise_iff (R:=λa b:Lnk=>∀ x∈a.1,x ∉ b.1) fun {a b} g x q m=>g x m q).mpr this
def Rq{ks:List Lnk}(hn:∀ k∈ks,k.1≠[])(hp:ks.Pairwise λa b=>∀ x∈a.1,x ∉ b.1):ks.Nodup:=by
 rw[nodup_iff_pairwise_ne];refine hp.imp_of_mem fun {a b} c d h e=>?_
 cases z:a.1 with
 | nil=>exact hn a c z
 | cons x r=>exact h x (by rw[z];exact .head _) (by rw[← e,z];exact .head _)
theorem yW{α:Type}[DecidableEq α]:∀ {xs:List α}{i:Nat}{a:α} (b:α),xs.Nodup->xs[i]?=some a->(xs.set i b).Perm (xs.filter (λx=>decide (x≠a))++[b])
 | x::xs,0,a,b,c,h=>by
  have e:x=a:=Xn h;subst e;obtain⟨d,_⟩:=nodup_cons.mp c;rw[List.set_cons_zero,filter_cons_of_neg (by simp),(filter_eq_self (p:=λy=>decide (y≠x))).mpr λy f=>XD λe:y=x=>d (by rw[← e];exact f)];exact(List.perm_append_comm (l₁:=xs) (l₂:=[b])).symm
 | x::xs,i+1,a,b,c,h=>by
  obtain⟨d,g⟩:=nodup_cons.mp c;have h:xs[i]?=some a:=h;have:x≠a:=λe=>d (by rw[e];exact Xu h)
  rw[List.set_cons_succ,filter_cons_of_pos (by simpa using this)];exact(yW b g h).cons x
 | [],_,_,_,_,h=>by simp at h
theorem erase_filter{α:Type}[DecidableEq α]:∀ {xs:List α}{j:Nat}{a:α},xs.Nodup->xs[j]?=some a->xs.eraseIdx j=xs.filter λx=>decide (x≠a)
 | x::xs,0,a,b,h=>by
  have e:x=a:=Xn h;subst e;obtain⟨c,_⟩:=nodup_cons.mp b;rw[List.eraseIdx_cons_zero,filter_cons_of_neg (by simp),(filter_eq_self (p:=λy=>decide (y≠x))).mpr λy d=>XD λe:y=x=>c (by rw[← e];exact d)]
 | x::xs,j+1,a,b,h=>by
  obtain⟨c,f⟩:=nodup_cons.mp b;have h:xs[j]?=some a:=h;have:x≠a:=λe=>c (by rw[e];exact Xu h)
  rw[List.eraseIdx_cons_succ,filter_cons_of_pos (by simpa using this),erase_filter f h]
 | [],_,_,_,h=>by simp at h
def Je{ks:List Lnk}{p:Lnk->Bool}(h:ks.any p=true):∃(i:Nat)(k:Lnk),ks[i]?=some k/\p k=true/\∀ j∈ks.take i,p j=false:=by
 induction ks with
 | nil=>cases h
 | cons a ks c =>
  by_cases ha:p a=true
  .exact⟨0,a,rfl,ha,λj b=>by rw[take_zero] at b;cases b⟩
  .rw[any_cons,Bool.eq_false_iff.mpr ha,Bool.false_or] at h;obtain⟨i,k,f,g,d⟩:=c h;refine⟨i+1,k,f,g,λj b=>?_⟩;rw[take_succ_cons] at b;rcases mem_cons.mp b with e | b
   .rw[e];exact Bool.eq_false_iff.mpr ha
   .exact d j b
def Qk(a b:Lnk):neD (some a) (some b)=decide (a≠b):=by
 show(!eqD (aX a) (aX b))=_;by_cases h:a=b
 .rw[h,mK];simp
 .rw[XD h];cases z:eqD (aX a) (aX b) with
  | false=>rfl
  | true=>exact absurd (vA (fj.mp z)) h
def Wk.sub{L R:List Prt}{ks kb:List Lnk}{al ab sp:Nms}(h:Wk L R ks al kb ab sp){ks' kb':List Lnk}(hs:ks'.Sublist ks)(hn:pY ks' kb'):Wk L R ks' al kb' ab sp :=
 ⟨h.mo,h.nd,h.lL,h.lR,h.sl,h.su,h.sm,h.sd,λk a=>h.on k (hs.subset a),λk a=>h.off k (hs.subset a),λk a=>h.ne k (hs.subset a),h.p0.sublist hs,h.p1.sublist hs,λk a=>h.kn k (hs.subset a),h.an,h.ai,hn,h.na⟩
def Wk.app{L R:List Prt}{ks kb:List Lnk}{al ab sp:Nms}(h:Wk L R ks al kb ab sp){k:Lnk}{kb':List Lnk}(h0:∀ x∈k.1,x∈L.map (·.1))(h1:∀ x∈k.2.1,x∈R.map (·.1))(hne:k.1≠[])(g0:∀ a∈ks,∀ x∈a.1,x ∉ k.1)(g1:∀ a∈ks,∀ x∈a.2.1,x ∉ k.2.1)(e:k.1.length<=60/\k.2.1.length<=60/\k.2.2.2.1.length<=60/\k.2.2.2.2.length<=60)(hn:pY (ks++[k]) kb'):Wk L R (ks++[k]) al kb' ab sp:=by
 have d:∀ {P:Lnk->Prop},(∀ a∈ks,P a)->P k->∀ a∈ks++[k],P a:=λg e a c=>by
  rcases mem_append.mp c with c | c
  .exact g a c
  .rw[mem_singleton.mp c];exact e
 refine⟨h.mo,h.nd,h.lL,h.lR,h.sl,h.su,h.sm,h.sd,d h.on h0,d h.off h1,d h.ne hne,pairwise_append.mpr ⟨h.p0,List.pairwise_singleton _ _,λa c b f=>?_⟩,pairwise_append.mpr ⟨h.p1,List.pairwise_singleton _ _,λa c b f=>?_⟩,d h.kn e,h.an,h.ai,hn,h.na⟩
 .rw[mem_singleton.mp f];exact g0 a c
 .rw[mem_singleton.mp f];exact g1 a c
def Wk.perm{L R:List Prt}{ks kb:List Lnk}{al ab sp:Nms}(h:Wk L R ks al kb ab sp){ks':List Lnk}(p:ks.Perm ks'):Wk L R ks' al kb ab sp :=
 ⟨h.mo,h.nd,h.lL,h.lR,h.sl,h.su,h.sm,h.sd,λk c=>h.on k (p.mem_iff.mpr c),λk c=>h.off k (p.mem_iff.mpr c),λk c=>h.ne k (p.mem_iff.mpr c),(p.pairwise_iff (R:=λa b:Lnk=>∀ x∈a.1,x ∉ b.1) fun {a b} g x e d=>g x d e).mp h.p0,(p.pairwise_iff (R:=λa b:Lnk=>∀ x∈a.2.1,x ∉ b.2.1) fun {a b} g x e d=>g x d e).mp h.p1,λk c=>h.kn k (p.mem_iff.mpr c),h.an,h.ai,h.nl.perm p,h.na⟩
def Wk.al{L R:List Prt}{ks kb:List Lnk}{al ab sp:Nms}(h:Wk L R ks al kb ab sp){a b:Nms}(hd:a.Nodup)(hi:∀ x∈a,x∈(L++R).map (·.1))(hn:Ng a b):Wk L R ks a kb b sp:=⟨h.mo,h.nd,h.lL,h.lR,h.sl,h.su,h.sm,h.sd,h.on,h.off,h.ne,h.p0,h.p1,h.kn,hd,hi,h.nl,hn⟩
def FJ{L R:List Prt}{x:List Nat}(h:isP L R x=true):x∈(L++R).map (·.1):=by
 unfold isP at h;rw[dI] at h;exact Xv h
def Wk.loosed{L R:List Prt}{ks kb:List Lnk}{al ab sp:Nms}(h:Wk L R ks al kb ab sp){x:List Nat}{l k:Lnk}(hl:eE L kb x=some l)(hk:k∈ks)(hi:fK x k=true):Wk L R (ks.filter λj=>decide (j≠k)) al (woL kb (some l)) ab sp:=by
 obtain⟨m,b,d,c⟩:=h.found hl;have e:=h.one hk b hi c;subst e;refine h.sub filter_sublist (h.nl.cut λa i j f=>?_);show decide (a≠k)=neD (some j) (some l);rw[Qk];refine decide_eq_decide.mpr ⟨λg e=>g (h.one (x:=x) i hk ?_ hi),λg e=>g ?_⟩
 .rw[← f.inl,e,d.inl];exact hi
 .subst e;exact f.uniq d
def Wk.next{L R:List Prt}{ks kb:List Lnk}{al ab sp:Nms}(h:Wk L R ks al kb ab sp){d:Dd}{t:Int}(hsm:d.sm)(f:mE L R ks al d=none){ks' kb':List Lnk}{G J:Nms}(u:Aft L kb ab t kb' J d)(r:MAf ks al t ks' G d):Wk L R ks' G kb' J sp:=by
 have hE':=f;rw[← h.err] at hE';have I:∀ {x:List Nat},(if isP L R x=true then (if (ks.all λk=>!fK x k)=true then some 4 else none) else some 0:Option Nat)=none->∃(l k:Lnk)(i:Nat),eE L kb x=some l/\ks[i]?=some k/\fK x k=true/\(∀ j∈ks.take i,fK x j=false)/\Nrm k l:=fun {x} g=>by
  have c:ks.any (fK x)=true:=by
   cases z:ks.any (fK x) with
   | true=>rfl
   | false =>
    rw[DN,z] at g;split at g <;> cases g
  obtain⟨i,k,q,o,F⟩:=Je c;have:=h.find x;rw[c] at this;obtain⟨l,D⟩:=Option.isSome_iff_exists.mp this;obtain⟨k',Q,C,P⟩:=h.found D;rw[← h.one (Xu q) Q o P] at C;exact⟨l,k,i,D,q,o,F,C⟩
 cases d with
 | link xs ys =>
  obtain⟨s,O,N,X,ux,W,uy,w,H⟩:=u;obtain⟨B,K⟩:=r;rw[s,B,K];have f:jo L R ks al xs ys=none:=f;obtain⟨_,V,ly,nx⟩:=hsm;unfold jo at f;split at f
  .rename_i q;split at f
   .cases f
   .rename_i o;split at f
    .rename_i F;rw[Bool.or_eq_true,not_or,Bool.not_eq_true,Bool.not_eq_true,any_eq_false,any_eq_false] at o;have g:∀ x∈xs,x∈L.map (·.1):=λx g=>by
      have A:cI L x=0:=by simpa using o.1 x g
      have A:iy L x=0:=A;by_cases z:x∈L.map (·.1)
      .exact z
      .rw[yJ z] at A;cases A
     have v:∀ x∈ys,x∈R.map (·.1):=λx g=>by
      have A:cI L x=1:=by simpa using o.2 x g
      have A:iy L x=1:=A;have w:=FJ (all_eq_true.mp q x (Xw _ g));rw[map_append] at w;rcases mem_append.mp w with z | z
      .rw[BJ z] at A;cases A
      .exact z
     have hf:∀ x∈xs++ys,∀ a∈ks,fK x a=false:=λx g a c=>by
      have:=all_eq_true.mp F x g;unfold gj at this;rw[Bool.and_eq_true] at this
      simpa using all_eq_true.mp this.1 a c
     have no:∀ {x:List Nat}{a:Lnk},x∈xs++ys->a∈ks->¬ (x∈a.1\/x∈a.2.1):=λg c z=>by
      have:=hf _ g _ c;rw[in_of z] at this;cases this
     refine h.app g v nx (λa c x m n=>no (Xx _ n) c (.inl m)) (λa c x m n=>no (Xw _ n) c (.inr m)) ⟨V,ly,Nat.zero_le _,Nat.zero_le _⟩ (h.nl.put (j:=(O,N,t,[],[])) ⟨X,ux,W,uy,rfl,.nil,λ_=>Iff.rfl,.nil,λ_=>Iff.rfl⟩ ?_ H);have T:woL kb none=kb:=filter_eq_self.mpr λk _=>rfl
     rw[T] at w;exact w
    .cases f
  .cases f
 | loose x =>
  obtain⟨l,k,i,D,q,o,F,C⟩:=I (x:=x) f;obtain⟨s,u⟩:=u;obtain⟨B,r⟩:=r;rw[s,B,r i k q o F,show kb'=woL kb (some l) from u l D];exact h.loosed D (Xu q) o
 | step x =>
  obtain⟨l,k,i,D,q,o,F,C⟩:=I (x:=x) f;obtain⟨s,u⟩:=u;obtain⟨B,r⟩:=r;obtain⟨w,H⟩:=u l D;have E:=Xu q;have U:=h.loosed D E o;rw[s,B,r i k q o F];have M:=h.kn k E;have ne:∀ a∈ks.filter (λj=>decide (j≠k)),a∈ks/\a≠k:=λa c=>⟨(mem_filter.mp c).1,Xv (mem_filter.mp c).2⟩
  refine(U.app (k:=(k.1,k.2.1,t,[],[])) (kb':=kb') (h.on k E) (h.off k E) (h.ne k E) (λa c x m n=>(ne a c).2 (h.one (ne a c).1 E (in_of (.inl m)) (in_of (.inl n)))) (λa c x m n=>(ne a c).2 (h.one (ne a c).1 E (in_of (.inr m)) (in_of (.inr n)))) ⟨M.1,M.2.1,Nat.zero_le _,Nat.zero_le _⟩ (U.nl.put (j:=(l.1,l.2.1,t,[],[])) ⟨C.p1,C.u1,C.p2,C.u2,rfl,.nil,λ_=>Iff.rfl,.nil,λ_=>Iff.rfl⟩ w H)).perm (yW _ (Rq h.ne h.p0) q).symm
 | alone x =>
  obtain⟨s,w,H⟩:=u;obtain⟨B,K⟩:=r;rw[s,B,K];have f:(if isP L R x=true then (if gj ks al x=true then none else some 3) else some 0:Option Nat)=none:=f;split at f
  .rename_i Z;split at f
   .rename_i S;have g:x ∉ al:=by
     unfold gj at S;rw[Bool.and_eq_true] at S
     simpa using S.2
    refine h.al ?_ (λy v=>?_) ⟨?_,H⟩
    .rw[nodup_append];exact⟨h.an,by simp,λa c b hb=>by rw[mem_singleton.mp hb];exact λe=>g (e ▸ c)⟩
    .rcases mem_append.mp v with v | v
     .exact h.ai y v
     .rw[mem_singleton.mp v];exact FJ Z
    .exact w.trans ((h.na.p.cons x).trans (List.perm_append_comm (l₁:=al) (l₂:=[x])).symm)
   .cases f
  .cases f
 | lack x =>
  obtain⟨s,Y⟩:=u;obtain⟨B,j,hj,_,K⟩:=r;rw[s,B,K,Y,erase_filter h.an hj];refine h.al (h.an.sublist filter_sublist) (λy v=>h.ai y (mem_filter.mp v).1) ⟨h.na.p.filter _,List.Pairwise.sublist (filter_sublist.map _) h.na.up⟩
structure SM(L R:List Prt)(ks:List Lnk)(al:Nms):Prop where
 mo:∀ p∈L++R,p.2.2.Pairwise (· < ·)/\p.2.2.length<=60
 lL:L.length<=60
 lR:R.length<=60
 lk:ks.length<=60
 kn:∀ k∈ks,k.1.length<=60/\k.2.1.length<=60/\k.2.2.2.1.length<=60/\k.2.2.2.2.length<=60
 la:al.length<=60
def Bo{ms ns:List Int}(hm:ms.Nodup)(hp:ns.Perm ms)(hs:ns.Pairwise (· <= ·)):ns.Pairwise (· < ·) :=
 (List.Pairwise.and hs (nodup_iff_pairwise_ne.mp (hp.nodup_iff.mpr hm))).imp fun {x y} h=>by lia
def Nrm.lens{k j:Lnk}(hn:Nrm k j)(h:k.1.length<=60/\k.2.1.length<=60/\k.2.2.2.1.length<=60/\k.2.2.2.2.length<=60):j.1.length<=60/\j.2.1.length<=60/\j.2.2.2.1.length<=60/\j.2.2.2.2.length<=60:=by
 have b:j.2.2.2.1.length<=k.2.2.2.1.length:=jZ (nodup_iff_pairwise_ne.mpr (hn.s3.imp λh=>Int.ne_of_lt h)) λn a=>(hn.m3 n).mp a
 have c:j.2.2.2.2.length<=k.2.2.2.2.length:=jZ (nodup_iff_pairwise_ne.mpr (hn.s4.imp λh=>Int.ne_of_lt h)) λn a=>(hn.m4 n).mp a
 exact⟨by rw[hn.p1.length_eq];lia,by rw[hn.p2.length_eq];lia,by lia,by lia⟩
def Ro(M:Md)(n:Nat):M.ln n=M.l0\/M.ln n=M.l1:=by
 unfold Md.ln;split
 .exact .inl rfl
 .exact .inr rfl
def Oi{L R:List Prt}{n:Nat}{p:Prt}(h:p∈sdP n L R):p∈L++R:=by
 unfold sdP at h;split at h
 .exact Xx _ h
 .exact Xw _ h
theorem P0:∀ {ms ks:List Int},ms.Nodup->(∀ k∈ms,k∈ks)->ms.length<=ks.length
 | [],_,_,_=>Nat.zero_le _
 | a::r,ks,h,s=>by
  have h':=nodup_cons.mp h;have c:=P0 (ks:=ks.erase a) h'.2 λk b=>(List.mem_erase_of_ne (λ(z:k=a)=>h'.1 (by rw[← z];exact b))).mpr (s k (.tail _ b))
  rw[List.length_erase_of_mem (s a (.head _))] at c;have:0<ks.length:=length_pos_of_mem (s a (.head _));rw[length_cons];lia
def fH.grow{S:List Addr}{H:Hp}{M:Md}{L R:List Prt}{ks:List Lnk}{al:Nms}{a:Addr}(h:fH S H M L R ks al)(ha:H a=none):fH (a::S) H M L R ks al:=by
 have ne:∀ {b:Addr}{o:HO},H b=some o->b≠a:=λe=>aD e ha
 have d:∀ {b:Addr}{o:HO},H b=some o->b ∉ M.all++M.W++S->b ∉ M.all++M.W++(a::S):=λe n z=>by
  rcases mem_append.mp z with z | z
  .exact n (Xx _ z)
  .rcases mem_cons.mp z with z | z
   .exact ne e z
   .exact n (Xw _ z)
 obtain⟨P,I,g,f,l⟩:=h.lk.ex;have r:=h.live;refine⟨h.m,h.t,h.w,h.lr,h.l0,h.l1,⟨P,I,g,f,λi u k C F=>?_⟩,h.la,λb c z=>?_,h.nd,λb c=>⟨λz=>?_,(h.wo b c).2⟩,h.wn⟩
 .obtain⟨q,N,B,A,K,e,E,G,J,O,D,p,s,v,x,y⟩:=(l i u k C F).ex;exact⟨q,N,B,A,K,e,d p E,d s G,d v J,d x O,d y D,p,s,v,x,y⟩
 .rcases mem_cons.mp z with z | z
  .obtain⟨o,j⟩:=r b (Xx _ c);exact ne j z
  .exact h.off b c z
 .rcases mem_cons.mp z with z | z
  .obtain⟨o,j⟩:=r b (Xw _ c);exact ne j z
  .exact(h.wo b c).1 z
def zR{ms ns:List Int}{ks:List Int}(hm:ms.Nodup)(hi:∀ k,k∈ms↔k∈ks)(hp:ns.Perm ms)(hs:ns.Pairwise (· <= ·))(hk:ks.Pairwise (· < ·)):ns=ks :=
 Er hk hs (hp.nodup_iff.mpr hm) λk=>(hp.mem_iff).trans (hi k)
def yZ:Sp:=λa H Q _=>∃(S:List Addr)(M:Md)(L R:List Prt)(ks:List Lnk)(al:Nms),a=[.ref M.m]/\fH S H M L R ks al/\M.b<=500/\SM L R ks al/\∀(u:V)(kb:List Lnk)(ab:Nms)(H':Hp),Same H H'->Den H' u (fG L R kb ab)->pY ks kb->Ng al ab->Q u H'
def cQ:aU ["_law_model_here","_law_sides_here","_law_row","_law_parts","_law_name","_law_moments_here","_law_links","_law_ones","_law_others","_law_told","_law_left","_law_right","_law_lost"] ["_law_model_here"] (aC tG):=⟨rfl,rfl,rfl,by decide +kernel,rfl,by decide +kernel,by decide +kernel⟩
def Ea(h:Has K mg "_law_as_book" tG ["_law_model_here"])(Ux:mg "tuple" = none)(UL:mg "sorted" = none)(VF:mg "set" = none):Cal P w K mg base "_law_as_book" 1 ["_law_model_here"] yZ:=by
 refine h.mk' cQ (λvs H Q E hs=>?_) (λf fT A outer s H vs Q E hr hs=>?_)
 .obtain⟨S,M,L,R,ks,al,rfl,_⟩:=hs
  rfl
 obtain⟨S,M,L,R,ks,al,rfl,hM,hB,hT,k⟩:=hs;refine⟨_,(au (aL (i:=1) cQ.nd rfl (Or.inl rfl) (bI aq))
  (au (dJ PassesOwn.never rfl (eG (bx (bZ hr) (pv 0) aF (λ_ _=>rfl))) (aK (i:=2) cQ.nd rfl (Or.inl rfl))
   (au (aL (i:=3) cQ.nd rfl (Or.inl rfl) (bI aq))
  (au (dJ PassesOwn.never rfl (eG (pv 2)) (aK (i:=4) cQ.nd rfl (Or.inl rfl))
   (au (aL (i:=5) cQ.nd rfl (Or.inl rfl) (aP aM rfl Ux boot_tuple (aj (aR (fV (w:=w) rfl rfl hr.units) rfl UL boot_sorted (aj (aP (kZ (w:=w) rfl rfl) rfl VF boot_set (aj (bx (bZ hr) (bx (bZ hr) (pv 0) aF (λ_ _=>rfl)) (pv 4) (λ_ _=>rfl)) aq)) aq)) aq)))
  (aB (cN (dY PySem.F.plainAttrs_list PySem.F.slot_list_append PySem.F.type_list_append bJ (pv 3) (aj (bQ (aj (pv 4) (aj (bx (bZ hr) (bx (bZ hr) (pv 0) aF (λ_ _=>rfl)) (pv 4) (λ_ _=>rfl)) (aj (pv 5) aq)))) aq))))))
  (aB (cN (dY PySem.F.plainAttrs_list PySem.F.slot_list_append PySem.F.type_list_append bJ (pv 1) (aj (aP aM rfl Ux boot_tuple (aj (pv 3) aq)) aq)))))))
  (au (aL (i:=6) cQ.nd rfl (Or.inl rfl) (bI aq))
  (au (dJ PassesOwn.never rfl (eG (bx (bZ hr) (pv 0) aF (λ_ _=>rfl))) (Pk rfl (bH (aK (i:=7) cQ.nd rfl (Or.inl rfl)) (bH (aK (i:=8) cQ.nd rfl (Or.inl rfl)) (bH (aK (i:=9) cQ.nd rfl (Or.inl rfl)) (bH (aK (i:=10) cQ.nd rfl (Or.inl rfl)) (bH (aK (i:=11) cQ.nd rfl (Or.inl rfl)) jC))))))
   (au (aL (i:=12) cQ.nd rfl (Or.inl rfl) (bQ (aj (aP aM rfl Ux boot_tuple (aj (aR (fV (w:=w) rfl rfl hr.units) rfl UL boot_sorted (aj (aP (kZ (w:=w) rfl rfl) rfl VF boot_set (aj (pv 10) aq)) aq)) aq)) (aj (aP aM rfl Ux boot_tuple (aj (aR (fV (w:=w) rfl rfl hr.units) rfl UL boot_sorted (aj (aP (kZ (w:=w) rfl rfl) rfl VF boot_set (aj (pv 11) aq)) aq)) aq)) aq))))
  (aB (cN (dY PySem.F.plainAttrs_list PySem.F.slot_list_append PySem.F.type_list_append bJ (pv 6) (aj (bQ (aj (aP aM rfl Ux boot_tuple (aj (aR (bT (cj hr.units)) rfl UL boot_sorted (aj (pv 7) aq)) aq)) (aj (aP aM rfl Ux boot_tuple (aj (aR (bT (cj hr.units)) rfl UL boot_sorted (aj (pv 8) aq)) aq)) (aj (pv 9) (aj (pv 12) aq))))) aq))))))
  (aB (aW (bQ (aj (bA bw (pv 1) aA (λ_ _=>rfl)) (aj (bA bw (pv 1) aA (λ_ _=>rfl)) (aj (aP aM rfl Ux boot_tuple (aj (aR (bT (cj hr.units)) rfl UL boot_sorted (aj (pv 6) aq)) aq)) (aj (aP aM rfl Ux boot_tuple (aj (aR (bT (cj hr.units)) rfl UL boot_sorted (aj (bx (bZ hr) (pv 0) aF (λ_ _=>rfl)) aq)) aq)) aq))))))))))),?_⟩
 refine⟨smn 0,λT b1=>gN ?_⟩;have s1:=ao b1 (.lst []);have e1:(upd H T (.lst [])) T=some (.lst []):=ak;generalize upd H T (.lst [])=H1 at s1 e1 ⊢;have ag:=(hM.grow b1).same s1;refine⟨_,rfl,M.m,_,rfl,nR ag.m,M.lr,rfl,⟨_,SqL.of ag.lr⟩,?_⟩;have ed:M.lr≠T:=λz=>ag.off M.lr (by simp[Md.all]) (by rw[z];exact .head _)
 refine jh (K:=K0) (a:=M.lr) (xs:=[V.ref M.l0,V.ref M.l1]) (λi σ H2=>∃(v2 v3 v4 v5:Option V)(us:List V),σ=[some (.ref M.m),some (.ref T),v2,v3,v4,v5,none,none,none,none,none,none,none]/\But T H1 H2/\H2 T=some (.lst us)/\us.length=i/\bW H2 us ([D.tup (L.map bN),D.tup (R.map bN)].take i)) ⟨_,_,_,_,[],rfl,.of (Same.refl _),e1,rfl,trivial⟩ ?_ ?_ ?_
 .rintro i σ H2 _ ⟨_,_,_,_,_,_,b2,_⟩;exact SqL.of (b2 _ _ ag.lr ed)
 .rintro i y σ H2 hi ⟨v2,v3,v4,v5,us,rfl,b2,e2,bz,d2⟩;obtain⟨cl,rfl⟩:i<=1/\y=.ref (M.ln i):=by
   match i,hi with
   | 0,hi=>exact⟨by lia,(Xn hi).symm⟩
   | 1,hi=>exact⟨by lia,(Xn hi).symm⟩
  have bE:=ag.keep b2.keep;refine Nj λE1 b7=>gN ⟨smn 0,λlp a2=>gN ?_⟩
  have s3:=ao a2 (.lst []);have e3:(upd H2 lp (.lst [])) lp=some (.lst []):=ak;have en:T≠lp:=aD e2 a2;generalize upd H2 lp (.lst [])=H3 at s3 e3 ⊢;have r:=(bE.grow a2).same s3;obtain⟨_,a5⟩:=pG r cl;have f7:(sdP i L R).length<=60:=by have:=hT.lL;have:=hT.lR;unfold sdP;split <;> lia
  have ci:M.ln i≠lp:=λz=>by
   rcases Ro M i with e | e
   .exact r.off M.l0 (by simp[Md.all]) (by rw[← e,z];exact .head _)
   .exact r.off M.l1 (by simp[Md.all]) (by rw[← e,z];exact .head _)
  obtain⟨kt,et,_,dm⟩:=r.t.ex;obtain⟨kw,ew,_,_,eh⟩:=r.w.ex;have cd:∀ p∈sdP i L R,p∈L++R:=λp h=>Oi h
  refine⟨_,rfl,M.ln i,rfl,⟨_,SqL.of a5⟩,?_⟩;generalize hZ:sdP i L R=Z at *;refine jh (K:=K0) (a:=M.ln i) (xs:=cg Z) (λj σ v=>∃(v4 v5:Option V)(I:List V),σ=[some (.ref M.m),some (.ref T),some (.ref (M.ln i)),some (.ref lp),v4,v5,none,none,none,none,none,none,none]/\But lp H3 v/\v lp=some (.lst I)/\I.length=j/\bW v I ((Z.take j).map bN)) ⟨_,_,[],rfl,.of (Same.refl _),e3,rfl,trivial⟩ ?_ ?_ ?_
  .rintro j σ v _ ⟨_,_,_,_,G,_⟩;exact SqL.of (G _ _ a5 ci)
  .rintro j y σ v hj ⟨v4,v5,I,rfl,G,e4,as,d4⟩;have bn:j<Z.length:=by
    have:=(pN.mp hj).1;unfold cg at this
    rwa [XF] at this
   have ey:y=mkT Z[j].1:=by
    unfold cg at hj;rw[XC,bK bn] at hj;exact(Xn hj).symm
   have hq:=cd _ (getElem_mem bn);have Y:=take_one (bK bn);generalize Z[j]=q at ey hq Y;subst ey;have aT:=r.keep G.keep;have cT:=hT.mo q hq;obtain⟨iq,df⟩:=mem_iff_getElem?.mp hq;obtain⟨lw,ws,w0,w1,w3,w4,w5⟩:=eh iq q df;have w2:=(r.wo lw (Xu w0)).1;have c8:=G _ _ ew (λz=>r.off M.dw (by simp[Md.all]) (by rw[z];exact .head _));have c9:=G _ _ et (λz=>r.off M.dt (by simp[Md.all]) (by rw[z];exact .head _));have db:=G _ _ w3 (λz=>w2 (by rw[z];exact .head _));have dL:iH v M.dw (mkT q.1) (some (.ref lw)):=by rw[← w1];exact iH.k (k:=nk q.1) c8
   refine Nj λE2 dA=>gN ⟨_,rfl,M.m,_,rfl,Pj aT.m,_,rfl,M.dw,_,rfl,dL,lw,ws,rfl,SqL.of db,by lia,λsa ms U J u az=>⟨sa,ms,rfl,ak,(by have:=P0 J λk hk=>(w5 k).mp ((u k).mp hk);lia),λlo ns O g l=>⟨lo,_,rfl,.inl ⟨SqL.of ak,λtq dC=>?_⟩⟩⟩⟩
   have c4:ns=q.2.2:=zR J (λk=>(u k).trans (w5 k)) g l cT.1;subst c4;have C:=((ao U (.ext (intΦ w sa ms))).trans (ao O (.lst (q.2.2.map V.int)))).trans (ao dC (.tup (q.2.2.map V.int)));have e5:(upd (upd (upd v sa (.ext (intΦ w sa ms))) lo (.lst (q.2.2.map V.int))) tq (.tup (q.2.2.map V.int))) tq=some (.tup (q.2.2.map V.int)):=ak;generalize upd (upd (upd v sa (.ext (intΦ w sa ms))) lo (.lst (q.2.2.map V.int))) tq (.tup (q.2.2.map V.int))=H5 at C e5 ⊢;have a0:=aT.same C;have cS:iH H5 M.dt (mkT q.1) (some (mkT q.2.1)):=by rw[← dm q hq];exact iH.k (k:=nk q.1) (C _ _ c9)
   refine⟨_,rfl,.inl ⟨rfl,_,SqL.of (C _ _ e4)⟩,_,rfl,_,rfl,M.m,_,rfl,Pq a0.m,_,rfl,M.dt,_,rfl,cS,_,rfl,smn 3,λt ht=>?_⟩;have s6:=ao ht (.tup [mkT q.1,mkT q.2.1,.ref tq]);have e6:(upd H5 t (.tup [mkT q.1,mkT q.2.1,.ref tq])) t=some (.tup [mkT q.1,mkT q.2.1,.ref tq]):=ak;generalize upd H5 t (.tup [mkT q.1,mkT q.2.1,.ref tq])=H6 at s6 e6 ⊢;have aE:=s6 _ _ (C _ _ e4);refine⟨lp,I,_,rfl,rfl,aE,aH (by lia),dA.n _ _ ⟨_,_,I++[.ref t],rfl,(G.trans (.of (C.trans s6))).trans (.upd _),ak,by rw[Xr,as];rfl,?_⟩⟩;rw[Y,map_append];exact dU (((d4.same C).same s6).keepT (j4 aE)) ⟨⟨t,_,rfl,j4 aE _ _ e6,rfl,rfl,⟨tq,_,rfl,j4 aE _ _ (s6 _ _ e5),jz _ _⟩,trivial⟩,trivial⟩
  .rintro σ v ⟨v4,v5,I,rfl,G,e4,as,d4⟩;have es:(cg Z).length=Z.length:=by unfold cg;rw[XF]
   rw[es,take_length] at d4;have b8:=G _ _ (s3 _ _ e2) en;refine⟨_,rfl,.inl ⟨rfl,_,SqL.of b8⟩,_,rfl,lp,_,rfl,.inl ⟨SqL.of e4,λtp di=>?_⟩⟩;have C:=ao di (.tup I);have e5:(upd v tp (.tup I)) tp=some (.tup I):=ak;generalize upd v tp (.tup I)=H5 at C e5 ⊢;have aI:=C _ _ b8;have ds:bW H5 us ([D.tup (L.map bN),D.tup (R.map bN)].take i):=(((d2.same s3).keepT (G.tup e3)).same C)
   have Y:[D.tup (L.map bN),D.tup (R.map bN)].take (i+1)=[D.tup (L.map bN),D.tup (R.map bN)].take i++[D.tup (Z.map bN)]:=by
    rw[← hZ]
    match i,cl with
    | 0,_=>rfl
    | 1,_=>rfl
   refine⟨T,us,_,rfl,rfl,aI,aH (by lia),b7.n _ _ ⟨_,_,_,_,us++[.ref tp],rfl,λc o e n=>?_,ak,by rw[Xr,bz];rfl,?_⟩⟩
   .rw[aG n];have h2:=b2 c o e n;exact C _ _ (G _ _ (s3 _ _ h2) (aD h2 a2))
   .rw[Y];exact dU (ds.keepT (j4 aI)) ⟨⟨tp,_,rfl,j4 aI _ _ e5,(d4.same C).keepT (j4 aI)⟩,trivial⟩
 .rintro σ H2 ⟨v2,v3,v4,v5,us,rfl,b2,e2,bz,d2⟩;obtain⟨u0,u1,rfl⟩:∃ u0 u1,us=[u0,u1]:=by
   match us,bz with
   | [u0,u1],_=>exact⟨u0,u1,rfl⟩
  have d0:Den H2 u0 (.tup (L.map bN)):=d2.1;have d1:Den H2 u1 (.tup (R.map bN)):=d2.2.1;have bE:=ag.keep b2.keep;have ca:Same H H2:=But.same s1 b1 b2;clear d2 b2;refine⟨smn 0,λlk a3=>gN ?_⟩;have s3:=ao a3 (.lst []);have e3:(upd H2 lk (.lst [])) lk=some (.lst []):=ak;have dT:T≠lk:=aD e2 a3;generalize upd H2 lk (.lst [])=H3 at s3 e3 ⊢;have r:=(bE.grow a3).same s3;obtain⟨ws,cb,dq,_,dx⟩:=r.lk.ex;have co:M.lk≠lk:=λz=>r.off M.lk (by simp[Md.all]) (by rw[z];exact .head _)
  refine⟨_,rfl,M.m,_,rfl,rm r.m,M.lk,rfl,⟨_,SqL.of cb⟩,?_⟩;refine jh (K:=K0) (a:=M.lk) (xs:=ws) (λi σ v=>∃(v7 v8 v9 bS b0 bq:Option V)(I:List V)(kn:List Lnk),σ=[some (.ref M.m),some (.ref T),v2,v3,v4,v5,some (.ref lk),v7,v8,v9,bS,b0,bq]/\But lk H3 v/\v lk=some (.lst I)/\I.length=i/\mF (ks.take i) kn/\bW v I (kn.map aX)) ⟨_,_,_,_,_,_,[],[],rfl,.of (Same.refl _),e3,rfl,trivial,trivial⟩ ?_ ?_ ?_
  .rintro i σ v _ ⟨_,_,_,_,_,_,_,_,_,G,_⟩;exact SqL.of (G _ _ cb co)
  .rintro i y σ v hi ⟨v7,v8,v9,bS,b0,bq,I,kn,rfl,G,e4,as,af,d4⟩;have b5:i<ks.length:=by
    have:=(pN.mp hi).1;lia
   obtain⟨q,a,b,c,d,rfl,n1,n2,n3,n4,n5,f1,f2,f3,f4,f5⟩:=(dx i y _ hi (bK b5)).ex;have er:=hT.kn _ (getElem_mem b5);have Y:=take_one (bK b5);generalize ks[i]=kk at f1 f2 f3 f4 f5 er Y;have kp:∀ {x:Addr}{o:HO},H3 x=some o->x ∉ M.all++M.W++lk::T::S->v x=some o:=λe n=>G _ _ e λz=>n (by rw[z];simp)
   have f1:=kp f1 n1;have f2:=kp f2 n2;have f3:=kp f3 n3;have f4:=kp f4 n4;have f5:=kp f5 n5;refine Nj λE1 b7=>⟨q,_,rfl,SqL.of f1,rfl,_,_,rfl,_,_,rfl,_,_,rfl,_,_,rfl,_,_,rfl,rfl,?_⟩
   refine⟨_,rfl,c,_,rfl,SqL.of f4,by lia,λsa ms U J u az=>⟨sa,ms,rfl,ak,by lia,λlo ns O g l=>⟨lo,_,rfl,.inl ⟨SqL.of ak,λt1 b9=>?_⟩⟩⟩⟩;have u3:=Bo J g l;have m3:∀ n,n∈ns↔n∈kk.2.2.2.1:=λn=>g.mem_iff.trans (u n)
   have C:=((ao U (.ext (intΦ w sa ms))).trans (ao O (.lst (ns.map V.int)))).trans (ao b9 (.tup (ns.map V.int)));have e5:(upd (upd (upd v sa (.ext (intΦ w sa ms))) lo (.lst (ns.map V.int))) t1 (.tup (ns.map V.int))) t1=some (.tup (ns.map V.int)):=ak;generalize upd (upd (upd v sa (.ext (intΦ w sa ms))) lo (.lst (ns.map V.int))) t1 (.tup (ns.map V.int))=H5 at C e5 ⊢;clear U O b9 J u az g l;refine⟨_,rfl,d,_,rfl,SqL.of (C _ _ f5),by lia,λsa ms U J u az=>⟨sa,ms,rfl,ak,by lia,λlo B O g l=>⟨lo,_,rfl,.inl ⟨SqL.of ak,λt2 cm=>?_⟩⟩⟩⟩;have u4:=Bo J g l;have m4:∀ n,n∈B↔n∈kk.2.2.2.2:=λn=>g.mem_iff.trans (u n)
   have s6:=((ao U (.ext (intΦ w sa ms))).trans (ao O (.lst (B.map V.int)))).trans (ao cm (.tup (B.map V.int)));have e6:(upd (upd (upd H5 sa (.ext (intΦ w sa ms))) lo (.lst (B.map V.int))) t2 (.tup (B.map V.int))) t2=some (.tup (B.map V.int)):=ak;generalize upd (upd (upd H5 sa (.ext (intΦ w sa ms))) lo (.lst (B.map V.int))) t2 (.tup (B.map V.int))=H6 at s6 e6 ⊢;clear U O cm J u az g l;refine⟨smn 2,λt3 du=>?_⟩;have s7:=ao du (.tup [.ref t1,.ref t2]);have e7:(upd H6 t3 (.tup [.ref t1,.ref t2])) t3=some (.tup [.ref t1,.ref t2]):=ak;generalize upd H6 t3 (.tup [.ref t1,.ref t2])=H7 at s7 e7 ⊢;have N:=(C.trans s6).trans s7;have dl:Den H7 (.ref t3) (.tup [FZ ns,FZ B]):=⟨t3,_,rfl,e7,⟨t1,_,rfl,(s6.trans s7) _ _ e5,jz _ _⟩,⟨t2,_,rfl,s7 _ _ e6,jz _ _⟩,trivial⟩
   refine⟨_,rfl,.inl ⟨rfl,_,SqL.of (N _ _ e4)⟩,_,rfl,a,_,_,rfl,.inl (SqL.of (N _ _ f2)),dB _ kk.1,iw kk.1,by rw[XF];lia,λx hx=>?_,λl8 f6 fp cK dn eq dd=>⟨l8,_,rfl,.inl ⟨SqL.of ak,λt4 dS=>?_⟩⟩⟩
   .obtain⟨y,_,rfl⟩:=mem_map.mp hx;exact cZ (n:=0) (eN _) 50
   obtain⟨x8,ek,rfl⟩:=ST.dg dn.symm rfl;have el:=Cd dd;subst el;have s8:=(ao cK (.lst (x8.map mkT))).trans (ao dS (.tup (x8.map mkT)));have e8:(upd (upd H7 l8 (.lst (x8.map mkT))) t4 (.tup (x8.map mkT))) t4=some (.tup (x8.map mkT)):=ak;generalize upd (upd H7 l8 (.lst (x8.map mkT))) t4 (.tup (x8.map mkT))=H8 at s8 e8 ⊢;have cf:=N.trans s8;refine⟨_,rfl,b,_,_,rfl,.inl (SqL.of (cf _ _ f3)),dB _ kk.2.1,iw kk.2.1,by rw[XF];lia,λx hx=>?_,λl9 fE fc dV ej eu de=>⟨l9,_,rfl,.inl ⟨SqL.of ak,λt5 bu=>?_⟩⟩⟩
   .obtain⟨y,_,rfl⟩:=mem_map.mp hx;exact cZ (n:=0) (eN _) 50
   obtain⟨x9,d5,rfl⟩:=ST.dg ej.symm rfl;have cF:=Cd de;subst cF;have s9:=(ao dV (.lst (x9.map mkT))).trans (ao bu (.tup (x9.map mkT)));have e9:(upd (upd H8 l9 (.lst (x9.map mkT))) t5 (.tup (x9.map mkT))) t5=some (.tup (x9.map mkT)):=ak;generalize upd (upd H8 l9 (.lst (x9.map mkT))) t5 (.tup (x9.map mkT))=H9 at s9 e9 ⊢;refine⟨_,rfl,_,rfl,smn 4,λt6 b3=>?_⟩;have sa:=ao b3 (.tup [.ref t4,.ref t5,.int kk.2.2.1,.ref t3]);have ea:(upd H9 t6 (.tup [.ref t4,.ref t5,.int kk.2.2.1,.ref t3])) t6=some (.tup [.ref t4,.ref t5,.int kk.2.2.1,.ref t3]):=ak;generalize upd H9 t6 (.tup [.ref t4,.ref t5,.int kk.2.2.1,.ref t3])=Ha at sa ea ⊢;have bP:=s9.trans sa;have b6:=cf.trans bP;have bl:=b6 _ _ e4;have dk:Den Ha (.ref t6) (aX (x8,x9,kk.2.2.1,ns,B)):=⟨t6,_,rfl,ea,⟨t4,_,rfl,bP _ _ e8,dB _ _⟩,⟨t5,_,rfl,sa _ _ e9,dB _ _⟩,rfl,dl.same (s8.trans bP),trivial⟩
   refine⟨lk,I,_,rfl,rfl,bl,aH (by have:=hT.lk;lia),b7.n _ _ ⟨_,_,_,_,_,_,I++[.ref t6],kn++[(x8,x9,kk.2.2.1,ns,B)],rfl,(G.trans (.of b6)).trans (.upd _),ak,by rw[Xr,as];rfl,?_,?_⟩⟩
   .rw[Y];exact af.app ⟨⟨ek,eq,d5,eu,rfl,u3,m3,u4,m4⟩,trivial⟩
   rw[map_append];exact dU ((d4.same b6).keepT (j4 bl)) ⟨dk.keepT (j4 bl),trivial⟩
  .rintro σ v ⟨v7,v8,v9,bS,b0,bq,I,kn,rfl,G,e4,as,af,d4⟩;rw[dq,take_length] at af;have eQ:=af.len;have eA:=hT.lk;have cn:=G _ _ (s3 _ _ e2) dT;have aT:=r.keep G.keep;have k4:∀(b:Addr)(vs:List V),H2 b=some (.tup vs)->v b=some (.tup vs):=λb vs e=>G.tup e3 _ _ (s3 _ _ e)
   have c2:Same H v:=λx o e=>G _ _ (s3 _ _ (ca _ _ e)) (aD (ca _ _ e) a3)
   refine⟨_,rfl,ixL (p:=T) rfl rfl (SqL.of cn) (bF _ _) (⟨ _,rfl,ixL (p:=T) rfl rfl (SqL.of cn) (aZ (xs:=[u0,u1]) (j:=1) rfl) (?_)⟩)⟩;refine⟨_,rfl,lk,I,_,rfl,.inl (SqL.of e4),d4,J2 kn,by rw[XF];lia,λx hx=>?_,λl5 X fN dQ c3 eo da=>⟨l5,_,rfl,.inl ⟨SqL.of ak,λt5 bu=>?_⟩⟩⟩
   .obtain⟨y,hy,rfl⟩:=mem_map.mp hx;obtain⟨k',dy,dp⟩:=af.mem hy;have fw:=dp.lens (hT.kn k' dy);exact show dz 50 _ from cZ (n:=3) (jN (k:=y) ⟨by lia,by lia,by lia,by lia⟩) 47
   obtain⟨kb,dj,rfl⟩:=ST.dg c3.symm rfl;have C:=(ao dQ (.lst X)).trans (ao bu (.tup X));have e5:(upd (upd v l5 (.lst X)) t5 (.tup X)) t5=some (.tup X):=ak;generalize upd (upd v l5 (.lst X)) t5 (.tup X)=H5 at C e5 ⊢;have a0:=aT.same C;have eB:=hT.la;refine⟨_,rfl,M.m,_,rfl,kJ a0.m,M.la,_,_,rfl,.inl (SqL.of a0.la),dB _ al,iw al,by rw[XF];lia,λx hx=>?_,λl6 fF fm ei eb dr c1=>⟨l6,_,rfl,.inl ⟨SqL.of ak,λt6 b3=>⟨smn 4,λt ht=>?_⟩⟩⟩⟩
   .obtain⟨y,_,rfl⟩:=mem_map.mp hx;exact cZ (n:=0) (eN _) 50
   obtain⟨ab,eg,rfl⟩:=ST.dg eb.symm rfl;have c7:=Cd c1;subst c7;have s6:=(ao ei (.lst (ab.map mkT))).trans (ao b3 (.tup (ab.map mkT)));have e6:(upd (upd H5 l6 (.lst (ab.map mkT))) t6 (.tup (ab.map mkT))) t6=some (.tup (ab.map mkT)):=ak;generalize upd (upd H5 l6 (.lst (ab.map mkT))) t6 (.tup (ab.map mkT))=H6 at s6 e6 ht ⊢;have s7:=ao ht (.tup [u0,u1,.ref t5,.ref t6]);have br:=s6.trans s7;have N:=C.trans br;exact k (.ref t) kb ab _ (c2.trans N) ⟨t,_,rfl,ak,(d0.keepT k4).same N,(d1.keepT k4).same N,⟨t5,_,rfl,br _ _ e5,(da.same C).same br⟩,⟨t6,_,rfl,s7 _ _ e6,dB _ _⟩,trivial⟩ ⟨⟨kn,af,dj⟩,eo⟩ ⟨eg,dr⟩
def O5{o:Option Nat}:(!decide (V.str (wdE o)=V.str (Str.ofString "")))=true↔o≠none:=by
 match o with
 | none=>exact⟨λz=>absurd z (by decide +kernel),λz=>absurd rfl z⟩
 | some 0=>exact⟨λ_ z=>(nomatch z),λ_=>by decide +kernel⟩
 | some 1=>exact⟨λ_ z=>(nomatch z),λ_=>by decide +kernel⟩
 | some 2=>exact⟨λ_ z=>(nomatch z),λ_=>by decide +kernel⟩
 | some 3=>exact⟨λ_ z=>(nomatch z),λ_=>by decide +kernel⟩
 | some (n+4)=>exact⟨λ_ z=>(nomatch z),λ_=>by show(!decide (V.str (Str.ofString "Apart")=V.str (Str.ofString "")))=true;decide +kernel⟩
def vd{L R:List Prt}{ks:List Lnk}{al:Nms}(h:Fit L R ks al):dz 5 (fG L R ks al):=by
 have c:=h.sm.1;have e:=h.sm.2.1;have g:=h.kl;have f:=h.sl;refine cY (by show 4<=100000;lia) λd hd=>?_
 simp only[mem_cons,not_mem_nil,or_false] at hd;rcases hd with rfl | rfl | rfl | rfl
 .refine cY (by rw[XF];lia) λd hd=>?_
  obtain⟨p,a,rfl⟩:=mem_map.mp hd;exact(j8 (by have:=h.sm.2.2 p (Xx _ a);lia)).up
 .refine cY (by rw[XF];lia) λd hd=>?_
  obtain⟨p,a,rfl⟩:=mem_map.mp hd;exact(j8 (by have:=h.sm.2.2 p (Xw _ a);lia)).up
 .refine cY (by rw[XF];lia) λd hd=>?_
  obtain⟨k,b,rfl⟩:=mem_map.mp hd;exact jN (h.lk k b)
 .exact(gq (by lia)).up.up.up
def Ck(n:Nat)(x:List Nat):Pl n (sD x):=by cases n <;> exact trivial
def J8(n:Nat)(x:Int):Pl n (.int x):=by cases n <;> exact trivial
def Cy{n:Nat}{ms:List Int}(h:ms.length<=1000):Pl (n+1) (FZ ms):=⟨by rw[XF];exact h,λd hd=>by
 obtain⟨i,_,rfl⟩:=mem_map.mp hd;exact J8 _ _⟩
def tu{n:Nat}{ns:Nms}(h:ns.length<=1000):Pl (n+1) (fM ns):=⟨by rw[XF];exact h,λd hd=>by
 obtain⟨i,_,rfl⟩:=mem_map.mp hd;exact Ck _ _⟩
def Bk{n:Nat}{p:Prt}(h:p.2.2.length<=1000):Pl (n+2) (bN p):=⟨by show 3<=1000;lia,λd hd=>by
 simp only[mem_cons,not_mem_nil,or_false] at hd;rcases hd with rfl | rfl | rfl
 .exact Ck _ _
 .exact Ck _ _
 .exact Cy h⟩
def Kf{k:Lnk}(h:LkS k):Pl 3 (aX k):=⟨by show 4<=1000;lia,λd hd=>by
 obtain⟨e,c,b,a⟩:=h;simp only[mem_cons,not_mem_nil,or_false] at hd;rcases hd with rfl | rfl | rfl | rfl
 .exact tu (by lia)
 .exact tu (by lia)
 .exact J8 _ _
 .refine⟨by show 2<=1000;lia,λd hd=>?_⟩;simp only[mem_cons,not_mem_nil,or_false] at hd;rcases hd with rfl | rfl
  .exact Cy (by lia)
  .exact Cy (by lia)⟩
def Lr{L R:List Prt}{ks:List Lnk}{al:Nms}(h:Fit L R ks al):Pl 5 (fG L R ks al):=⟨by show 4<=1000;lia,λd hd=>by
 simp only[mem_cons,not_mem_nil,or_false] at hd;have c:=h.sm.1;have e:=h.sm.2.1;have g:=h.kl;have f:=h.sl;rcases hd with rfl | rfl | rfl | rfl
 .refine⟨by rw[XF];lia,λd hd=>?_⟩;obtain⟨p,a,rfl⟩:=mem_map.mp hd;exact Bk (h.sm.2.2 p (Xx _ a))
 .refine⟨by rw[XF];lia,λd hd=>?_⟩;obtain⟨p,a,rfl⟩:=mem_map.mp hd;exact Bk (h.sm.2.2 p (Xw _ a))
 .refine⟨by rw[XF];lia,λd hd=>?_⟩;obtain⟨k,b,rfl⟩:=mem_map.mp hd;exact Kf (h.lk k b)
 .exact tu (by lia)⟩
def fH.shrink{S T:List Addr}{H:Hp}{M:Md}{L R:List Prt}{ks:List Lnk}{al:Nms}(h:fH S H M L R ks al)(hs:∀ a∈T,a∈S):fH T H M L R ks al:=by
 have c:∀ {b:Addr},b ∉ M.all++M.W++S->b ∉ M.all++M.W++T:=λn z=>by
  rcases mem_append.mp z with z | z
  .exact n (Xx _ z)
  .exact n (Xw _ (hs _ z))
 obtain⟨B,F,f,d,g⟩:=h.lk.ex;refine⟨h.m,h.t,h.w,h.lr,h.l0,h.l1,⟨B,F,f,d,λi u k o p=>?_⟩,h.la,λb y z=>h.off b y (hs _ z),h.nd,λa j=>⟨λz=>(h.wo a j).1 (hs _ z),(h.wo a j).2⟩,h.wn⟩;obtain⟨q,I,N,l,s,e,E,A,r,K,D,C,G,J,v,x⟩:=(g i u k o p).ex;exact⟨q,I,N,l,s,e,c E,c A,c r,c K,c D,C,G,J,v,x⟩
def fH.no_tup{S:List Addr}{H:Hp}{M:Md}{L R:List Prt}{ks:List Lnk}{al:Nms}(h:fH S H M L R ks al){a:Addr}{b:List V}(ha:H a=some (.tup b)):a ∉ M.all:=λz=>by
 obtain⟨g,f,_⟩:=h.t.ex;obtain⟨i,d,_⟩:=h.w.ex;obtain⟨j,c,_⟩:=h.lk.ex;have no:∀ {o:HO},H a=some o->(∀ b,o≠.tup b)->False:=λe n=>by
  rw[ha] at e;exact n b (Xn e).symm
 simp only[Md.all,mem_cons,not_mem_nil,or_false] at z;rcases z with rfl | rfl | rfl | rfl | rfl | rfl | rfl | rfl
 .exact no h.m λ_ q=>by cases q
 .exact no f λ_ q=>by cases q
 .exact no d λ_ q=>by cases q
 .exact no h.lr λ_ q=>by cases q
 .exact no h.l0 λ_ q=>by cases q
 .exact no h.l1 λ_ q=>by cases q
 .exact no c λ_ q=>by cases q
 .exact no h.la λ_ q=>by cases q
def lO.keepT{H H':Hp}{pd:Addr}{t:Int}{d:Dd}(h:lO H pd t d)(s:∀(b:Addr)(vs:List V),H b=some (.tup vs)->H' b=some (.tup vs)):lO H' pd t d:=by
 cases d with
 | link xs ys=>obtain⟨p,q,c,e,a⟩:=h;exact⟨p,q,s _ _ c,s _ _ e,s _ _ a⟩
 | loose x=>exact s _ _ h
 | step x=>exact s _ _ h
 | alone x=>exact s _ _ h
 | lack x=>exact s _ _ h
def Hw{a b:Prop}[Decidable a][Decidable b]{n e:Nat}(hn:n<=4)(h:(if a then (if b then none else some n) else some 0:Option Nat)=some e):e<=4:=by
 by_cases ha:a
 .by_cases hb:b
  .rw[if_pos ha,if_pos hb] at h;cases h
  .rw[if_pos ha,if_neg hb] at h;cases h;exact hn
 .rw[if_neg ha] at h;cases h;lia
def Ru{L R:List Prt}{ks:List Lnk}{al:Nms}{d:Dd}{e:Nat}(h:dE L R ks al d=some e):e<=4:=by
 cases d with
 | link xs ys =>
  have h:mz L R ks al xs ys=some e:=h;unfold mz at h;split at h
  .split at h
   .cases h;lia
   .split at h
    .cases h
    .cases h;lia
  .cases h;lia
 | loose x=>exact Hw (by decide) (show(if isP L R x=true then (if (eE L ks x).isSome=true then none else some 4) else some 0:Option Nat)=some e from h)
 | step x=>exact Hw (by decide) (show(if isP L R x=true then (if (eE L ks x).isSome=true then none else some 4) else some 0:Option Nat)=some e from h)
 | alone x=>exact Hw (by decide) (show(if isP L R x=true then (if fX L ks al x=true then none else some 3) else some 0:Option Nat)=some e from h)
 | lack x=>exact Hw (by decide) (show(if isP L R x=true then (if x∈al then none else some 4) else some 0:Option Nat)=some e from h)
def Ir{M:Md}{H H':Hp}(k:Keep [M.lk] H H'):Eu M H H':=λa o h n _=>k a o h λz=>n (by rw[mem_singleton.mp z];simp[Md.all])
def Tv{S:List Addr}{H:Hp}{M:Md}{L R:List Prt}{ks:List Lnk}{al:Nms}{pd:Addr}{t:Int}{d:Dd}{Q:VK}{E:XK}(hM:fH S H M L R ks al)(hS:Liv S H)(hd:lO H pd t d)(hsm:d.sm)(hk:ks.length<=900)(ha:al.length<=900)(k1:∀ e,mE L R ks al d=some e->∀ a,Same H a->Q (.str (wdE (some e))) a)
  (k2:mE L R ks al d=none->∀(a:Hp)(M':Md)(ks':List Lnk)(c:Nms),M'.m=M.m/\M'.b=M.b->Eu M H a->fH S a M' L R ks' c->MAf ks al t ks' c d->Q (.str (wdE none)) a):J9 [.ref M.m,.ref pd] H Q E:=by
 cases d with
 | link xs ys =>
  obtain⟨p,q,g,i,f⟩:=hd;exact .inl ⟨S,M,L,R,ks,al,pd,p,q,t,xs,ys,rfl,hM,hS,g,i,f,hsm.2.1,hsm.2.2.1,hk,k1,λh a k m=>k2 h a M _ _ ⟨rfl,rfl⟩ (Ir k) m ⟨rfl,rfl⟩⟩
 | loose x=>exact .inr ⟨S,M,L,R,ks,al,pd,t,x,.loose,rfl,hM,hS,hd,hk,ha,k1,k2⟩
 | step x=>exact .inr ⟨S,M,L,R,ks,al,pd,t,x,.step,rfl,hM,hS,hd,hk,ha,k1,k2⟩
 | alone x=>exact .inr ⟨S,M,L,R,ks,al,pd,t,x,.alone,rfl,hM,hS,hd,hk,ha,k1,k2⟩
 | lack x=>exact .inr ⟨S,M,L,R,ks,al,pd,t,x,.lack,rfl,hM,hS,hd,hk,ha,k1,k2⟩
def Bw{L R:List Prt}{z:List Nat}:decide (dh L R z=V.non)=decide (z ∉ (L++R).map (·.1)):=by
 have h:(cL (L++R) z).isSome=decide (z∈(L++R).map (·.1)):=dI;by_cases hz:z∈(L++R).map (·.1)
 .have a:dh L R z≠.non:=by
   unfold dh;rw[if_pos (h.trans (XD hz))];intro q;cases q
  rw[Xp a,Xp (show ¬ z ∉ (L++R).map (·.1) from λq=>q hz)]
 .have a:dh L R z=.non:=by
   unfold dh;rw[if_neg (by rw[h,Xp hz];decide)]
  rw[XD a,XD hz]
def xW(K:W.Frag)(te:Addr)(A C:Nat->Addr):Sp:=λb H Q _=>∃(d lo ls:Addr)(v:V)(L R:List Prt)(kb:List Lnk)(ab sp:Nms),b=[.ref d,v,.ref ls,.int 40]/\bh d lo H/\Den H v (fG L R kb ab)/\H ls=some (.lst (sp.map mkT))/\ls≠lo/\Wk L R kb ab kb ab sp/\(∀ e,e<=4->KC K te A e/\C e=A e)/\∀ a,Q (.bl true) a
section
variable {Us Uw Ur Uv Ut Uu Uy Uz:Addr}
def fU:aU ["_law_pot_here","_law_book_here","_law_spare","_law_many","_law_model_here","_law_k","_law_deed_here","_law_told","_law_word"] ["_law_pot_here","_law_book_here","_law_spare","_law_many"] (aC pI):=⟨rfl,rfl,rfl,by decide +kernel,rfl,by decide +kernel,by decide +kernel⟩
def Ii(h:Has K mg "_law_walked" pI ["_law_pot_here","_law_book_here","_law_spare","_law_many"])(V9:Cal P w K mg base "_law_model" 1 ["_law_book_here"] Dg)(Wo:Cal P w K mg base "_law_deed" 4 ["_law_pot_here","_law_model_here","_law_spare"] JB)(VG:Cal P w K mg base "_law_tried" 8 ["_law_book_here","_law_deed_here"] (BZ K Uw (a7 Us Ur Uv Ut Uu Uy Uz) (c5 Us Ur Uv Ut Uu)))(W6:Cal P w K mg base "_law_do" 3 ["_law_model_here","_law_deed_here"] J9)(Vz:Cal P w K mg base "_law_kinds" 6 ["_law_thing"] (CQ 6))(VB:Cal P w K mg base "_law_as_book" 1 ["_law_model_here"] yZ)(Vq:Cal P w K mg base "_law_side" 1 ["_law_model_here","_law_name"] yQ)(UW:mg "range" = none):Cal P w K mg base "_law_walked" 9 ["_law_pot_here","_law_book_here","_law_spare","_law_many"] (xW K Uw (a7 Us Ur Uv Ut Uu Uy Uz) (c5 Us Ur Uv Ut Uu)):=by
 refine h.mk' fU (λvs H Q E hs=>?_) (λf er A outer s H vs Q E hr hs=>?_)
 .obtain⟨d,lo,O,v,L,R,U,ab,sp,rfl,_⟩:=hs
  rfl
 obtain⟨d,lo,O,v,L,R,U,ab,sp,rfl,hp,hv,a6,ai,S,cE,k⟩:=hs;refine⟨_,(au (aL (i:=4) fU.nd rfl (Or.inr rfl) (aN V9 hr (by decide) rfl (aj (pv 1) aq)))
  (au (dJ PassesOwn.never rfl (cX rfl UW (aj (pv 3) aq)) (aK (i:=5) fU.nd rfl (Or.inl rfl))
   (au (aL (i:=6) fU.nd rfl (Or.inl rfl) (aN Wo hr (by decide) rfl (aj (pv 0) (aj (pv 4) (aj (pv 2) aq)))))
  (au (uY (aN VG hr (by decide) rfl (aj (pv 1) (aj (pv 6) aq))) (lA (n:=2) rfl (bH (aK (i:=7) fU.nd rfl (Or.inl rfl)) (bH (aK (i:=8) fU.nd rfl (Or.inl rfl)) jC))))
  (au (cB (aQ Fp (pv 8) (aN W6 hr (by decide) rfl (aj (pv 4) (aj (pv 6) aq))) (bC _))
   (aB (aW zV))
   bf)
  (au (cB (aQ gJ (pv 8) aF (bC _))
   (au (cB (PW.pt (vM (aQ (JQ hr.units) (pv 7) (aN VB hr (by decide) rfl (aj (pv 4) aq)) (bC _)) (nG (uK (jr (aN Vz hr (by decide) rfl (aj (pv 7) aq)))))))
   (aB (aW zV))
   bf)
  (au (cB (aQ (JQ hr.units) (aN VG hr (by decide) rfl (aj (pv 1) (aj (pv 6) aq))) (bQ (aj (pv 7) (aj aF aq))) (bC _))
   (aB (aW zV))
   bf)
  (aB (aL (i:=1) fU.nd rfl (Or.inl rfl) (pv 7)))))
   bf)
  (aB (pL (ix:=2) fU.nd rfl rfl ["_law_pot_here","_law_book_here","_law_spare","_law_many","_law_model_here","_law_k","_law_deed_here","_law_told","_law_word"] (aC pI) ["_law_model_here","_law_name"] [some 4,none] rfl rfl rfl (eG (pv 2)) rfl (by decide +kernel) (by decide +kernel) (by decide +kernel) (by decide +kernel) (hg:=λcl C s H ex pn E=>(aK (i:=1) (by decide +kernel:(["_law_model_here","_law_name"]:List Str).Nodup) rfl (Or.inl rfl))) (ht:=λcl C s H ex pn E=>(j5 (aQ qR (aN Vq hr (by decide) rfl (aj (pv 0) (aj (pv 1) aq))) dF (bC _)))) (he:=λcl C s H ex pn E=>(pv 1)))))))))
  (aB (aW zV)))),?_⟩
 have bS:∀ {F:Hp}{l:Addr}{vs:List V},bh d lo F->F l=some (.lst vs)->Liv [l,d,lo] F:=λh hl a ha=>by
  obtain⟨cs,x,y,z,e1,e2,_⟩:=h;simp only[mem_cons,not_mem_nil,or_false] at ha;rcases ha with rfl | rfl | rfl
  .exact⟨_,hl⟩
  .exact⟨_,e1⟩
  .exact⟨_,e2⟩
 have w1:=S.lL;have w2:=S.lR;have w3:=S.lk;refine⟨_,rfl,[O,d,lo],v,L,R,U,ab,rfl,hv,bS hp a6,by lia,by lia,by lia,S.nd,λp hp=>(S.mo p hp).2.1,λM H1 s1 ah hM=>?_⟩;refine⟨_,rfl,40,rfl,by lia,by lia,?_⟩;refine iJ (lo:=0) (n:=(40:Int).toNat) (λi σ F=>∃(v5 v6 v7 v8:Option V)(v:V)(O:Addr)(M:Md)(ks U:List Lnk)(al ab:Nms),σ=[some (.ref d),some v,some (.ref O),some (.int 40),some (.ref M.m),v5,v6,v7,v8]/\bh d lo F/\Den F v (fG L R U ab)/\fH [O,d,lo] F M L R ks al/\M.b=60/\F O=some (.lst (sp.map mkT))/\O≠lo/\Wk L R ks al U ab sp) ⟨_,_,_,_,v,O,M,U,U,ab,ab,rfl,hp.same s1,hv.same s1,hM,ah,s1 _ _ a6,ai,S⟩ ?_ ?_
 .clear hp hv a6 ai S hM s1 ah H1 v O M U ab w1 w2 w3;rintro i σ H1 hi ⟨v5,v6,v7,v8,v,O,M,ks,U,al,ab,rfl,p1,dv,bu,ah,b0,ai,S⟩;have w1:=S.lL;have w2:=S.lR;have w3:=S.lk;have w4:=S.la;have dQ:=S.su;have bd:(L++R).length<=200:=by rw[Xr];lia
  have bp:=S.fit;have hMd:fH [d,lo] H1 M L R ks al:=bu.shrink λa ha=>Xm _ ha
  have bm:∀ z∈(L++R).map (·.1)++sp,z.length<=400:=λz hz=>by
   rcases mem_append.mp hz with h | h
   .obtain⟨p,hp,e⟩:=mem_map.mp h;rw[← e];exact(S.mo p hp).2.2
   .exact S.sm z h
  refine Nj λE hE=>gN ?_
  refine rO (λσ F=>∃(W:Addr)(dd:Dd)(t:Int),σ=[some (.ref d),some v,some (.ref O),some (.int 40),some (.ref M.m),some (.int (0+(i:Nat))),some (.ref W),v7,v8]/\bh d lo F/\Old d lo H1 F/\lO F W t dd/\dd.sm) (λN Z=>?_) ?_
  .refine⟨_,rfl,_,rfl,_,rfl,d,lo,O,M,L,R,ks,al,sp,rfl,p1,hMd,b0,ai,S.sl,by lia,bd,λW t x s H2 hx aa _ _ p2 o2=>?_,λW p q t xs ys H2 aa df c3 nx lx ly ck _ _ p2 o2=>Z _ _ ⟨W,.link xs ys,t,rfl,p2,o2,⟨p,q,aa,df,c3⟩,λx hx=>bm x (ck x hx),lx,ly,nx⟩⟩;have aw:=bm x hx;cases s with
   | loose=>exact Z _ _ ⟨W,.loose x,t,rfl,p2,o2,aa,aw⟩
   | step=>exact Z _ _ ⟨W,.step x,t,rfl,p2,o2,aa,aw⟩
   | alone=>exact Z _ _ ⟨W,.alone x,t,rfl,p2,o2,aa,aw⟩
   | lack=>exact Z _ _ ⟨W,.lack x,t,rfl,p2,o2,aa,aw⟩
  rintro σ H2 ⟨W,dd,t,rfl,p2,o2,bE,ax⟩;have b7:=dv.keepT (dW p1 o2);have cK:=bu.keep ((Keep.old o2).mono λa ha=>Xm _ ha);have bX:=xR p1 o2 b0 ai;have X:=S.err dd;have a4:∀ e,dE L R U ab dd=some e->e<=4:=λe he=>Ru he
  generalize ho:dE L R U ab dd=o at X a4;have aE:∀ e,o=some e->e<=4/\KC K Uw (a7 Us Ur Uv Ut Uu Uy Uz) e/\c5 Us Ur Uv Ut Uu e=a7 Us Ur Uv Ut Uu Uy Uz e:=λe he=>⟨a4 e he,cE e (a4 e he)⟩
  have ag:∀ {Q':VK}{E':XK}{G:Hp},Den G v (fG L R U ab)->lO G W t dd->(o=none->∀(u:V)(B:D)(F:Hp),Same G F->Den F u B->(∃ kb' g,B=fG L R kb' g/\Aft L U ab t kb' g dd)->Q' u F)->(∀ e,o=some e->cP (c5 Us Ur Uv Ut Uu e) G E')->uE (c5 Us Ur Uv Ut Uu) [v,.ref W] G Q' E':=λg1 g2 h1 h2=>⟨dd.ix,v,W,t,dd,L,R,U,ab,rfl,g1,g2,rfl,bp,ax,λhe u kb' g F s' d' ha=>h1 (ho.symm.trans he) u _ F s' d' ⟨kb',g,rfl,ha⟩,λe he=>h2 e (ho.symm.trans he)⟩
  refine rO (λσ F=>∃ u:V,σ=[some (.ref d),some v,some (.ref O),some (.int 40),some (.ref M.m),some (.int (0+(i:Nat))),some (.ref W),some u,some (.str (wdE o))]/\Same H2 F/\(o=none->∃ kb' g,Den F u (fG L R kb' g)/\Aft L U ab t kb' g dd)) (λN Z=>?_) ?_
  .refine⟨_,rfl,_,rfl,v,W,o,λB=>∃ kb' g,B=fG L R kb' g/\Aft L U ab t kb' g dd,rfl,aE,λQ' E' h1 h2=>ag b7 bE h1 h2,λho t u B H3 s3 et du hB=>?_,λe ho t H3 s3 et=>?_⟩
   .subst ho;obtain⟨kb',g,rfl,ha⟩:=hB;exact⟨t,_,rfl,SqT.of et,rfl,_,_,rfl,_,_,rfl,rfl,Z _ _ ⟨u,rfl,s3,λ_=>⟨kb',g,du,ha⟩⟩⟩
   .subst ho;exact⟨t,_,rfl,SqT.of et,rfl,_,_,rfl,_,_,rfl,rfl,Z _ _ ⟨.non,rfl,s3,λz=>nomatch z⟩⟩
  rintro σ H3 ⟨u,rfl,s3,du⟩;have p3:=p2.same s3;have ac:=cK.same s3;have a0:=s3 _ _ bX;have b6:=b7.same s3;have b4:=bE.keepT λb vs h=>s3 _ _ h
  refine rO (λσ F=>σ=[some (.ref d),some v,some (.ref O),some (.int 40),some (.ref M.m),some (.int (0+(i:Nat))),some (.ref W),some u,some (.str (wdE o))]/\Eu M H3 F/\∃(M':Md)(ks':List Lnk)(I:Nms),M'.m=M.m/\M'.b=60/\fH [O,d,lo] F M' L R ks' I/\(o=none->MAf ks al t ks' I dd)/\(o≠none->ks'=ks/\I=al)) (λN Z=>?_) ?_
  .refine⟨_,rfl,_,rfl,_,rfl,Tv ac (bS p3 a0) b4 ax (by lia) (by lia) (λe he H4 s4=>?_) (λhe H4 M' ks' I hm k4 m4 ma=>?_)⟩
   .rw[← X] at he;subst he;exact⟨rfl,_,rfl,dO (λz=>by simp at z) λ_=>Z _ _ ⟨rfl,λa o h _ _=>s4 _ _ h,M,ks,al,rfl,ah,ac.same s4,(λz=>nomatch z),λ_=>⟨rfl,rfl⟩⟩⟩
   .rw[← X] at he;subst he;exact⟨rfl,_,rfl,dO (λz=>by simp at z) λ_=>Z _ _ ⟨rfl,k4,M',ks',I,hm.1,hm.2.trans ah,m4,(λ_=>ma),λz=>absurd rfl z⟩⟩
  rintro σ H4 ⟨rfl,k4,M',ks',I,hm,b5,bP,bv,cw⟩;have kT:∀(b:Addr)(vs:List V),H3 b=some (.tup vs)->H4 b=some (.tup vs):=λb vs h=>k4 _ _ h (ac.no_tup h) (by intros;intro z;cases z)
  have bn:H4 O=some (.lst (sp.map mkT)):=k4 _ _ a0 (λz=>ac.off O z (.head _)) λa' b' t' c' d' z=>vq z.symm
  have p4:bh d lo H4:=by
   obtain⟨cs,x,y,z,e1,e2,r⟩:=p3;exact⟨cs,x,y,z,k4 _ _ e1 (λq=>ac.off d q (by simp)) (by intros;intro q;cases q),k4 _ _ e2 (λq=>ac.off lo q (by simp)) λa' b' t' c' d' q=>zp q.symm,r⟩
  refine rO (λσ F=>∃(v':V)(kb':List Lnk)(g:Nms),σ=[some (.ref d),some v',some (.ref O),some (.int 40),some (.ref M.m),some (.int (0+(i:Nat))),some (.ref W),some u,some (.str (wdE o))]/\Same H4 F/\Den F v' (fG L R kb' g)/\Wk L R ks' I kb' g sp) (λN Z=>?_) ?_
  .refine⟨_,rfl,rfl,_,rfl,?_⟩;cases o with
   | some e =>
    obtain⟨e1,e2⟩:=cw (λz=>nomatch z);refine dO (λz=>?_) (λ_=>Z _ _ ⟨v,U,ab,rfl,Same.refl _,b6.keepT kT,by rw[e1,e2];exact S⟩);exact absurd (Xv z) λq=>(O5 (o:=some e)).mpr (λy=>nomatch y) |> λr=>by rw[XD q] at r;cases r
   | none =>
    refine lQ ?_;obtain⟨kb',g,cp,hA⟩:=du rfl;have hW:=S.next ax X.symm hA (bv rfl);have a3:Den H4 u (fG L R kb' g):=cp.keepT kT;have hF:=hW.fit;have d2:=hW.lk;have dt:=hW.la;have cT:SM L R ks' I:=⟨λp hp=>⟨(hW.mo p hp).1,(hW.mo p hp).2.1⟩,by lia,by lia,by lia,hW.kn,by lia⟩
    refine⟨_,rfl,_,rfl,[O,d,lo],M',L,R,ks',I,congrArg (λa=>[V.ref a]) hm.symm,bP,by lia,cT,λbk ei d0 H5 s5 db n1 n2=>?_⟩;have ek:=hW.nl.uniq n1;have ea:=hW.na.uniq n2;subst ek;subst ea;refine⟨_,5,a3.same s5,db,vd hF,by lia,_,rfl,Gw ?_⟩;refine⟨_,rfl,u,_,rfl,a3.same s5,Lr hF,λH6 s6=>⟨_,rfl,Gw ?_⟩⟩;have az:=s5.trans s6;have dc:Den H6 v (fG L R U ab):=(b6.keepT kT).same az;refine⟨_,rfl,_,rfl,v,W,none,λB=>∃ kb' g,B=fG L R kb' g/\Aft L U ab t kb' g dd,rfl,aE,λQ' E' h1 h2=>ag dc (b4.keepT λb vs h=>az _ _ (kT _ _ h)) h1 h2,λ_ t u2 B H7 s7 et cS hB=>⟨_,rfl,smn 2,λt2 c4=>?_⟩,λe ho=>(nomatch ho)⟩;obtain⟨bj,bt,rfl,c0⟩:=hB;have a5:=S.next ax X.symm c0 (bv rfl);have ek:=a5.nl.uniq hW.nl;have ea:=a5.na.uniq hW.na;subst ek;subst ea;have s8:=ao c4 (.tup [u,.str (wdE none)]);have e8:(upd H7 t2 (.tup [u,.str (wdE none)])) t2=some (.tup [u,.str (wdE none)]):=ak;have be:=(a3.same az).same (s7.trans s8);have cz:=az.trans (s7.trans s8);refine⟨[fG L R bj bt,.str (wdE none)],6,⟨t,_,rfl,s8 _ _ et,cS.same s8,rfl,trivial⟩,⟨t2,_,rfl,e8,be,rfl,trivial⟩,cY (by show 2<=100000;lia) λx hx=>?_,by lia,_,rfl,Gw ⟨_,rfl,Z _ _ ⟨u,bj,bt,rfl,cz,be,a5⟩⟩⟩;simp only[mem_cons,not_mem_nil,or_false] at hx;rcases hx with rfl | rfl
    .exact vd hF
    .exact cZ (n:=0) (eN _) 5
  rintro σ H5 ⟨v',kb',g,rfl,s5,c6,hW⟩;have p5:=p4.same s5;have b2:=bP.same s5;have Y:=s5 _ _ bn;refine⟨_,rfl,O,rfl,⟨_,SqL.of Y⟩,λlc av=>?_⟩;have co:lc≠lo:=(p5.ne av).2;have cv:fH [lc,d,lo] H5 M' L R ks' I:=(b2.shrink (T:=[d,lo]) λa ha=>Xm _ ha).grow av;have bz:sp.filter (λz=>decide (z ∉ (L++R).map (·.1)))=sp:=filter_eq_self.mpr λz hz=>XD (hW.sd z hz)
  refine cA (J:=Itl K0 O) (l:=lc) sp.length (λj σ' F=>∃ v1:Option V,σ'=[some (.ref M.m),v1]/\Same H5 F/\F lc=some (.lst (((sp.take j).filter λz=>decide (z ∉ (L++R).map (·.1))).map mkT))) ⟨none,rfl,ao av _,ak⟩ ?_ ?_
  .rintro σ' H6 ⟨v1,rfl,s6,e6⟩;rw[take_length,bz] at e6;exact⟨⟨_,SqL.of (s6 _ _ Y),by rw[XF];exact ql _⟩,hE.n _ _ ⟨_,_,_,_,v',lc,M',ks',kb',I,g,by rw[hm];rfl,p5.same s6,c6.same s6,cv.same s6,b5,e6,co,hW⟩⟩
  .rintro j σ' H6 hj ⟨v1,rfl,s6,e6⟩;have b1:(sp.map mkT)[j]?=some (mkT sp[j]):=by rw[XC,bK hj];rfl
   refine⟨⟨_,_,SqL.of (s6 _ _ Y),b1⟩,?_⟩;rintro N2 b8 y H7 ⟨rfl,hy⟩;have ey:y=mkT sp[j]:=Xn ((hy _ (SqL.of (s6 _ _ Y))).symm.trans b1);have a8:=take_one (bK hj);generalize sp[j]=z at ey a8;subst ey;refine gN ⟨_,rfl,_,rfl,[O,d,lo],M',L,R,ks',I,z,congrArg (λa=>[V.ref a,mkT z]) hm.symm,b2.same s6,λH8 s8=>⟨rfl,_,rfl,?_⟩⟩;rw[Bw];have bg:=s8 _ _ e6;have eh:=length_filter_le (λz=>decide (z ∉ (L++R).map (·.1))) (sp.take j);have ee:(sp.take j).length<=70:=by rw[length_take];lia
   refine dO (λc=>?_) (λc=>?_)
   .refine⟨_,rfl,_,bg,aH (by rw[XF];lia),b8 _ _ ⟨_,rfl,bO (s6.trans s8) av,?_⟩⟩;rw[ak,a8,filter_append,filter_cons_of_pos (p:=λz=>decide (z ∉ (L++R).map (·.1))) c,filter_nil];exact congrArg (λq=>some (HO.lst q)) (map_append (f:=mkT) (l₂:=[z])).symm
   .refine b8 _ _ ⟨_,rfl,s6.trans s8,?_⟩;rw[a8,filter_append,filter_cons_of_neg (p:=λz=>decide (z ∉ (L++R).map (·.1))) c,filter_nil,append_nil];exact bg
 .rintro σ H1 ⟨v5,v6,v7,v8,v,O,M,ks,U,al,ab,rfl,_⟩;exact k H1
end
def Iz(K:W.Frag):Sp:=λc H Q _=>∃(a:Addr)(ns:List Int),c=[.ref a]/\SqL K H a (ns.map V.int)/\ns.length<=63/\∀ b,Q (.bl true) b
def Hf{α:Type}{f:α->D}{xs:List α}(h:xs.Pairwise λa b=>dlt (f a) (f b)=true):UpD (xs.map f):=by
 unfold UpD;rw[pairwise_map];refine h.imp fun {a b} h=>?_
 cases z:dlt (f b) (f a) with
 | false=>rfl
 | true =>
  have:=zc _ _ _ h z;rw[wD] at this;cases this
def En{n:Nat}{ks:List Lnk}{k:Lnk}(hk:k∈ks)(h:(aY n ks).Nodup):(dR n k).Nodup:=by
 have h':((ks.map (dR n)).flatten).Nodup:=h;exact h'.sublist (List.sublist_flatten_of_mem (mem_map_of_mem hk))
def NP{x:List Nat}(h:isNm ⟨x.toArray⟩=true):x.length<=400:=by
 unfold isNm at h;rw[Bool.and_eq_true,Bool.and_eq_true] at h;have:=Xv h.1.2;have e:(⟨x.toArray⟩:Str).length=x.length:=XM;lia
theorem rT{n:Nat}:∀ {ks:List Lnk},(aY n ks).Nodup->ks.Pairwise λa b=>∀ x∈dR n a,x ∉ dR n b
 | [],_=>.nil
 | k::ks,h=>by
  have h:(dR n k++aY n ks).Nodup:=h;obtain⟨_,f,c⟩:=nodup_append.mp h;exact .cons (λb e x g d=>c x g x (mem_flatMap.mpr ⟨b,e,d⟩) rfl) (rT f)
def Gx{k:Lnk}(h:rM k):Nrm k k:=⟨.refl _,Hf h.1.2.1,.refl _,Hf h.2.1.2.1,rfl,h.2.2.2.2.2.2.1.2.1,λ_=>Iff.rfl,h.2.2.2.2.2.2.2.2.1,λ_=>Iff.rfl⟩
theorem uD:∀ {ks:List Lnk},(∀ k∈ks,rM k)->mF ks ks
 | [],_=>trivial
 | k::ks,h=>⟨Gx (h k (.head _)),uD λb a=>h b (.tail _ a)⟩
def Rf{L R:List Prt}{ks:List Lnk}{al sp:Nms}(g:Jh L R ks al)(hL:L.length<=12)(hR:R.length<=12)(c:sp≠[])(h2:sp.length<=70)(h3:∀ x∈sp,x.length<=400)(h4:∀ x∈sp,x ∉ (L++R).map (·.1)):Wk L R ks al ks al sp:=by
 have d:=g.nd2;have f:=(d.sublist (sublist_append_left _ _)).sublist (sublist_append_left _ _);have e:=(d.sublist (sublist_append_left _ _)).sublist (sublist_append_right _ _);have na:=d.sublist (sublist_append_right _ _);refine⟨λp h=>?_,g.nd,hL,hR,c,h2,h3,h4,λk a x b=>g.on x (mem_flatMap.mpr ⟨k,a,b⟩),λk a x b=>g.off x (mem_flatMap.mpr ⟨k,a,b⟩),λk a=>(g.links k a).2.2.1,rT f,rT e,λk a=>?_,na,g.al_in,⟨⟨ks,uD g.links,.refl _⟩,Hf g.up⟩,⟨.refl _,Hf g.alone.2.1⟩⟩
 .have hg:=g.parts p h;exact⟨hg.2.2.2.1.2.1,(by have:=hg.2.2.2.1.2.2;lia),NP hg.1⟩
 .have i:k.1.length<=(L.map (·.1)).length:=jZ (En (n:=0) a f) λx b=>g.on x (mem_flatMap.mpr ⟨k,a,b⟩)
  have c:k.2.1.length<=(R.map (·.1)).length:=jZ (En (n:=1) a e) λx b=>g.off x (mem_flatMap.mpr ⟨k,a,b⟩)
  rw[XF] at i c;have hg:=g.links k a;exact⟨by lia,by lia,Xz hg.2.2.2.2.2.2.1.2.2 (by decide),Xz hg.2.2.2.2.2.2.2.2.2 (by decide)⟩
section
variable {Us Uw Ur Uv Ut Uu Uy Uz:Addr}
def Hl:aU ["_law_script","_law_pot_here","_law_names_here","_law_book_here"] ["_law_script"] (aC IK):=⟨rfl,rfl,rfl,by decide +kernel,rfl,by decide +kernel,by decide +kernel⟩
theorem Pr{f:Addr}{fd:FuncData}(F:Fun K "law" "law" IK f fd)(I:Cal P w K mg base "_law_pot" 1 ["_law_script"] (Og K))(M:Cal P w K mg base "_law_names" 2 ["_law_pot_here"] Ft)(C:Cal P w K mg base "_law_book" 5 ["_law_pot_here","_law_names_here"] JN)(Z:Cal P w K mg base "_law_walked" 9 ["_law_pot_here","_law_book_here","_law_spare","_law_many"] (xW K Uw (a7 Us Ur Uv Ut Uu Uy Uz) (c5 Us Ur Uv Ut Uu)))(r:∀ e,e<=4->KC K Uw (a7 Us Ur Uv Ut Uu Uy Uz) e/\(c5 Us Ur Uv Ut Uu) e=(a7 Us Ur Uv Ut Uu Uy Uz) e):vH P w K mg base CX0 10 f fd ["_law_script"] (Iz K):=by
 refine F.ok Hl (λV H Q E u=>?_) (λY A outer s H V Q E n u=>?_)
 .obtain⟨a,ns,rfl,_⟩:=u
  rfl
 obtain⟨a,ns,rfl,N,O,k⟩:=u;refine⟨_,(au (aL (i:=1) Hl.nd rfl (Or.inl rfl) (aN I n (by decide) rfl (aj (pv 0) aq)))
  (au (aL (i:=2) Hl.nd rfl (Or.inl rfl) (aN M n (by decide) rfl (aj (pv 1) aq)))
  (au (aL (i:=3) Hl.nd rfl (Or.inl rfl) (aN C n (by decide) rfl (aj (pv 1) (aj (pv 2) aq))))
  (aB (aW (aN Z n (by decide) rfl (aj (pv 1) (aj (pv 3) (aj (pv 2) (aj aA aq)))))))))),?_⟩
 refine⟨_,rfl,a,ns,rfl,N,O,λd lo H1 s1 B=>?_⟩;refine⟨_,rfl,d,lo,rfl,B,λl xs H2 o W g U o2=>?_⟩;obtain⟨p,j⟩:=B.ne o;refine⟨_,rfl,_,rfl,d,lo,l,xs,rfl,U,W,p,j,g,λq L R ks al m H3 D gb S hR b X G o3=>?_⟩;obtain⟨J,t,v⟩:=g;have h:=(b.nodup_iff.mp t)
 rw[nodup_append] at h;have c:=b.length_eq;rw[Xr,XF,Xr] at c;exact⟨_,rfl,_,rfl,_,rfl,d,lo,l,.ref q,L,R,ks,al,m,rfl,G,D,X,j,Rf gb S hR (λz=>by rw[z,length_nil] at c;lia) (by lia) (λx y=>NP (v x (b.mem_iff.mpr (Xw _ y)))) (λx y z=>h.2.2 x z x y rfl),r,λT=>k T⟩
end
def all_mk{l:W.OpenLaw}{w:World}{K:W.Frag}{h:Heap}{mg:Str->Option Value}{fa f42:Addr}(X:K.In h)(G:h.Ns mainGlobals mg)(hfa:mg "law" = some (.ref fa))
  {B q:Option Addr}{C:Array (Option Value)}{A t r x j p:Value}
  (i1:FnI K "part_of" sZ)
  (i2:FnI K "side_of" sW)
  (i3:FnI K "link_of" qT)
  (i4:FnI K "is_lacking" jd)
  (i5:FnI K "replaced" j7)
  (i6:FnI K "without" jY)
  (i7:FnI K "with_one" m7)
  (i8:FnI K "relinked" jQ)
  (i9:FnI K "needed_link" gA)
  (i10:FnI K "check_linkable" bU)
  (i11:FnI K "link_done" jP)
  (i12:FnI K "loose_done" je)
  (i13:FnI K "step_done" jX)
  (i14:FnI K "alone_done" jf)
  (i15:FnI K "lack_done" jK)
  (i16:FnI K "done" Ij)
  (i17:FnI K "_law_pot" QH)
  (i18:FnI K "_law_next" Ie)
  (i19:FnI K "_law_count" yC)
  (i20:FnI K "_law_names" nY)
  (i21:FnI K "_law_taken" yV)
  (i22:FnI K "_law_text" HD)
  (i23:FnI K "_law_moments" mJ)
  (i24:FnI K "_law_sides" yK)
  (i25:FnI K "_law_some" FP)
  (i26:FnI K "_law_stood" qD)
  (i27:FnI K "_law_book" Ho)
  (i28:FnI K "_law_model" qC)
  (i29:FnI K "_law_as_book" tG)
  (i30:FnI K "_law_side" Iv)
  (i31:FnI K "_law_link" Jd)
  (i32:FnI K "_law_linked" oY)
  (i33:FnI K "_law_stand" tV)
  (i34:FnI K "_law_do" sDo)
  (i35:FnI K "_law_pick" HW)
  (i36:FnI K "_law_standing" jL)
  (i37:FnI K "_law_link_deed" fD)
  (i38:FnI K "_law_deed" Ip)
  (i39:FnI K "_law_tried" yt)
  (i40:FnI K "_law_kinds" uZ)
  (i41:FnI K "_law_walked" pI)
  (a42:W.nsIn K mainGlobals "law" = some (some (.ref f42)))(l42:K.lookup f42=some ⟨A,B,.func (W.fnOf "law" "law" (iG IK) (fB IK) (aC IK) .none t r x q j p),C⟩)(c42:W.codeIn K j "law" = true)(k42:W.keepIn K (.ref f42)=true)
  {Vn:Addr}(p_DOERS:W.nsIn K mainGlobals "DOERS" = some (some (.ref Vn)))(Vu:KFT K Vn iK)
  {c Uu Ur Ut d Uv f g:Addr}(p_NoPart:W.nsIn K mainGlobals "NoPart" = some (some (.ref c)))(p_Apart:W.nsIn K mainGlobals "Apart" = some (some (.ref Uu)))(p_NoPlace:W.nsIn K mainGlobals "NoPlace" = some (some (.ref Ur)))(p_Linked:W.nsIn K mainGlobals "Linked" = some (some (.ref Ut)))(p_TwainError:W.nsIn K mainGlobals "TwainError" = some (some (.ref d)))(p_Twice:W.nsIn K mainGlobals "Twice" = some (some (.ref Uv)))(p_NoText:W.nsIn K mainGlobals "NoText" = some (some (.ref f)))(p_NoDeed:W.nsIn K mainGlobals "NoDeed" = some (some (.ref g)))(x_NoPart:W.excIn K c vBm "ValueError.__new__" = true)(x_Apart:W.excIn K Uu vBm "ValueError.__new__" = true)(x_NoPlace:W.excIn K Ur vBm "ValueError.__new__" = true)(x_Linked:W.excIn K Ut vBm "ValueError.__new__" = true)(x_TwainError:W.excIn K d vBm "ValueError.__new__" = true)(b0k:KB K c d)(n01k:W.kin_not K c Ur=true)(n02k:W.kin_not K c Uv=true)(n03k:W.kin_not K c Ut=true)(n04k:W.kin_not K c Uu=true)(n05k:W.kin_not K c g=true)(n06k:W.kin_not K c f=true)(b1k:KB K Ur d)(n10k:W.kin_not K Ur c=true)(n12k:W.kin_not K Ur Uv=true)(n13k:W.kin_not K Ur Ut=true)(n14k:W.kin_not K Ur Uu=true)(n15k:W.kin_not K Ur g=true)(n16k:W.kin_not K Ur f=true)(b2k:KB K Uv d)(n20k:W.kin_not K Uv c=true)(n21k:W.kin_not K Uv Ur=true)(n23k:W.kin_not K Uv Ut=true)(n24k:W.kin_not K Uv Uu=true)(n25k:W.kin_not K Uv g=true)(n26k:W.kin_not K Uv f=true)(b3k:KB K Ut d)(n30k:W.kin_not K Ut c=true)(n31k:W.kin_not K Ut Ur=true)(n32k:W.kin_not K Ut Uv=true)(n34k:W.kin_not K Ut Uu=true)(n35k:W.kin_not K Ut g=true)(n36k:W.kin_not K Ut f=true)(b4k:KB K Uu d)(n40k:W.kin_not K Uu c=true)(n41k:W.kin_not K Uu Ur=true)(n42k:W.kin_not K Uu Uv=true)(n43k:W.kin_not K Uu Ut=true)(n45k:W.kin_not K Uu g=true)(n46k:W.kin_not K Uu f=true)
  (z_len:W.nsIn K mainGlobals "len" = some none)(z_int:W.nsIn K mainGlobals "int" = some none)(z_range:W.nsIn K mainGlobals "range" = some none)(z_isinstance:W.nsIn K mainGlobals "isinstance" = some none)(z_tuple:W.nsIn K mainGlobals "tuple" = some none)(z_bool:W.nsIn K mainGlobals "bool" = some none)(z_str:W.nsIn K mainGlobals "str" = some none)(z_list:W.nsIn K mainGlobals "list" = some none)(z_sorted:W.nsIn K mainGlobals "sorted" = some none)(z_min:W.nsIn K mainGlobals "min" = some none)(z_ValueError:W.nsIn K mainGlobals "ValueError" = some none)(z_sum:W.nsIn K mainGlobals "sum" = some none)(z_any:W.nsIn K mainGlobals "any" = some none)(z_all:W.nsIn K mainGlobals "all" = some none)(z_set:W.nsIn K mainGlobals "set" = some none) :
  ∃ fd:FuncData,(∀(s:Shared)(v:Value),BindsTo s fd ⟨[v],[]⟩ [("_law_script",v)])/\∀ base:Heap,K.In base->base.Ns mainGlobals mg->vH l.prog w K mg base CX0 10 fa fd ["_law_script"] (Iz K):=by
 have e:=hfa.symm.trans (W.mg_of X G a42);cases e
 have Wr:Has K mg "replaced" j7 ["row","place","thing"]:=i5.has X G λ_ _ _ _ _ _ b a=>KQ b a λ_ _ _=>rfl
 have Wt:Has K mg "relinked" jQ ["book","old","new"]:=i8.has X G λ_ _ _ _ _ _ b a=>KQ b a λ_ _ _=>rfl
 have VD:Has K mg "check_linkable" bU ["book","ones","others"]:=i10.has X G λ_ _ _ _ _ _ b a=>KQ b a λ_ _ _=>rfl
 have Xa:Has K mg "_law_some" FP ["_law_pot_here","_law_names_here","_law_most"]:=i25.has X G λ_ _ _ _ _ _ b a=>KQ b a λ_ _ _=>rfl
 have Xe:Has K mg "_law_pick" HW ["_law_pot_here","_law_some_here","_law_others"]:=i35.has X G λ_ _ _ _ _ _ b a=>KQ b a λ_ _ _=>rfl
 have Wi:Has K mg "_law_link_deed" fD ["_law_pot_here","_law_model_here","_law_t","_law_others"]:=i37.has X G λ_ _ _ _ _ _ b a=>R8 b a λ_ _ _ _=>rfl
 have Xf:Has K mg "_law_deed" Ip ["_law_pot_here","_law_model_here","_law_spare"]:=i38.has X G λ_ _ _ _ _ _ b a=>KQ b a λ_ _ _=>rfl
 have WR:Has K mg "_law_walked" pI ["_law_pot_here","_law_book_here","_law_spare","_law_many"]:=i41.has X G λ_ _ _ _ _ _ b a=>R8 b a λ_ _ _ _=>rfl
 have F42:=Jx (st:=IK) l42 c42 k42;have y:=W.mg_none_of X G z_len;have D:=W.mg_none_of X G z_int;have u:=W.mg_none_of X G z_range;have Z:=W.mg_none_of X G z_isinstance;have k:=W.mg_none_of X G z_tuple;have V8:=W.mg_none_of X G z_bool;have Wv:=W.mg_none_of X G z_str;have Vk:=W.mg_none_of X G z_list;have z:=W.mg_none_of X G z_sorted;have V1:=W.mg_none_of X G z_min;have Vt:=W.mg_none_of X G z_ValueError;have Xi:=W.mg_none_of X G z_sum;have V0:=W.mg_none_of X G z_any;have VH:=W.mg_none_of X G z_all;have VF:=W.mg_none_of X G z_set;have V2:=W.mg_of X G p_DOERS;have Vm:=W.mg_of X G p_NoPart;have I:=W.mg_of X G p_Apart;have Vj:=W.mg_of X G p_NoPlace;have U:=W.mg_of X G p_Linked;have Vs:=W.mg_of X G p_TwainError;have V7:=W.mg_of X G p_Twice;have VL:=W.mg_of X G p_NoText;have VN:=W.mg_of X G p_NoDeed;have Q:=mgk X G;have L:KC K d (a7 c Ur Uv Ut Uu g f) 0:=⟨b0k.ek,b0k.un,b0k.ii,b0k.iv,λi n m=>match i,n,m with | 0,_,h=>absurd rfl h | 1,_,_=>n01k | 2,_,_=>n02k | 3,_,_=>n03k | 4,_,_=>n04k | 5,_,_=>n05k | 6,_,_=>n06k⟩
 have E:KC K d (a7 c Ur Uv Ut Uu g f) 1:=⟨b1k.ek,b1k.un,b1k.ii,b1k.iv,λi n m=>match i,n,m with | 0,_,_=>n10k | 1,_,h=>absurd rfl h | 2,_,_=>n12k | 3,_,_=>n13k | 4,_,_=>n14k | 5,_,_=>n15k | 6,_,_=>n16k⟩
 have R:KC K d (a7 c Ur Uv Ut Uu g f) 2:=⟨b2k.ek,b2k.un,b2k.ii,b2k.iv,λi n m=>match i,n,m with | 0,_,_=>n20k | 1,_,_=>n21k | 2,_,h=>absurd rfl h | 3,_,_=>n23k | 4,_,_=>n24k | 5,_,_=>n25k | 6,_,_=>n26k⟩
 have M:KC K d (a7 c Ur Uv Ut Uu g f) 3:=⟨b3k.ek,b3k.un,b3k.ii,b3k.iv,λi n m=>match i,n,m with | 0,_,_=>n30k | 1,_,_=>n31k | 2,_,_=>n32k | 3,_,h=>absurd rfl h | 4,_,_=>n34k | 5,_,_=>n35k | 6,_,_=>n36k⟩
 have T:KC K d (a7 c Ur Uv Ut Uu g f) 4:=⟨b4k.ek,b4k.un,b4k.ii,b4k.iv,λi n m=>match i,n,m with | 0,_,_=>n40k | 1,_,_=>n41k | 2,_,_=>n42k | 3,_,_=>n43k | 4,_,h=>absurd rfl h | 5,_,_=>n45k | 6,_,_=>n46k⟩
 have V:∀ e,e<=4->KC K d (a7 c Ur Uv Ut Uu g f) e/\(c5 c Ur Uv Ut Uu) e=(a7 c Ur Uv Ut Uu g f) e:=λe h=>match e,h with | 0,_=>⟨L,rfl⟩ | 1,_=>⟨E,rfl⟩ | 2,_=>⟨R,rfl⟩ | 3,_=>⟨M,rfl⟩ | 4,_=>⟨T,rfl⟩
 refine⟨W.fnOf "law" "law" (iG IK) (fB IK) (aC IK) .none t r x q j p,λs v=>.of_eq rfl,λbase _ _=>?_⟩;have Vg:=Bv (P:=l.prog) (w:=w) (base:=base) (i1.has X G λ_ _ _ _ _ _ b a=>len2 b a λ_ _=>rfl) Vm x_NoPart;have U8:=Br (i2.has X G λ_ _ _ _ _ _ b a=>len2 b a λ_ _=>rfl) Vg;have Vi:=FQ (i3.has X G λ_ _ _ _ _ _ b a=>len2 b a λ_ _=>rfl) U8;have H:=Ba (P:=l.prog) (w:=w) (base:=base) Wr;have U6:=vf (i4.has X G λ_ _ _ _ _ _ b a=>len2 b a λ_ _=>rfl) Vi;have U9:=zZ (P:=l.prog) (w:=w) (base:=base) (i7.has X G λ_ _ _ _ _ _ b a=>len2 b a λ_ _=>rfl) k z VF;have Vh:=Cu (P:=l.prog) (w:=w) (base:=base) (i6.has X G λ_ _ _ _ _ _ b a=>len2 b a λ_ _=>rfl) k;have N:=zX Wt Vh U9 H;have U5:=qY (i9.has X G λ_ _ _ _ _ _ b a=>len2 b a λ_ _=>rfl) I x_Apart Vi;have Va:=mD VD Vj x_NoPlace U x_Linked U8 U6 V0 VH (Uv:=Uv) (Uu:=Uu);have Vv:=xg (i11.has X G λ_ _ _ _ _ _ b a=>len2 b a λ_ _=>rfl) Va N k z (Uv:=Uv) (Uu:=Uu);have Vo:=uT (i12.has X G λ_ _ _ _ _ _ b a=>len2 b a λ_ _=>rfl) N U5 (Ur:=Ur) (Uv:=Uv) (Ut:=Ut);have Vw:=wM (i13.has X G λ_ _ _ _ _ _ b a=>len2 b a λ_ _=>rfl) U5 N (Ur:=Ur) (Uv:=Uv) (Ut:=Ut);have Vp:=uJ (i14.has X G λ_ _ _ _ _ _ b a=>len2 b a λ_ _=>rfl) U x_Linked U6 H U9 (Ur:=Ur) (Uv:=Uv) (Uu:=Uu);have Vx:=wC (i15.has X G λ_ _ _ _ _ _ b a=>len2 b a λ_ _=>rfl) I x_Apart Vg H Vh (Ur:=Ur) (Uv:=Uv) (Ut:=Ut);have Wn:=Qe (i16.has X G λ_ _ _ _ _ _ b a=>len2 b a λ_ _=>rfl) V2 Vu Q Vv Vo Vw Vp Vx;have WM:=RM (P:=l.prog) (w:=w) (base:=base) (i17.has X G λ_ _ _ _ _ _ b a=>len1 b a λ_=>rfl);have o:=Qx (P:=l.prog) (w:=w) (base:=base) (i18.has X G λ_ _ _ _ _ _ b a=>len2 b a λ_ _=>rfl);have O:=Nb (i19.has X G λ_ _ _ _ _ _ b a=>len2 b a λ_ _=>rfl) o D;have F:=Mq (i21.has X G λ_ _ _ _ _ _ b a=>len2 b a λ_ _=>rfl) o y;have S:=FN (i23.has X G λ_ _ _ _ _ _ b a=>len2 b a λ_ _=>rfl) o D u k;have V3:=Nk Xa O F V1 y k z u;have Wj:=Ot (i22.has X G λ_ _ _ _ _ _ b a=>len1 b a λ_=>rfl) o u;have V4:=LQ (i24.has X G λ_ _ _ _ _ _ b a=>len2 b a λ_ _=>rfl) O S Wj F u k;have Wa:=K4 (i20.has X G λ_ _ _ _ _ _ b a=>len1 b a λ_=>rfl) o u;have V5:=Le (i26.has X G λ_ _ _ _ _ _ b a=>len2 b a λ_ _=>rfl) O V3 S o u k z;have Wq:=Nz (i27.has X G λ_ _ _ _ _ _ b a=>len2 b a λ_ _=>rfl) V4 V5;have Y:=PL (P:=l.prog) (w:=w) (base:=base) (i30.has X G λ_ _ _ _ _ _ b a=>len2 b a λ_ _=>rfl);have VG:=M7 (i39.has X G λ_ _ _ _ _ _ b a=>len2 b a λ_ _=>rfl) Vs x_TwainError V7 Vj Vm I U VL VN Wn Z Vt;have Vz:=Fb (P:=l.prog) (w:=w) (base:=base) (i40.has X G λ_ _ _ _ _ _ b a=>len1 b a λ_=>rfl) Z k VH V8 D Wv 6;have Wm:=Py Xe o y;have V9:=Ms (P:=l.prog) (w:=w) (base:=base) (i28.has X G λ_ _ _ _ _ _ b a=>len1 b a λ_=>rfl) Vk;have VB:=Ea (P:=l.prog) (w:=w) (base:=base) (i29.has X G λ_ _ _ _ _ _ b a=>len1 b a λ_=>rfl) k z VF;have J:=NZ (P:=l.prog) (w:=w) (base:=base) (i31.has X G λ_ _ _ _ _ _ b a=>len2 b a λ_ _=>rfl);have VJ:=IW (i32.has X G λ_ _ _ _ _ _ b a=>len2 b a λ_ _=>rfl) Y J y Vk;have V6:=KJ (i33.has X G λ_ _ _ _ _ _ b a=>len2 b a λ_ _=>rfl) J Y;have W6:=TQ (i34.has X G λ_ _ _ _ _ _ b a=>len2 b a λ_ _=>rfl) VJ V6;have Vb:=zW (i36.has X G λ_ _ _ _ _ _ b a=>len2 b a λ_ _=>rfl) J;have Vy:=vW Wi Vb o F V1 D y u k V0;have Wo:=Qi Xf o S Vy Wm Vb;have VP:=Ii WR V9 Wo VG W6 Vz VB Y u;exact Pr F42 WM Wa Wq VP V
def walk{l:W.OpenLaw}{q:Program}{loose:List Str}{XP:(Str->Option Value)->Heap->Prop}{YP:World->Heap->Prop}{d:DefRec}{K:Params->W.Frag}(hn:l.most=some 63)(hdf:d.params.defaults=[])
  (hY:∀(w:World)(h:Heap),YP w h->(K w.params).In h)
  (F:∀(w:World)(mg:Str->Option Value)(fa:Addr)(h:Heap),(K w.params).In h->h.Ns mainGlobals mg->mg d.name=some (.ref fa) ->
   ∃ b:FuncData,(∀(s:Shared)(u:Value),BindsTo s b ⟨[u],[]⟩ [("_law_script",u)])/\∀ base:Heap,(K w.params).In base->base.Ns mainGlobals mg->vH l.prog w (K w.params) mg base CX0 10 fa b ["_law_script"] (Iz (K w.params))) :
  W.WalkO q loose XP YP l.row.toRowW d [] (λf g=>PySem.call f g) :=
 L2.Ly (n:=63) (k:=10) (x:="_law_script") (CX:=λ_=>CX0) (sp:=λw=>Iz (K w.params)) hn (by decide) hdf ⟨rfl,by decide,by decide⟩ hY F (λ_ _ a ns e _ c=>⟨a,ns,rfl,c,e,λ_=>rfl⟩) λ_ _ _ _ _ z=>z
end Mine
namespace PySem.W.Fast
def tw11551861603978713783:=()
def tw1726330989864659614:=()
def tw18361775569061990094:=()
def tw15418730060684165090:=()
def tw17042920214732031459:=()
def tw10138874256137462885:=()
def tw4309785787495083271:=()
def tw852668201794937836:=()
def tw1126803551255422842:=()
def tw65096311043314428:=()
def tw11305036831194643449:=()
def tw17130584524659860646:=()
def tw13633558576176015388:=()
def tw12707594557142573767:=()
def tw3973294020140097313:=()
def tw1029189347112582736:=()
def tw5614386706868965110:=()
def tw2869573930531296092:=()
def tw694657700795754281:=()
def tw13203567934444683712:=()
def tw16114478971603460906:=()
def tw9723599755560934502:=()
def tw12521216721262274576:=()
def tw5746262915090210981:=()
def tw5713323286839699852:=()
def tw11690119701028193314:=()
def tw13929257425932455797:=()
def tw11098800937876190179:=()
def tw5498126246831167153:=()
def tw1700777798386764085:=()
def tw2678495451866983645:=()
def tw2548483575279190038:=()
def tw3099890299884760240:=()
def tw9258873394087975935:=()
def tw7807662193834905117:=()
def tw3342194143524637802:=()
def tw11594867781154736798:=()
def tw6407955248297743388:=()
def tw7436868223583892944:=()
def tw15026457153669533729:=()
def tw13228655084129954534:=()
def tw10829347358022911547:=()
def tw16486048419241666691:=()
def tw7960771221063302331:=()
def tw3301881680917486383:=()
def tw17837885879089164940:=()
def tw9667299228409663888:=()
def tw4621715163704141488:=()
def tw6946060040359413123:=()
def tw8657022175570356965:=()
def tw75421261142413703:=()
def tw4446868995207069104:=()
def tw200383836848412989:=()
def tw5306577409731793043:=()
def tw8920409630711274557:=()
def tw12444815023505170030:=()
def tw10975678862929888062:=()
def tw9940202059382784362:=()
def tw561364862541892398:=()
def tw6385567331533041035:=()
def tw15415346026417324207:=()
def tw10590686123807568698:=()
def tw5577348464776663685:=()
def tw11713572644792704158:=()
def tw2269069632111240284:=()
def tw2573131133434630234:=()
def tw16529965835513467108:=()
def tw6254587131314012240:=()
def tw1884646419824236575:=()
def tw10789434220442083615:=()
def tw13918493758249875359:=()
def tw321239586570988873:=()
def tw2966076009528799350:=()
def tw2778737234008313890:=()
def tw11369793421344973628:=()
def tw11370118857706412243:=()
def tw806990272507926378:=()
def tw2637552129064888189:=()
def tw11900870252292696686:=()
def tw15828764106066177933:=()
def tw14547388108717994029:=()
def tw12635880431983425567:=()
def tw2036065135760334829:=()
def tw3340723475679441354:=()
def tw9325498839365659471:=()
def tw4908692353605884149:=()
def tw13798717111627945805:=()
def tw9947440078671961530:=()
def tw5243751009460180668:=()
def tw12236370782504430004:=()
def tw5719533675402377265:=()
def tw142718649217730358:=()
def tw2565609702429241506:=()
def tw437879592767645507:=()
def tw18151892806295346475:=()
def tw9645607486029559905:=()
def tw2848308198372096298:=()
def tw18320468958306596130:=()
def tw4469999047750244956:=()
def tw15030301279916462392:=()
def tw16889222813288673793:=()
def tw4534080695069111749:=()
def tw10599936477764311996:=()
def tw13211348708808174131:=()
def tw11677378098360289284:=()
def tw13189063895034212082:=()
def tw14675149415269924699:=()
def tw17231303886356675546:=()
def tw5070205089538676566:=()
def tw5605257459716858947:=()
def tw10952779797627611973:=()
def tw16249767683835116196:=()
def tw9991320126578453143:=()
def tw996168186567094050:=()
def tw8469974813016447903:=()
def tw17337108554562129331:=()
def tw3370275827969727429:=()
def tw11801532366837687900:=()
def tw8582391433106365385:=()
def tw16860840279014198890:=()
def tw5383043896438942611:=()
def tw6211821908337716408:=()
def tw1536703715911465377:=()
def tw3653645542092327059:=()
def tw12431000369103348762:=()
def tw16058004083453430482:=()
def tw2827489619414993732:=()
def tw13574957283452594697:=()
def tw1312375859676256740:=()
def tw371104672559254848:=()
def tw9503861176304855147:=()
def tw17022601205819745056:=()
def tw2093652183609286059:=()
def tw9871000279280902704:=()
def tw9044659568364425696:=()
def tw14947959174043001267:=()
def tw1712984802865198290:=()
def tw5199858062069190824:=()
def tw12938267859442894843:=()
def tw4137321622475531947:=()
end PySem.W.Fast
open PySem PySem.W PyProof.Rows
set_option maxRecDepth 100000 in
set_option maxHeartbeats 0 in
theorem PySem.Challenge.cw_twainkeep_k23_how_parts_stand_holds : PySem.Challenge.rw_twainkeep_k23_how_parts_stand.Holds := by
 w_on;o_law;k_head;(case hw=>w_witness2)
 k_fill
 refine Mine.walk (l:=PySem.Challenge.rw_twainkeep_k23_how_parts_stand) rfl rfl (fun w h Y=>PySem.W.kIn_of Y) ?F
 case F =>
  intro w mg e h d G b;refine' Mine.all_mk d G b ?i1 ?i2 ?i3 ?i4 ?i5 ?i6 ?i7 ?i8 ?i9 ?i10 ?i11 ?i12 ?i13 ?i14 ?i15 ?i16 ?i17 ?i18 ?i19 ?i20 ?i21 ?i22 ?i23 ?i24 ?i25 ?i26 ?i27 ?i28 ?i29 ?i30 ?i31 ?i32 ?i33 ?i34 ?i35 ?i36 ?i37 ?i38 ?i39 ?i40 ?i41 ?a42 ?l42 ?c42 ?k42 ?p_DOERS ?Vu ?p_NoPart ?p_Apart ?p_NoPlace ?p_Linked ?p_TwainError ?p_Twice ?p_NoText ?p_NoDeed ?x_NoPart ?x_Apart ?x_NoPlace ?x_Linked ?x_TwainError ?b0k ?n01k ?n02k ?n03k ?n04k ?n05k ?n06k ?b1k ?n10k ?n12k ?n13k ?n14k ?n15k ?n16k ?b2k ?n20k ?n21k ?n23k ?n24k ?n25k ?n26k ?b3k ?n30k ?n31k ?n32k ?n34k ?n35k ?n36k ?b4k ?n40k ?n41k ?n42k ?n43k ?n45k ?n46k ?z_len ?z_int ?z_range ?z_isinstance ?z_tuple ?z_bool ?z_str ?z_list ?z_sorted ?z_min ?z_ValueError ?z_sum ?z_any ?z_all ?z_set
  case i1 | i2 | i3 | i4 | i5 | i6 | i7 | i8 | i9 | i10 | i11 | i12 | i13 | i14 | i15 | i16 | i17 | i18 | i19 | i20 | i21 | i22 | i23 | i24 | i25 | i26 | i27 | i28 | i29 | i30 | i31 | i32 | i33 | i34 | i35 | i36 | i37 | i38 | i39 | i40 | i41=>refine' L2.fni ?a ?l ?c ?k;(case a=>k_is);(case l=>k_is);(case c=>k_is);(case k=>k_is)
  case a42 | l42 | c42 | k42 | p_DOERS | p_NoPart | p_Apart | p_NoPlace | p_Linked | p_TwainError | p_Twice | p_NoText | p_NoDeed | z_len | z_int | z_range | z_isinstance | z_tuple | z_bool | z_str | z_list | z_sorted | z_min | z_ValueError | z_sum | z_any | z_all | z_set=>k_is
  case Vu=>(unfold L2.KFT;kernel_rfl)
  case x_NoPart | x_Apart | x_NoPlace | x_Linked | x_TwainError=>first | k_exc | k_is
  case b0k | b1k | b2k | b3k | b4k=>exact⟨⟨by k_is,by k_is,by k_is,by k_is,by k_is,by k_is⟩,by k_is,by k_is,by k_is⟩
  case n01k | n02k | n03k | n04k | n05k | n06k | n10k | n12k | n13k | n14k | n15k | n16k | n20k | n21k | n23k | n24k | n25k | n26k | n30k | n31k | n32k | n34k | n35k | n36k | n40k | n41k | n42k | n43k | n45k | n46k=>exact L2.zK (by decide) (by k_is) (by k_is) (by k_is)
